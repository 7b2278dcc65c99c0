/- Nest1, Nest2, Nest3, Nest4 -/
import Derived.Test.YtmgfijllcdadgabGreatDoorPCSplit
set_option linter.unusedVariables false
set_option linter.unusedSimpArgs false
namespace Go.Proofs.YtmgfijllcdadgabGreatDoor
open Mk (St Bs Ev Att)
def chars (l:Bs):Nat:=l.countP fun x=>x<128 || 191<x
theorem chars_app (l m:Bs):chars (l ++ m)=chars l + chars m:=by unfold chars;exact List.countP_append
theorem u8_lt {c:Int} (h0:0≤c) (h1:c<128):(decide (Mk.u8 c<128) || decide (191<Mk.u8 c))=true:=by
  have:=u8_nat h0 (by omega)
  simp
  left
  show (Mk.u8 c).toNat<128
  omega
theorem u8_gt {c:Int} (h0:192≤c) (h1:c≤255):(decide (Mk.u8 c<128) || decide (191<Mk.u8 c))=true:=by
  have:=u8_nat (show 0≤c by omega) h1
  simp
  right
  show 191<(Mk.u8 c).toNat
  omega
theorem u8_mid {c:Int} (h0:128≤c) (h1:c≤191):(decide (Mk.u8 c<128) || decide (191<Mk.u8 c))=false:=by
  have:=u8_nat (show 0≤c by omega) (by omega)
  simp
  constructor
  · show 128≤(Mk.u8 c).toNat
    omega
  · show (Mk.u8 c).toNat≤191
    omega
theorem chars_encode {c:Int} (h0:0≤c) (h1:c≤1114111):chars (Mk.encode c)=1:=by
  unfold chars Mk.encode Mk.encodeI
  split
  · simp [u8_lt h0 (by omega)]
  · split
    · simp [u8_gt (c:=192 + c / 64) (by omega) (by omega),u8_mid (c:=128 + c % 64) (by omega) (by omega)]
    · split
      · simp [u8_gt (c:=224 + c / 4096) (by omega) (by omega),u8_mid (c:=128 + c / 64 % 64) (by omega) (by omega),u8_mid (c:=128 + c % 64) (by omega) (by omega)]
      · simp [u8_gt (c:=240 + c / 262144) (by omega) (by omega),u8_mid (c:=128 + c / 4096 % 64) (by omega) (by omega),u8_mid (c:=128 + c / 64 % 64) (by omega) (by omega),u8_mid (c:=128 + c % 64) (by omega) (by omega)]
def Oka (t:Int) (a:Att):Prop:=(a.name.length:Int)≤t∧(chars a.val:Int)≤t
def Names (l:List Att):List Bs:=l.map (·.name)
structure V (s:St):Prop where
  on:s.on=false
  cn:s.cnt=[]
  ct:(s.state=7∨s.state=8∨s.state=11∨s.state=12∨s.state=14∨s.state=17)→s.count=chars s.token∧s.count≤s.ot
  tn:s.state=14→(s.token.length:Int)≤s.ot
  at1:∀ a ∈ s.attrs,Oka s.ot a
  at2:(Names s.attrs).Nodup
  at3:(s.attrs.length:Int)≤s.oa
  an:(s.state=15∨s.state=16∨s.state=17)→(s.attr.length:Int)≤s.ot∧s.attr ∉ Names s.attrs∧(s.attrs.length:Int)<s.oa
  al:s.state=14→(s.attrs.length:Int)<s.oa
  nm:(9≤s.state∧s.state≤11)→(s.name.length:Int)≤s.ot
  pc:0<s.pl→s.count + 1≤s.ot∨s.state=1∨s.state=2
  rp:Mk.isOpen s.rp=true→s.state=17→s.count + 1≤s.ot
theorem v_put_in {s:St} (h:V s) (hst:s.state=1∨s.state=2) (c:Int):V (Mk.put s c):=by
  have hin:Mk.inText s=true:=by unfold Mk.inText;rcases hst with e | e <;> rw [e] <;> rfl
  rw [put_in hin]
  exact { h with }
theorem v_put_out {s:St} (h:V s) (hst:s.state=7∨s.state=11∨s.state=17) (c:Int) (h0:0≤c) (h1:c≤1114111) (hf:s.count + 1≤s.ot) (hpl:s.pl=0) (hro:Mk.isOpen s.rp=false):V (Mk.put s c):=by
  have hin:Mk.inText s=false:=by unfold Mk.inText;rcases hst with e | e | e <;> rw [e] <;> rfl
  have hc:=h.ct (by omega)
  rw [put_out hin]
  exact { h with
    ct:=fun _=>⟨by show s.count + 1=(chars (s.token ++ Mk.encode c):Int);rw [chars_app,chars_encode h0 h1];omega,hf⟩
    tn:=fun g=>by exfalso;have g:s.state=14:=g;omega
    pc:=fun g=>by have g:0<s.pl:=g;omega
    rp:=fun g=>by have g:Mk.isOpen s.rp=true:=g;rw [hro] at g;cases g }
theorem isChar_bds {c:Int} (h:Mk.isChar c=true):0≤c∧c≤1114111:=by
  unfold Mk.isChar at h
  split at h
  · simp at h;omega
  · split at h <;> simp at h <;> omega
theorem v_goOn {s:St} (h:V { s with pl:=0,pc:=0 }) (hst:s.state=1∨s.state=2∨s.state=7∨s.state=11∨s.state=17) (hro:Mk.isOpen s.rp=false) (p:Int × Int) (hp:p.2=0→0≤p.1∧p.1≤1114111) (hf:s.count + 1≤s.ot∨s.state=1∨s.state=2):V (Mk.goOn s p):=by
  unfold Mk.goOn
  split
  · rename_i h0
    have h0:p.2=0:=by simpa using h0
    have hz:V { s with pc:=p.1,pl:=p.2 }:={ h with pc:=fun g=>by have g:0<p.2:=g;omega }
    by_cases h12:s.state=1∨s.state=2
    · exact v_put_in hz h12 _
    · exact v_put_out hz (by show s.state=7∨s.state=11∨s.state=17;omega) _ (hp h0).1 (hp h0).2 (by show s.count + 1≤s.ot;omega) h0 hro
  · exact { h with pc:=fun _=>hf }
theorem held_chars {s:St} (h:W s):∀ x ∈ s.held,x.toNat<128:=by
  rcases h.hs with e | ⟨_,e | e⟩ | ⟨_,e | e⟩ | ⟨_,e⟩ <;> rw [e] <;> decide
theorem v_putAll:∀ (l:Bs) {s:St},V s→(∀ x ∈ l,x.toNat<128)→(s.state=1∨s.state=2∨s.state=7∨s.state=11∨s.state=17)→s.pl=0→Mk.isOpen s.rp=false→(s.count + l.length≤s.ot∨s.state=1∨s.state=2) →
    V (Mk.putAll s l)∧((s.state=1∨s.state=2)∨(Mk.putAll s l).count=s.count + l.length)
  | [],s,h,_,_,_,_,_=>⟨h,.inr (by simp [Mk.putAll])⟩
  | y :: r,s,h,hl,hst,hpl,hro,hf=>by
    have hy:=hl y List.mem_cons_self
    obtain ⟨x,t,n,e1,e2⟩:=put_core s y.toNat
    by_cases h12:s.state=1∨s.state=2
    · have hv:=v_put_in h h12 (y.toNat:Int)
      have:=v_putAll r hv (fun x hx=>hl x (List.mem_cons_of_mem _ hx)) (by rw [e1];exact hst) (by rw [e1];exact hpl) (by rw [e1];exact hro) (.inr (by rw [e1];exact h12))
      exact ⟨this.1,.inl h12⟩
    · have hin:Mk.inText s=false:=by unfold Mk.inText;simp;omega
      have hf' : s.count + ((r.length + 1:Nat):Int)≤s.ot:=by rcases hf with hf | hf;exact hf;exact absurd hf h12
      have hv:=v_put_out h (by omega) (y.toNat:Int) (by omega) (by omega) (by omega) hpl hro
      have e3:(Mk.put s (y.toNat:Int)).count=s.count + 1:=by rw [put_out hin]
      have:=v_putAll r hv (fun x hx=>hl x (List.mem_cons_of_mem _ hx)) (by rw [e1];exact hst) (by rw [e1];exact hpl) (by rw [e1];exact hro) (.inl (by rw [e3];rw [e1];show s.count + 1 + (r.length:Int)≤s.ot;omega))
      refine ⟨this.1,.inr ?_⟩
      rcases this.2 with g | g
      · exfalso;rw [e1] at g;exact h12 g
      · show (Mk.putAll (Mk.put s (y.toNat:Int)) r).count=_
        rw [g,e3];simp;omega
theorem v_readCharacter {s:St} (hw:Wq s) (h:V s) (hst:s.state=1∨s.state=2∨s.state=7∨s.state=11∨s.state=17) (b:Int) (h0:0≤b) (he:(Mk.readCharacter s b).2=0):V (Mk.readCharacter s b).1:=by
  unfold Mk.readCharacter at he ⊢
  split at he
  · simp at he
  · rename_i p hp
    dsimp only
    split at he
    · rename_i hf
      rw [if_pos hf]
      have hf2:s.count + (s.held.length + 1)≤s.ot∨s.state=1∨s.state=2:=by
        unfold Mk.fits Mk.inText at hf
        by_cases h12:s.state=1∨s.state=2
        · exact .inr h12
        · left
          have:(s.state == 1 || s.state == 2)=false:=by simp;omega
          rw [this] at hf
          simpa using hf
      have hpa:=v_putAll s.held h (held_chars hw.toW) hst hw.q hw.r (by rcases hf2 with g | g;exact .inl (by omega);exact .inr g)
      obtain ⟨x,t,n,h1,h2⟩:=putAll_core s.held s
      have hv:=hpa.1
      have hcn:=hpa.2
      rw [h1] at hv hcn ⊢
      dsimp only at hcn
      refine v_goOn (s:={ s with text:=x,token:=t,count:=n,held:=[] }) ?_ hst hw.r p (fun g => ?_) ?_
      · exact { hv with pc:=fun g=>absurd (show (0:Int)<0 from g) (by decide) }
      · unfold Mk.begin_ at hp
        split at hp
        · rename_i hb;cases hp;exact isChar_bds hb.2
        · split at hp
          · cases hp;cases g
          · split at hp
            · cases hp;cases g
            · split at hp
              · cases hp;cases g
              · cases hp
      · show n + 1≤s.ot∨s.state=1∨s.state=2
        rcases hcn with g | g
        · exact .inr g
        · rcases hf2 with g2 | g2
          · left;omega
          · exact .inr g2
    · simp at he
theorem v_readPart {s:St} (hw:W s) (h:V s) (hl:0<s.pl) (b:Int) (he:(Mk.readPart s b).2=0):V (Mk.readPart s b).1:=by
  obtain ⟨g1,g2,g3,g4⟩:=hw.pl hl
  have hf:=h.pc hl
  unfold Mk.readPart at he ⊢
  split at he
  · simp at he
  · rename_i p hp
    dsimp only
    refine v_goOn ?_ g1 g4 p (fun g => ?_) hf
    · exact { h with pc:=fun g=>absurd (show (0:Int)<0 from g) (by decide) }
    · unfold Mk.nextPart at hp
      split at hp
      · cases hp
      · split at hp
        · rename_i hc
          cases hp
          have g:s.pl - 1=0:=g
          unfold Mk.canEnd at hc
          rw [g] at hc
          simp at hc
          exact isChar_bds hc
        · cases hp
theorem refNext_char {p:Int} {n:Bs} {c b:Int} {r:Mk.Rf} (h:Mk.refNext ⟨p,n,c⟩ b=some r) (ho:Mk.isOpen r.place=false):0≤r.code∧r.code≤1114111:=by
  have hl:∀ (l:List (Bs × Int)) (m:Bs),(∀ q ∈ l,0≤q.2∧q.2≤1114111)→∀ r,Mk.letterIn m l=some r→Mk.isOpen r.place=false→0≤r.code∧r.code≤1114111:=by
    intro l m
    induction l with
    | nil=>intro _ r h;cases h
    | cons q t ih =>
      intro hq r h ho
      obtain ⟨q1,q2⟩:=q
      unfold Mk.letterIn at h
      split at h
      · cases h;exact hq (q1,q2) List.mem_cons_self
      · split at h
        · cases h;exact absurd (show Mk.isOpen 2=false from ho) (by decide)
        · exact ih (fun q hq' => hq q (List.mem_cons_of_mem _ hq')) r h ho
  have hlet:∀ r,Mk.letter n b=some r→Mk.isOpen r.place=false→0≤r.code∧r.code≤1114111:=fun r h ho=>hl _ _ (by decide) r h ho
  have hdig:∀ base pl,(pl=5∨pl=6)→∀ r,Mk.refDigit c b base pl=some r→Mk.isOpen r.place=false→0≤r.code∧r.code≤1114111:=by
    intro base pl hpl r h ho
    unfold Mk.refDigit at h
    split at h
    · cases h
    · split at h
      · cases h
      · cases h
        exfalso
        have ho:Mk.isOpen pl=false:=ho
        rcases hpl with rfl | rfl <;> exact absurd ho (by decide)
  have hend:∀ base pl,(pl=5∨pl=6)→∀ r,Mk.digitOrEnd c b base pl=some r→Mk.isOpen r.place=false→0≤r.code∧r.code≤1114111:=by
    intro base pl hpl r h ho
    unfold Mk.digitOrEnd at h
    split at h
    · split at h
      · rename_i hc;cases h;exact isChar_bds hc
      · cases h
    · exact hdig base pl hpl r h ho
  unfold Mk.refNext at h
  dsimp only at h
  split at h
  · split at h
    · cases h;exact absurd (show Mk.isOpen 3=false from ho) (by decide)
    · exact hlet r h ho
  · split at h
    · exact hlet r h ho
    · split at h
      · split at h
        · cases h;exact absurd (show Mk.isOpen 4=false from ho) (by decide)
        · exact hdig 10 5 (.inl rfl) r h ho
      · split at h
        · exact hend 10 5 (.inl rfl) r h ho
        · split at h
          · exact hdig 16 6 (.inr rfl) r h ho
          · split at h
            · exact hend 16 6 (.inr rfl) r h ho
            · cases h
theorem v_readReference {s:St} (hw:W s) (h:V s) (ho:Mk.isOpen s.rp=true) (hpl:s.pl=0) (b:Int) (he:(Mk.readReference s b).2=0):V (Mk.readReference s b).1:=by
  obtain ⟨g1,g2⟩:=hw.rf ho
  have hf:=h.rp ho
  unfold Mk.readReference at he ⊢
  split at he
  · simp at he
  · rename_i r hr
    split
    · rename_i hop
      exact { h with rp:=fun _=>hf }
    · rename_i hop
      have hop:Mk.isOpen r.place=false:=by simpa using hop
      have hv:V (Mk.setRef s r):={ h with rp:=fun g=>by have g:Mk.isOpen r.place=true:=g;rw [hop] at g;cases g }
      have hc:=refNext_char hr hop
      rcases g1 with e | e
      · exact v_put_in hv (.inl e) _
      · exact v_put_out hv (.inr (.inr e)) _ hc.1 hc.2 (hf e) hpl hop
theorem v_to {s:St} (h:V s) (hq:s.pl=0) (hr:Mk.isOpen s.rp=false) (ht:s.token=[]∧s.count=0) (ho:8≤s.ot) (st m:Int) (h1:¬ (14≤st∧st≤17)) (h2:(9≤st∧st≤11)→(s.name.length:Int)≤s.ot):V { s with state:=st,matched:=m }:=
  { h with
    ct:=fun _=>⟨by show s.count=(chars s.token:Int);rw [ht.1,ht.2];rfl,by show s.count≤s.ot;omega⟩
    tn:=fun g=>by exfalso;have g:st=14:=g;omega
    an:=fun g=>by exfalso;have g:st=15∨st=16∨st=17:=g;omega
    al:=fun g=>by exfalso;have g:st=14:=g;omega
    nm:=h2
    pc:=fun g=>by have g:0<s.pl:=g;omega
    rp:=fun g=>by have g:Mk.isOpen s.rp=true:=g;rw [hr] at g;cases g }
theorem V.told {s:St} (h:V s) (l:List Ev) (x:Bs):V { s with list:=l,text:=x }:={ h with }
theorem v_add {s:St} (h:V s) (e:Ev):V (Mk.add s e):=by rw [add_core];exact h.told _ _
theorem v_resume {s:St} (h:V s) (hq:s.pl=0) (hr:Mk.isOpen s.rp=false) (ht:s.token=[]∧s.count=0) (ho:8≤s.ot):V (Mk.resume s):=by
  unfold Mk.resume
  exact v_to h hq hr ht ho _ s.matched (by split <;> omega) (by split <;> omega)
theorem v_drop {s:St} (h:V s) (hq:s.pl=0) (hr:Mk.isOpen s.rp=false) (ho:8≤s.ot) (hd:Bs):V (Mk.dropToken { s with held:=hd }):=
  { h with
    ct:=fun _=>⟨rfl,by show (0:Int)≤s.ot;omega⟩
    tn:=fun _=>by show (0:Int)≤s.ot;omega
    pc:=fun g=>by have g:0<s.pl:=g;omega
    rp:=fun g=>by have g:Mk.isOpen s.rp=true:=g;rw [hr] at g;cases g }
theorem v_endComment {s:St} (hw:Wq s) (h:V s):V (Mk.endComment s):=by
  have h1:=v_drop h hw.q hw.r hw.bd.2.1 []
  have f:=add_facts (Mk.dropToken { s with held:=[] }) ⟨4,[],[],s.token,[]⟩
  have e:=add_core (Mk.dropToken { s with held:=[] }) ⟨4,[],[],s.token,[]⟩
  refine v_resume (v_add h1 _) ?_ ?_ ⟨f.2.1,f.2.2.1⟩ ?_
  · rw [e];exact hw.q
  · rw [e];exact hw.r
  · rw [e];exact hw.bd.2.1
theorem v_name {s:St} (h:V s) (n:Bs) (hn:(9≤s.state∧s.state≤11)→(n.length:Int)≤s.ot):V { s with name:=n }:={ h with nm:=hn }
theorem v_endInstruction {s:St} (hw:Wq s) (h:V s):V (Mk.endInstruction s):=by
  have h1:=v_drop h hw.q hw.r hw.bd.2.1 []
  have f:=add_facts (Mk.dropToken { s with held:=[] }) ⟨5,s.name,[],s.token,[]⟩
  have e:=add_core (Mk.dropToken { s with held:=[] }) ⟨5,s.name,[],s.token,[]⟩
  have ho:=hw.bd.2.1
  refine v_resume (v_name (v_add h1 _) [] (fun _ => ?_)) ?_ ?_ ⟨f.2.1,f.2.2.1⟩ ?_
  · rw [e];show (0:Int)≤s.ot;omega
  · show (Mk.add (Mk.dropToken { s with held:=[] }) ⟨5,s.name,[],s.token,[]⟩).pl=0;rw [e];exact hw.q
  · show Mk.isOpen (Mk.add (Mk.dropToken { s with held:=[] }) ⟨5,s.name,[],s.token,[]⟩).rp=false;rw [e];exact hw.r
  · show 8≤(Mk.add (Mk.dropToken { s with held:=[] }) ⟨5,s.name,[],s.token,[]⟩).ot;rw [e];exact ho
theorem v_held {s:St} (h:V s) (hd:Bs):V { s with held:=hd }:={ h with }
theorem v_readComment {s:St} (hw:Wq s) (h:V s) (hst:s.state=7) (b:Int) (h0:0≤b) (he:(Mk.readComment s b).2=0):V (Mk.readComment s b).1:=by
  unfold Mk.readComment at he ⊢
  split at he
  · rename_i g;rw [if_pos g];exact v_endComment hw h
  · rename_i g;rw [if_neg g]
    split at he
    · simp at he
    · rename_i g2;rw [if_neg g2]
      split at he
      · rename_i g3;rw [if_pos g3];exact v_held h _
      · rename_i g3;rw [if_neg g3];exact v_readCharacter hw h (by omega) b h0 he
theorem v_readSection {s:St} (hw:Wq s) (h:V s) (hst:s.state=2) (b:Int) (h0:0≤b) (he:(Mk.readSection s b).2=0):V (Mk.readSection s b).1:=by
  unfold Mk.readSection at he ⊢
  split at he
  · rename_i g;rw [if_pos g]
    exact v_to (v_held h []) hw.q hw.r (hw.tk (by omega) (by omega) (by omega) (by omega) (by omega) (by omega)) hw.bd.2.1 1 s.matched (by omega) (by omega)
  · rename_i g;rw [if_neg g]
    split at he
    · rename_i g2;rw [if_pos g2];exact v_put_in h (.inr hst) _
    · rename_i g2;rw [if_neg g2]
      split at he
      · rename_i g3;rw [if_pos g3];exact v_held h _
      · rename_i g3;rw [if_neg g3];exact v_readCharacter hw h (by omega) b h0 he
theorem fits_out {s:St} (hst:¬ (s.state=1∨s.state=2)) {m:Int} (h:Mk.fits s m=true):s.count + m≤s.ot:=by
  unfold Mk.fits Mk.inText at h
  have:(s.state == 1 || s.state == 2)=false:=by simp;omega
  rw [this] at h
  simpa using h
theorem v_readInstruction {s:St} (hw:Wq s) (h:V s) (hst:s.state=11) (b:Int) (h0:0≤b) (he:(Mk.readInstruction s b).2=0):V (Mk.readInstruction s b).1:=by
  unfold Mk.readInstruction at he ⊢
  split at he
  · rename_i g;rw [if_pos g];exact v_endInstruction hw h
  · rename_i g;rw [if_neg g]
    split at he
    · rename_i g2;rw [if_pos g2]
      split at he
      · rename_i g3;rw [if_pos g3]
        exact v_put_out h (by omega) 63 (by decide) (by decide) (fits_out (by omega) g3) hw.q hw.r
      · simp at he
    · rename_i g2;rw [if_neg g2]
      split at he
      · rename_i g3;rw [if_pos g3];exact v_held h _
      · rename_i g3;rw [if_neg g3];exact v_readCharacter hw h (by omega) b h0 he
theorem v_putName {s:St} (hw:Wq s) (h:V s) (hst:s.state=8∨s.state=12∨s.state=14) (b:Int) (hb:Mk.inName b=true) (hf:Mk.fits s 1=true):V { s with token:=s.token ++ [Mk.u8 b],count:=s.count + 1 }:=by
  have hc:=h.ct (by omega)
  have hc8:=hw.c8 hst
  have hf:=fits_out (by omega) hf
  have hl:=inName_lt hb
  exact { h with
    ct:=fun _=>⟨by
      show s.count + 1=(chars (s.token ++ [Mk.u8 b]):Int)
      have:chars [Mk.u8 b]=1:=by unfold chars;simp [u8_lt hl.1 hl.2]
      rw [chars_app,this];omega,hf⟩
    tn:=fun _=>by show ((s.token ++ [Mk.u8 b]).length:Int)≤s.ot;simp;omega
    pc:=fun g=>by have g:0<s.pl:=g;have:=hw.q;omega
    rp:=fun g=>by have g:Mk.isOpen s.rp=true:=g;rw [hw.r] at g;cases g }
theorem v_readInstructionName {s:St} (hw:Wq s) (h:V s) (hst:s.state=8) (b:Int) (he:(Mk.readInstructionName s b).2=0):V (Mk.readInstructionName s b).1:=by
  have hin:Mk.inText s=false:=by unfold Mk.inText;simp [hst]
  have hc8:=hw.c8 (.inl hst)
  have hct:=h.ct (by omega)
  unfold Mk.readInstructionName at he ⊢
  split at he
  · simp at he
  · rename_i g;rw [if_neg g]
    split at he
    · rename_i g2;rw [if_pos g2]
      unfold Mk.lengthenName at he ⊢
      split at he
      · rename_i g3;rw [if_pos g3,put_out hin,encode_one b (inName_lt g2).2]
        exact v_putName hw h (.inl hst) b g2 g3
      · simp at he
    · rename_i g2;rw [if_neg g2]
      split at he
      · simp at he
      · rename_i g3;rw [if_neg g3]
        split at he
        · simp at he
        · rename_i g4;rw [if_neg g4]
          have h1:=v_drop h hw.q hw.r hw.bd.2.1 s.held
          have h2:V { Mk.dropToken s with name:=s.token }:={ h1 with nm:=fun g=>by show (s.token.length:Int)≤s.ot;omega }
          exact v_to h2 hw.q hw.r ⟨rfl,rfl⟩ hw.bd.2.1 _ s.matched (by split <;> omega) (fun _=>by show (s.token.length:Int)≤s.ot;omega)
theorem v_readInstructionSpace {s:St} (hw:Wq s) (h:V s) (hst:s.state=10) (b:Int) (h0:0≤b) (he:(Mk.readInstructionSpace s b).2=0):V (Mk.readInstructionSpace s b).1:=by
  have hh:s.held=[]:=hw.hs.none (by omega) (by omega) (by omega)
  have ht:=hw.tk (by omega) (by omega) (by omega) (by omega) (by omega) (by omega)
  unfold Mk.readInstructionSpace at he ⊢
  split at he
  · rename_i g;rw [if_pos g];exact h
  · rename_i g;rw [if_neg g]
    refine v_readInstruction (s:={ s with state:=11 }) ?_ ?_ rfl b h0 he
    · exact w_to hw hh ht (hw.at0 (by omega)) 11 (by omega) (by omega) (by omega) (fun g=>(hw.ov g).1) s.matched (by omega) (by omega) (by omega)
    · exact v_to h hw.q hw.r ht hw.bd.2.1 11 s.matched (by omega) (fun _=>h.nm (by omega))
theorem v_readOutside {s:St} (hw:Wq s) (h:V s) (hst:s.state=0) (b:Int) (he:(Mk.readOutside s b).2=0):V (Mk.readOutside s b).1:=by
  have ht:=hw.tk (by omega) (by omega) (by omega) (by omega) (by omega) (by omega)
  unfold Mk.readOutside at he ⊢
  split at he
  · rename_i g;rw [if_pos g];exact h
  · rename_i g;rw [if_neg g]
    split at he
    · rename_i g2;rw [if_pos g2];exact v_to h hw.q hw.r ht hw.bd.2.1 3 s.matched (by omega) (by omega)
    · simp at he
theorem v_brackets {s:St} (h:V s) (n:Int):V { s with brackets:=n }:={ h with }
theorem v_readContent {s:St} (hw:Wq s) (h:V s) (hst:s.state=1) (b:Int) (h0:0≤b) (he:(Mk.readContent s b).2=0):V (Mk.readContent s b).1:=by
  have ht:=hw.tk (by omega) (by omega) (by omega) (by omega) (by omega) (by omega)
  unfold Mk.readContent at he ⊢
  split at he
  · rename_i g;rw [if_pos g];exact v_to (v_brackets h 0) hw.q hw.r ht hw.bd.2.1 3 s.matched (by omega) (by omega)
  · rename_i g;rw [if_neg g]
    split at he
    · rename_i g2;rw [if_pos g2]
      exact { v_brackets h 0 with
        rp:=fun _ g=>by exfalso;have g:s.state=17:=g;omega
        pc:=fun g=>by have g:0<s.pl:=g;have:=hw.q;omega }
    · rename_i g2;rw [if_neg g2]
      split at he
      · rename_i g3;rw [if_pos g3]
        split at he
        · simp at he
        · rename_i g4;rw [if_neg g4];exact v_readCharacter (w_brackets hw 0) (v_brackets h 0) (.inl hst) b h0 he
      · rename_i g3;rw [if_neg g3]
        split at he
        · rename_i g4;rw [if_pos g4];exact v_readCharacter (w_brackets hw (if s.brackets == 0 then 1 else 2)) (v_brackets h (if s.brackets == 0 then 1 else 2)) (.inl hst) b h0 he
        · rename_i g4;rw [if_neg g4];exact v_readCharacter (w_brackets hw 0) (v_brackets h 0) (.inl hst) b h0 he
theorem v_readLess {s:St} (hw:Wq s) (h:V s) (hst:s.state=3) (b:Int) (he:(Mk.readLess s b).2=0):V (Mk.readLess s b).1:=by
  have ht:=hw.tk (by omega) (by omega) (by omega) (by omega) (by omega) (by omega)
  have ho:=hw.bd.2.1
  unfold Mk.readLess at he ⊢
  split at he
  · rename_i g;rw [if_pos g];exact v_to h hw.q hw.r ht ho 4 s.matched (by omega) (by omega)
  · rename_i g;rw [if_neg g]
    split at he
    · rename_i g2;rw [if_pos g2];exact v_to h hw.q hw.r ht ho 8 s.matched (by omega) (by omega)
    · rename_i g2;rw [if_neg g2]
      split at he
      · rename_i g3;rw [if_pos g3];exact v_to h hw.q hw.r ht ho 20 0 (by omega) (by omega)
      · rename_i g3;rw [if_neg g3]
        split at he
        · rename_i g4;rw [if_pos g4]
          have g4:Mk.beginsName b=true∧s.over=false:=by simpa using g4
          unfold Mk.beginStart at he ⊢
          split at he
          · simp at he
          · rename_i g5;rw [if_neg g5]
            have hin:Mk.inText { s with state:=12 }=false:=rfl
            have hl:=beginsName_lt g4.1
            rw [put_out hin,encode_one b hl.2]
            have h1:=v_to h hw.q hw.r ht ho 12 s.matched (by omega) (by omega)
            exact { h1 with
              ct:=fun _=>⟨by
                show s.count + 1=(chars (s.token ++ [Mk.u8 b]):Int)
                have:chars [Mk.u8 b]=1:=by unfold chars;simp [u8_lt hl.1 hl.2]
                rw [chars_app,this,ht.1,ht.2];rfl,by show s.count + 1≤s.ot;omega⟩
              tn:=fun g=>by exfalso;have g:(12:Int)=14:=g;omega
              pc:=fun g=>by have g:0<s.pl:=g;have:=hw.q;omega
              rp:=fun g=>by have g:Mk.isOpen s.rp=true:=g;rw [hw.r] at g;cases g }
        · simp at he
theorem v_readBang {s:St} (hw:Wq s) (h:V s) (hst:s.state=4) (b:Int) (he:(Mk.readBang s b).2=0):V (Mk.readBang s b).1:=by
  have ht:=hw.tk (by omega) (by omega) (by omega) (by omega) (by omega) (by omega)
  have ho:=hw.bd.2.1
  unfold Mk.readBang at he ⊢
  split at he
  · rename_i g;rw [if_pos g];exact v_to h hw.q hw.r ht ho 5 s.matched (by omega) (by omega)
  · rename_i g;rw [if_neg g]
    split at he
    · rename_i g3;rw [if_pos g3];exact v_to h hw.q hw.r ht ho 6 0 (by omega) (by omega)
    · simp at he
theorem v_readDash {s:St} (hw:Wq s) (h:V s) (hst:s.state=5) (b:Int) (he:(Mk.readDash s b).2=0):V (Mk.readDash s b).1:=by
  have ht:=hw.tk (by omega) (by omega) (by omega) (by omega) (by omega) (by omega)
  unfold Mk.readDash at he ⊢
  split at he
  · rename_i g;rw [if_pos g];exact v_to h hw.q hw.r ht hw.bd.2.1 7 s.matched (by omega) (by omega)
  · simp at he
theorem v_readSectionMark {s:St} (hw:Wq s) (h:V s) (hst:s.state=6) (b:Int) (he:(Mk.readSectionMark s b).2=0):V (Mk.readSectionMark s b).1:=by
  have ht:=hw.tk (by omega) (by omega) (by omega) (by omega) (by omega) (by omega)
  unfold Mk.readSectionMark at he ⊢
  split at he
  · simp at he
  · rename_i g;rw [if_neg g]
    split at he
    · rename_i g2;rw [if_pos g2];exact v_to h hw.q hw.r ht hw.bd.2.1 2 (s.matched + 1) (by omega) (by omega)
    · rename_i g2;rw [if_neg g2];exact { h with }
theorem v_readBareInstruction {s:St} (hw:Wq s) (h:V s) (b:Int) (he:(Mk.readBareInstruction s b).2=0):V (Mk.readBareInstruction s b).1:=by
  unfold Mk.readBareInstruction at he ⊢
  split at he
  · rename_i g;rw [if_pos g];exact v_endInstruction hw h
  · simp at he
theorem v_tag {s:St} (h:V s) (hq:s.pl=0) (hr:Mk.isOpen s.rp=false) (ho:8≤s.ot) (st:Int) (h1:12≤st∧st≤19∧st ≠ 14) (ht:st=17→s.token=[]∧s.count=0) (h12:st ≠ 12) (ha:(st=15∨st=16∨st=17)→(s.attr.length:Int)≤s.ot∧s.attr ∉ Names s.attrs∧(s.attrs.length:Int)<s.oa) (qu:Int):V { s with state:=st,quote:=qu }:=
  { h with
    ct:=fun g=>by
      have g:st=7∨st=8∨st=11∨st=12∨st=14∨st=17:=g
      have:=ht (by omega)
      exact ⟨by show s.count=(chars s.token:Int);rw [this.1,this.2];rfl,by show s.count≤s.ot;omega⟩
    tn:=fun g=>by exfalso;have g:st=14:=g;omega
    an:=ha
    al:=fun g=>by exfalso;have g:st=14:=g;omega
    nm:=fun g=>by exfalso;have g:9≤st∧st≤11:=g;omega
    pc:=fun g=>by have g:0<s.pl:=g;omega
    rp:=fun g=>by have g:Mk.isOpen s.rp=true:=g;rw [hr] at g;cases g }
theorem v_tellStart {s:St} (hw:Wq s) (h:V s) (hst:s.state ≠ 14∧s.state ≠ 15∧s.state ≠ 16∧s.state ≠ 17):V (Mk.tellStart s):=by
  rw [tellStart_core]
  exact { h with
    at1:=fun a ha=>by cases ha
    at2:=List.nodup_nil
    at3:=by show (0:Int)≤s.oa;have:=h.at3;omega
    an:=fun g=>by exfalso;have g:s.state=15∨s.state=16∨s.state=17:=g;omega
    al:=fun g=>absurd g hst.1 }
theorem v_endStart {s:St} (hw:Wq s) (h:V s) (ht:s.token=[]∧s.count=0) (hst:s.state=12∨s.state=13∨s.state=18) (b:Int):V (Mk.endStart s b):=by
  have ho:=hw.bd.2.1
  unfold Mk.endStart
  split
  · exact v_tag h hw.q hw.r ho 19 (by omega) (by omega) (by omega) (by omega) s.quote
  · have h1:=v_tellStart hw h (by omega)
    have e:=tellStart_core s
    rw [e] at h1 ⊢
    have h2:V { s with list:=(Mk.tellStart s).list,text:=(Mk.tellStart s).text,attrs:=[],opn:=s.opn ++ [s.name],name:=[] }:={ h1 with nm:=fun g=>by show (0:Int)≤s.ot;omega }
    exact v_resume h2 hw.q hw.r ht ho
theorem v_readStartGap {s:St} (hw:Wq s) (h:V s) (ht:s.token=[]∧s.count=0) (hst:s.state=12∨s.state=13∨s.state=18) (b:Int) (he:(Mk.readStartGap s b).2=0):V (Mk.readStartGap s b).1:=by
  unfold Mk.readStartGap at he ⊢
  split at he
  · rename_i g;rw [if_pos g];exact v_tag h hw.q hw.r hw.bd.2.1 13 (by omega) (by omega) (by omega) (by omega) s.quote
  · rename_i g;rw [if_neg g]
    split at he
    · rename_i g2;rw [if_pos g2]
      unfold Mk.endAttributes
      rw [if_neg (by rw [h.on];decide)]
      exact v_endStart hw h ht hst b
    · simp at he
theorem v_readStartName {s:St} (hw:Wq s) (h:V s) (hst:s.state=12) (b:Int) (he:(Mk.readStartName s b).2=0):V (Mk.readStartName s b).1:=by
  have hin:Mk.inText s=false:=by unfold Mk.inText;simp [hst]
  have hh:s.held=[]:=hw.hs.none (by omega) (by omega) (by omega)
  unfold Mk.readStartName at he ⊢
  split at he
  · rename_i g2;rw [if_pos g2]
    unfold Mk.lengthenName at he ⊢
    split at he
    · rename_i g3;rw [if_pos g3,put_out hin,encode_one b (inName_lt g2).2]
      exact v_putName hw h (.inr (.inl hst)) b g2 g3
    · simp at he
  · rename_i g2;rw [if_neg g2]
    have h1:=v_drop h hw.q hw.r hw.bd.2.1 s.held
    exact v_readStartGap (w_name (w_drop hw hh (by omega)) s.token (fun g1 g2=>hw.tk12 hst)) (v_name (s:=Mk.dropToken s) h1 s.token (fun g=>by exfalso;have g:9≤s.state∧s.state≤11:=g;omega)) ⟨rfl,rfl⟩ (.inl hst) b he
theorem v_readStartSpace {s:St} (hw:Wq s) (h:V s) (hst:s.state=13) (b:Int) (he:(Mk.readStartSpace s b).2=0):V (Mk.readStartSpace s b).1:=by
  have ht:=hw.tk (by omega) (by omega) (by omega) (by omega) (by omega) (by omega)
  have ho:=hw.bd.2.1
  unfold Mk.readStartSpace at he ⊢
  split at he
  · rename_i g;rw [if_pos g];exact v_readStartGap hw h ht (by omega) b he
  · rename_i g;rw [if_neg g]
    split at he
    · simp at he
    · rename_i g2;rw [if_neg g2]
      have hin:Mk.inText { s with state:=14 }=false:=rfl
      have g:Mk.beginsName b=true:=by simpa using g
      have hl:=beginsName_lt g
      rw [put_out hin,encode_one b hl.2]
      exact { h with
        ct:=fun _=>⟨by
          show s.count + 1=(chars (s.token ++ [Mk.u8 b]):Int)
          have:chars [Mk.u8 b]=1:=by unfold chars;simp [u8_lt hl.1 hl.2]
          rw [chars_app,this,ht.1,ht.2];rfl,by show s.count + 1≤s.ot;omega⟩
        tn:=fun _=>by show ((s.token ++ [Mk.u8 b]).length:Int)≤s.ot;rw [ht.1];simp;omega
        an:=fun g=>by exfalso;have g:(14:Int)=15∨(14:Int)=16∨(14:Int)=17:=g;omega
        al:=fun _=>by show (s.attrs.length:Int)<s.oa;omega
        nm:=fun g=>by exfalso;have g:(9:Int)≤14∧(14:Int)≤11:=g;omega
        pc:=fun g=>by have g:0<s.pl:=g;have:=hw.q;omega
        rp:=fun g=>by have g:Mk.isOpen s.rp=true:=g;rw [hw.r] at g;cases g }
theorem v_readAttrSpace {s:St} (hw:Wq s) (h:V s) (ht:s.token=[]∧s.count=0) (ha:(s.attr.length:Int)≤s.ot∧s.attr ∉ Names s.attrs∧(s.attrs.length:Int)<s.oa) (b:Int) (he:(Mk.readAttrSpace s b).2=0):V (Mk.readAttrSpace s b).1:=by
  unfold Mk.readAttrSpace at he ⊢
  split at he
  · rename_i g;rw [if_pos g];exact v_tag h hw.q hw.r hw.bd.2.1 15 (by omega) (by omega) (by omega) (fun _=>ha) s.quote
  · rename_i g;rw [if_neg g]
    split at he
    · rename_i g2;rw [if_pos g2];exact v_tag h hw.q hw.r hw.bd.2.1 16 (by omega) (by omega) (by omega) (fun _=>ha) s.quote
    · simp at he
theorem hasAttr_names (s:St) (n:Bs):Mk.hasAttr s n=false ↔ n ∉ Names s.attrs:=by
  unfold Mk.hasAttr Names
  rw [List.any_eq_false]
  constructor
  · intro h hm
    obtain ⟨a,ha,rfl⟩:=List.mem_map.1 hm
    exact h a ha (by simp)
  · intro h a ha g
    exact h (List.mem_map.2 ⟨a,ha,by simpa using g⟩)
theorem v_readAttrName {s:St} (hw:Wq s) (h:V s) (hst:s.state=14) (b:Int) (he:(Mk.readAttrName s b).2=0):V (Mk.readAttrName s b).1:=by
  have hin:Mk.inText s=false:=by unfold Mk.inText;simp [hst]
  have hh:s.held=[]:=hw.hs.none (by omega) (by omega) (by omega)
  have ho:=hw.bd.2.1
  unfold Mk.readAttrName at he ⊢
  split at he
  · rename_i g;rw [if_pos g]
    unfold Mk.lengthenAttrName at he ⊢
    split at he
    · rename_i g2;rw [if_pos g2]
      split at he
      · simp at he
      · rename_i g3;rw [if_neg g3]
        rw [put_out hin,encode_one b (inName_lt g).2]
        exact v_putName hw h (.inr (.inr hst)) b g g2
    · simp at he
  · rename_i g;rw [if_neg g]
    split at he
    · simp at he
    · rename_i g2;rw [if_neg g2]
      split at he
      · simp at he
      · rename_i g3;rw [if_neg g3]
        have hn:s.token ∉ Names s.attrs:=(hasAttr_names s s.token).1 (by simpa using g3)
        have h14:=hw.a14 hst
        have hv:V { Mk.dropToken s with attr:=s.token }:={ v_drop h hw.q hw.r ho s.held with an:=fun g=>by exfalso;have g:s.state=15∨s.state=16∨s.state=17:=g;omega }
        refine v_readAttrSpace (s:={ Mk.dropToken s with attr:=s.token }) ?_ hv ⟨rfl,rfl⟩ ⟨h.tn hst,hn,h.al hst⟩ b he
        exact { hw with
          tk12:=fun g=>by exfalso;have g:s.state=12:=g;omega
          tk:=fun _ _ _ _ _ _=>⟨rfl,rfl⟩
          c8:=fun _=>rfl
          a14:=fun _=>⟨fun _=>by show (0:Int) + 1≤s.ot;omega,h14.2⟩ }
theorem v_readEquals {s:St} (hw:Wq s) (h:V s) (hst:s.state=16) (b:Int) (he:(Mk.readEquals s b).2=0):V (Mk.readEquals s b).1:=by
  have ht:=hw.tk (by omega) (by omega) (by omega) (by omega) (by omega) (by omega)
  unfold Mk.readEquals at he ⊢
  split at he
  · rename_i g;rw [if_pos g];exact h
  · rename_i g;rw [if_neg g]
    split at he
    · rename_i g2;rw [if_pos g2];exact v_tag h hw.q hw.r hw.bd.2.1 17 (by omega) (fun _=>ht) (by omega) (fun _=>h.an (by omega)) b
    · simp at he
theorem v_readValue {s:St} (hw:Wq s) (h:V s) (hst:s.state=17) (b:Int) (h0:0≤b) (he:(Mk.readValue s b).2=0):V (Mk.readValue s b).1:=by
  have han:=h.an (by omega)
  have hct:=h.ct (by omega)
  unfold Mk.readValue at he ⊢
  split at he
  · rename_i g;rw [if_pos g]
    have h1:=v_tag (v_drop h hw.q hw.r hw.bd.2.1 s.held) hw.q hw.r hw.bd.2.1 18 (by omega) (by omega) (by omega) (by omega) s.quote
    exact { h1 with
      at1:=fun a ha=>by
        rcases List.mem_append.1 (show a ∈ s.attrs ++ [(⟨s.attr,[],s.token⟩:Att)] from ha) with ha | ha
        · exact h.at1 a ha
        · simp at ha;subst ha
          exact ⟨han.1,by show (chars s.token:Int)≤s.ot;omega⟩
      at2:=by
        show (Names (s.attrs ++ [⟨s.attr,[],s.token⟩])).Nodup
        unfold Names
        rw [List.map_append,List.nodup_append]
        refine ⟨h.at2,by simp,fun x hx y hy => ?_⟩
        simp at hy
        subst hy
        intro e
        subst e
        exact han.2.1 hx
      at3:=by show ((s.attrs ++ [(⟨s.attr,[],s.token⟩:Att)]).length:Int)≤s.oa;simp;omega
      an:=fun g=>by exfalso;have g:(18:Int)=15∨(18:Int)=16∨(18:Int)=17:=g;omega
      al:=fun g=>by exfalso;have g:(18:Int)=14:=g;omega }
  · rename_i g;rw [if_neg g]
    split at he
    · simp at he
    · rename_i g2;rw [if_neg g2]
      split at he
      · rename_i g3;rw [if_pos g3]
        split at he
        · rename_i g4;rw [if_pos g4]
          exact { h with
            rp:=fun _ _=>fits_out (by omega) g4
            pc:=fun g=>by have g:0<s.pl:=g;have:=hw.q;omega }
        · simp at he
      · rename_i g3;rw [if_neg g3]
        split at he
        · rename_i g4;rw [if_pos g4];exact v_readCharacter hw h (by omega) 32 (by omega) he
        · rename_i g4;rw [if_neg g4];exact v_readCharacter hw h (by omega) b h0 he
theorem tellEnd_cnt {s:St} (h:s.cnt=[]) (n:Bs):(Mk.tellEnd s n).cnt=[]:=by
  have e0:=add_core s ⟨2,n,Mk.spaceOf s n,[],[]⟩
  have e3:=unbindAll_core (Mk.ofTag (Mk.add s ⟨2,n,Mk.spaceOf s n,[],[]⟩)).reverse (Mk.add s ⟨2,n,Mk.spaceOf s n,[],[]⟩)
  unfold Mk.tellEnd Mk.tellUnbinds Mk.resume Mk.leave
  rw [e3,e0]
  show s.cnt.dropLast=[]
  rw [h];rfl
theorem v_tellEnd {s:St} (hw:s.pl=0∧Mk.isOpen s.rp=false) (h:V s) (ht:s.token=[]∧s.count=0) (ho:8≤s.ot) (n:Bs):V (Mk.tellEnd s n):=by
  rw [tellEnd_core]
  have h1:V { s with list:=(Mk.tellEnd s n).list,text:=(Mk.tellEnd s n).text,bnd:=(Mk.tellEnd s n).bnd,cnt:=(Mk.tellEnd s n).cnt,over:=decide (s.opn.length=0) }:={ h with cn:=tellEnd_cnt h.cn n }
  exact v_resume (s:={ s with list:=(Mk.tellEnd s n).list,text:=(Mk.tellEnd s n).text,bnd:=(Mk.tellEnd s n).bnd,cnt:=(Mk.tellEnd s n).cnt,over:=decide (s.opn.length=0) }) h1 hw.1 hw.2 ht ho
theorem v_readSlash {s:St} (hw:Wq s) (h:V s) (hst:s.state=19) (b:Int) (he:(Mk.readSlash s b).2=0):V (Mk.readSlash s b).1:=by
  have ht:=hw.tk (by omega) (by omega) (by omega) (by omega) (by omega) (by omega)
  have ho:=hw.bd.2.1
  unfold Mk.readSlash at he ⊢
  split at he
  · simp at he
  · rename_i g;rw [if_neg g]
    have h1:=v_tellStart hw h (by omega)
    have e:=tellStart_core s
    have h2:=v_tellEnd ⟨by rw [e];exact hw.q,by rw [e];exact hw.r⟩ h1 (by rw [e];exact ht) (by rw [e];exact ho) s.name
    refine v_name h2 [] (fun _ => ?_)
    rw [tellEnd_core,e]
    show (0:Int)≤s.ot
    omega
theorem v_endInnermost {s:St} (hw:Wq s) (h:V s) (hst:s.state=20∨s.state=21):V (Mk.endInnermost s):=by
  have ht:=hw.tk (by omega) (by omega) (by omega) (by omega) (by omega) (by omega)
  unfold Mk.endInnermost
  exact v_tellEnd (s:={ s with opn:=s.opn.dropLast }) ⟨hw.q,hw.r⟩ { h with } ht hw.bd.2.1 _
theorem v_readEndSpace {s:St} (hw:Wq s) (h:V s) (hst:s.state=20∨s.state=21) (b:Int) (he:(Mk.readEndSpace s b).2=0):V (Mk.readEndSpace s b).1:=by
  have ht:=hw.tk (by omega) (by omega) (by omega) (by omega) (by omega) (by omega)
  unfold Mk.readEndSpace at he ⊢
  split at he
  · rename_i g;rw [if_pos g];exact v_to h hw.q hw.r ht hw.bd.2.1 21 s.matched (by omega) (by omega)
  · rename_i g;rw [if_neg g]
    split at he
    · rename_i g2;rw [if_pos g2];exact v_endInnermost hw h hst
    · simp at he
theorem v_readEndName {s:St} (hw:Wq s) (h:V s) (hst:s.state=20) (b:Int) (he:(Mk.readEndName s b).2=0):V (Mk.readEndName s b).1:=by
  unfold Mk.readEndName at he ⊢
  split at he
  · rename_i g;rw [if_pos g]
    split at he
    · simp at he
    · rename_i g2;rw [if_neg g2];exact { h with }
  · rename_i g;rw [if_neg g]
    split at he
    · simp at he
    · rename_i g2;rw [if_neg g2];exact v_readEndSpace hw h (.inl hst) b he
theorem v_readByte {s:St} (hw:W s) (h:V s) (b:Int) (h0:0≤b) (he:(Mk.readByte s b).2=0):V (Mk.readByte s b).1:=by
  by_cases hp:0<s.pl
  · have e:Mk.readByte s b=Mk.readPart s b:=by unfold Mk.readByte;rw [if_pos hp]
    rw [e] at he ⊢
    exact v_readPart hw h hp b he
  · have hp0:s.pl=0:=by have:=hw.p0;omega
    cases hr:Mk.isOpen s.rp
    · have hq:Wq s:=⟨hw,hp0,hr⟩
      have hst:=hw.st
      have h22:s.state=0∨s.state=1∨s.state=2∨s.state=3∨s.state=4∨s.state=5∨s.state=6∨s.state=7∨s.state=8∨s.state=9∨s.state=10∨s.state=11∨s.state=12∨s.state=13∨s.state=14∨s.state=15∨s.state=16∨s.state=17∨s.state=18∨s.state=19∨s.state=20∨s.state=21:=by omega
      rcases h22 with e | e | e | e | e | e | e | e | e | e | e | e | e | e | e | e | e | e | e | e | e | e
      · have q:Mk.readByte s b=Mk.readOutside s b:=by unfold Mk.readByte;simp [hp0,hr,e]
        rw [q] at he ⊢;exact v_readOutside hq h e b he
      · have q:Mk.readByte s b=Mk.readContent s b:=by unfold Mk.readByte;simp [hp0,hr,e]
        rw [q] at he ⊢;exact v_readContent hq h e b h0 he
      · have q:Mk.readByte s b=Mk.readSection s b:=by unfold Mk.readByte;simp [hp0,hr,e]
        rw [q] at he ⊢;exact v_readSection hq h e b h0 he
      · have q:Mk.readByte s b=Mk.readLess s b:=by unfold Mk.readByte Mk.readMark;simp [hp0,hr,e]
        rw [q] at he ⊢;exact v_readLess hq h e b he
      · have q:Mk.readByte s b=Mk.readBang s b:=by unfold Mk.readByte Mk.readMark;simp [hp0,hr,e]
        rw [q] at he ⊢;exact v_readBang hq h e b he
      · have q:Mk.readByte s b=Mk.readDash s b:=by unfold Mk.readByte Mk.readMark;simp [hp0,hr,e]
        rw [q] at he ⊢;exact v_readDash hq h e b he
      · have q:Mk.readByte s b=Mk.readSectionMark s b:=by unfold Mk.readByte Mk.readMark;simp [hp0,hr,e]
        rw [q] at he ⊢;exact v_readSectionMark hq h e b he
      · have q:Mk.readByte s b=Mk.readComment s b:=by unfold Mk.readByte;simp [hp0,hr,e]
        rw [q] at he ⊢;exact v_readComment hq h e b h0 he
      · have q:Mk.readByte s b=Mk.readInstructionName s b:=by unfold Mk.readByte Mk.readMark;simp [hp0,hr,e]
        rw [q] at he ⊢;exact v_readInstructionName hq h e b he
      · have q:Mk.readByte s b=Mk.readBareInstruction s b:=by unfold Mk.readByte Mk.readMark;simp [hp0,hr,e]
        rw [q] at he ⊢;exact v_readBareInstruction hq h b he
      · have q:Mk.readByte s b=Mk.readInstructionSpace s b:=by unfold Mk.readByte Mk.readMark;simp [hp0,hr,e]
        rw [q] at he ⊢;exact v_readInstructionSpace hq h e b h0 he
      · have q:Mk.readByte s b=Mk.readInstruction s b:=by unfold Mk.readByte;simp [hp0,hr,e]
        rw [q] at he ⊢;exact v_readInstruction hq h e b h0 he
      · have q:Mk.readByte s b=Mk.readStartName s b:=by unfold Mk.readByte Mk.readMark Mk.readStartTag;simp [hp0,hr,e]
        rw [q] at he ⊢;exact v_readStartName hq h e b he
      · have q:Mk.readByte s b=Mk.readStartSpace s b:=by unfold Mk.readByte Mk.readMark Mk.readStartTag;simp [hp0,hr,e]
        rw [q] at he ⊢;exact v_readStartSpace hq h e b he
      · have q:Mk.readByte s b=Mk.readAttrName s b:=by unfold Mk.readByte Mk.readMark Mk.readStartTag;simp [hp0,hr,e]
        rw [q] at he ⊢;exact v_readAttrName hq h e b he
      · have q:Mk.readByte s b=Mk.readAttrSpace s b:=by unfold Mk.readByte Mk.readMark Mk.readStartTag;simp [hp0,hr,e]
        rw [q] at he ⊢;exact v_readAttrSpace hq h (hw.tk (by omega) (by omega) (by omega) (by omega) (by omega) (by omega)) (h.an (by omega)) b he
      · have q:Mk.readByte s b=Mk.readEquals s b:=by unfold Mk.readByte Mk.readMark Mk.readStartTag;simp [hp0,hr,e]
        rw [q] at he ⊢;exact v_readEquals hq h e b he
      · have q:Mk.readByte s b=Mk.readValue s b:=by unfold Mk.readByte;simp [hp0,hr,e]
        rw [q] at he ⊢;exact v_readValue hq h e b h0 he
      · have q:Mk.readByte s b=Mk.readStartGap s b:=by unfold Mk.readByte Mk.readMark Mk.readStartTag;simp [hp0,hr,e]
        rw [q] at he ⊢;exact v_readStartGap hq h (hw.tk (by omega) (by omega) (by omega) (by omega) (by omega) (by omega)) (by omega) b he
      · have q:Mk.readByte s b=Mk.readSlash s b:=by unfold Mk.readByte Mk.readMark Mk.readStartTag;simp [hp0,hr,e]
        rw [q] at he ⊢;exact v_readSlash hq h e b he
      · have q:Mk.readByte s b=Mk.readEndName s b:=by unfold Mk.readByte Mk.readMark;simp [hp0,hr,e]
        rw [q] at he ⊢;exact v_readEndName hq h e b he
      · have q:Mk.readByte s b=Mk.readEndSpace s b:=by unfold Mk.readByte Mk.readMark;simp [hp0,hr,e]
        rw [q] at he ⊢;exact v_readEndSpace hq h (.inr e) b he
    · have e:Mk.readByte s b=Mk.readReference s b:=by unfold Mk.readByte;rw [if_neg hp,if_pos hr]
      rw [e] at he ⊢
      exact v_readReference hw h hr hp0 b he
def stk1 (o:List Bs) (e:Ev):Option (List Bs):=
  if e.kind=1 then some (o ++ [e.name])
  else if e.kind=2 then (if o=[]∨o.getLastD [] ≠ e.name then none else some o.dropLast)
  else if e.kind=3 then (if o=[]∨e.val=[] then none else some o)
  else some o
def stk (o:List Bs):List Ev→Option (List Bs)
  | []=>some o
  | e :: r=>match stk1 o e with
    | none=>none
    | some o' => stk o' r
def longA (n:Nat):List Att→Nat
  | []=>n
  | a :: r=>longA (max (max n (chars a.val)) a.name.length) r
def longE (e:Ev):Nat:=longA (if e.kind=3 then e.name.length else max e.name.length (chars e.val)) e.attrs
structure Sh where
  opn:List Bs
  dep:Nat
  att:Nat
  tok:Nat
  out:Nat
  pt:Bool
def sh1 (h:Sh) (e:Ev):Option Sh:=
  if e.kind=3∧h.pt=true then none
  else match stk1 h.opn e with
    | none=>none
    | some o=>if (Names e.attrs).Nodup then some ⟨o,max h.dep o.length,max h.att e.attrs.length,max h.tok (longE e),if e.kind=1∧h.opn=[] then h.out + 1 else h.out,decide (e.kind=3)⟩ else none
def shs (h:Sh):List Ev→Option Sh
  | []=>some h
  | e :: r=>match sh1 h e with
    | none=>none
    | some h' => shs h' r
theorem shs_app:∀ (l r:List Ev) (h:Sh),shs h (l ++ r)=match shs h l with | none=>none | some h' => shs h' r
  | [],r,h=>rfl
  | e :: l,r,h=>by
    have e1:shs h (e :: l ++ r)=match sh1 h e with | none=>none | some h' => shs h' (l ++ r):=rfl
    have e2:shs h (e :: l)=match sh1 h e with | none=>none | some h' => shs h' l:=rfl
    rw [e1,e2]
    cases sh1 h e with
    | none=>rfl
    | some h' => exact shs_app l r h'
theorem longA_le {t:Int}:∀ (l:List Att) (n:Nat),(n:Int)≤t→(∀ a ∈ l,Oka t a)→(longA n l:Int)≤t
  | [],n,h,_=>h
  | a :: r,n,h,ha=>by
    have:=ha a List.mem_cons_self
    have h1:=this.1
    have h2:=this.2
    exact longA_le r _ (by omega) fun b hb=>ha b (List.mem_cons_of_mem _ hb)
structure Tl (h0:Sh) (s:St) (h:Sh):Prop where
  ex:shs h0 s.list=some h
  op:h.opn=s.opn
  pt:h.pt=false
  de:(h.dep:Int)≤s.od
  at_:(h.att:Int)≤s.oa
  tk:(h.tok:Int)≤s.ot
  le:s.opn.length≤h.dep
  ou:h.out=if s.opn=[]∧s.over=false then 0 else 1
  tx:s.text ≠ []→s.opn ≠ []
structure Qt (s s1:St):Prop where
  li:s1.list=s.list
  op:s1.opn=s.opn
  ov:s1.over=s.over
  od:s1.od=s.od
  oa:s1.oa=s.oa
  ot:s1.ot=s.ot
  tx:s1.text=s.text∨s.opn ≠ []
theorem Tl.quiet {h0 h:Sh} {s s1:St} (H:Tl h0 s h) (q:Qt s s1):Tl h0 s1 h:=by
  refine ⟨by rw [q.li];exact H.ex,by rw [q.op];exact H.op,H.pt,by rw [q.od];exact H.de,by rw [q.oa];exact H.at_,by rw [q.ot];exact H.tk,by rw [q.op];exact H.le,by rw [q.op,q.ov];exact H.ou,fun g => ?_⟩
  rw [q.op]
  rcases q.tx with e | e
  · exact H.tx (by rw [← e];exact g)
  · exact e
def shE (h:Sh) (e:Ev) (o:List Bs):Sh:=⟨o,max h.dep o.length,max h.att e.attrs.length,max h.tok (longE e),if e.kind=1∧h.opn=[] then h.out + 1 else h.out,false⟩
theorem sh1_eq {h:Sh} {e:Ev} {o:List Bs} (hk:e.kind ≠ 3) (hs:stk1 h.opn e=some o) (hn:(Names e.attrs).Nodup):sh1 h e=some (shE h e o):=by
  unfold sh1
  rw [if_neg (fun g=>hk g.1),hs]
  dsimp only
  rw [if_pos hn,decide_eq_false hk]
  rfl
theorem add_list (s:St) (e:Ev):(Mk.add s e).list=(if s.text.length=0 then s.list else s.list ++ [⟨3,[],[],s.text,[]⟩]) ++ [e]:=by
  unfold Mk.add Mk.endText
  split <;> rfl
theorem add_text (s:St) (e:Ev):(Mk.add s e).text=[]:=by
  unfold Mk.add Mk.endText
  split
  · rename_i h;exact List.length_eq_zero_iff.1 h
  · rfl
theorem shs_text {h0 h:Sh} {s:St} (H:Tl h0 s h):∃ p,shs h0 (if s.text.length=0 then s.list else s.list ++ [⟨3,[],[],s.text,[]⟩])=some { h with pt:=p }:=by
  split
  · exact ⟨h.pt,H.ex⟩
  · rename_i hx
    refine ⟨true,?_⟩
    have hx:s.text ≠ []:=fun g=>hx (by rw [g];rfl)
    have ho:=H.tx hx
    rw [shs_app,H.ex]
    have hp:=H.pt
    have hle:=H.le
    show (match sh1 h ⟨3,[],[],s.text,[]⟩ with | none=>none | some h' => some h')=_
    have:sh1 h ⟨3,[],[],s.text,[]⟩=some { h with pt:=true }:=by
      unfold sh1
      rw [if_neg (by rw [hp];simp)]
      have:stk1 h.opn ⟨3,[],[],s.text,[]⟩=some h.opn:=by
        unfold stk1
        rw [if_neg (show ¬ (3:Int)=1 by decide),if_neg (show ¬ (3:Int)=2 by decide),if_pos rfl,if_neg (by rw [H.op];simp [ho,hx])]
      rw [this]
      dsimp only
      rw [if_pos (by exact List.nodup_nil)]
      have e1:max h.dep h.opn.length=h.dep:=by rw [H.op];omega
      have e2:max h.tok (longE ⟨3,[],[],s.text,[]⟩)=h.tok:=by show max h.tok 0=h.tok;omega
      have e3:max h.att ([]:List Att).length=h.att:=by show max h.att 0=h.att;omega
      rw [e1,e2,e3,if_neg (by simp),decide_eq_true rfl]
    rw [this]
theorem shs_add {h0 h:Sh} {s:St} (H:Tl h0 s h) {e:Ev} {o:List Bs} (hk:e.kind ≠ 3) (hs:stk1 s.opn e=some o) (hn:(Names e.attrs).Nodup):shs h0 (Mk.add s e).list=some (shE h e o):=by
  obtain ⟨p,hp⟩:=shs_text H
  rw [add_list,shs_app,hp]
  show (match sh1 { h with pt:=p } e with | none=>none | some h' => some h')=_
  rw [sh1_eq (h:={ h with pt:=p }) hk (by show stk1 h.opn e=_;rw [H.op];exact hs) hn]
  rfl
theorem ofTag_nil {s:St} (h:s.cnt=[]):Mk.ofTag s=[]:=by unfold Mk.ofTag Mk.first;rw [h];simp
theorem tellStart_off {s:St} (h:s.cnt=[]) (ho:s.on=false):Mk.tellStart s={ Mk.add s ⟨1,s.name,[],[],s.attrs⟩ with attrs:=[] }:=by
  unfold Mk.tellStart Mk.tellBinds
  rw [ofTag_nil h]
  unfold Mk.spaceOf
  rw [ho]
  rfl
theorem tellEnd_list {s:St} (h:s.cnt=[]) (ho:s.on=false) (n:Bs):(Mk.tellEnd s n).list=(Mk.add s ⟨2,n,[],[],[]⟩).list∧(Mk.tellEnd s n).text=[]:=by
  have e0:=add_core s ⟨2,n,[],[],[]⟩
  unfold Mk.tellEnd Mk.tellUnbinds Mk.spaceOf
  rw [ho]
  have hc:(Mk.add s ⟨2,n,[],[],[]⟩).cnt=[]:=by rw [e0];exact h
  rw [if_neg (by decide),ofTag_nil hc]
  exact ⟨rfl,add_text s ⟨2,n,[],[],[]⟩⟩
theorem Qt.trans {a b c:St} (h:Qt a b) (g:Qt b c):Qt a c:=
  ⟨g.li.trans h.li,g.op.trans h.op,g.ov.trans h.ov,g.od.trans h.od,g.oa.trans h.oa,g.ot.trans h.ot,by
    rcases g.tx with e | e
    · rcases h.tx with e2 | e2
      · exact .inl (e.trans e2)
      · exact .inr e2
    · exact .inr (by rw [← h.op];exact e)⟩
theorem Qt.of {s s1:St} (li:s1.list=s.list) (op:s1.opn=s.opn) (ov:s1.over=s.over) (od:s1.od=s.od) (oa:s1.oa=s.oa) (ot:s1.ot=s.ot) (tx:s1.text=s.text):Qt s s1:=⟨li,op,ov,od,oa,ot,.inl tx⟩
def Io (s:St):Prop:=(s.state=1∨s.state=2)→s.opn ≠ []
theorem qt_put {s:St} (h:Io s) (c:Int):Qt s (Mk.put s c):=by
  unfold Mk.put
  split
  · rename_i g
    refine ⟨rfl,rfl,rfl,rfl,rfl,rfl,.inr (h ?_)⟩
    unfold Mk.inText at g
    simpa using g
  · exact .of rfl rfl rfl rfl rfl rfl rfl
theorem io_put {s:St} (h:Io s) (c:Int):Io (Mk.put s c):=by
  unfold Mk.put
  split <;> exact h
theorem qt_putAll:∀ (l:Bs) {s:St},Io s→Qt s (Mk.putAll s l)∧Io (Mk.putAll s l)
  | [],s,h=>⟨.of rfl rfl rfl rfl rfl rfl rfl,h⟩
  | y :: r,s,h=>by
    have:=qt_putAll r (io_put h y.toNat)
    exact ⟨(qt_put h _).trans this.1,this.2⟩
theorem qt_goOn {s:St} (h:Io s) (p:Int × Int):Qt s (Mk.goOn s p):=by
  unfold Mk.goOn
  split
  · exact (Qt.of (s:=s) (s1:={ s with pc:=p.1,pl:=p.2 }) rfl rfl rfl rfl rfl rfl rfl).trans (qt_put (s:={ s with pc:=p.1,pl:=p.2 }) h _)
  · exact .of rfl rfl rfl rfl rfl rfl rfl
theorem qt_readCharacter {s:St} (h:Io s) (b:Int):Qt s (Mk.readCharacter s b).1:=by
  unfold Mk.readCharacter
  split
  · exact .of rfl rfl rfl rfl rfl rfl rfl
  · split
    · have:=qt_putAll s.held h
      exact this.1.trans ((Qt.of (s:=Mk.putAll s s.held) (s1:={ Mk.putAll s s.held with held:=[] }) rfl rfl rfl rfl rfl rfl rfl).trans (qt_goOn (s:={ Mk.putAll s s.held with held:=[] }) this.2 _))
    · exact .of rfl rfl rfl rfl rfl rfl rfl
theorem qt_readPart {s:St} (h:Io s) (b:Int):Qt s (Mk.readPart s b).1:=by
  unfold Mk.readPart
  split
  · exact .of rfl rfl rfl rfl rfl rfl rfl
  · exact qt_goOn h _
theorem qt_readReference {s:St} (h:Io s) (b:Int):Qt s (Mk.readReference s b).1:=by
  unfold Mk.readReference
  split
  · exact .of rfl rfl rfl rfl rfl rfl rfl
  · split
    · exact .of rfl rfl rfl rfl rfl rfl rfl
    · rename_i r _ _
      exact (Qt.of (s:=s) (s1:=Mk.setRef s r) rfl rfl rfl rfl rfl rfl rfl).trans (qt_put (s:=Mk.setRef s r) h _)
inductive Tells (s:St):St→Prop
  | quiet {s1:St}:Qt s s1→Tells s s1
  | comm:s.state=7→Tells s (Mk.endComment s)
  | instr:s.state=9∨s.state=11→Tells s (Mk.endInstruction s)
  | start {s' : St}:(s.state=12∧s' = { Mk.dropToken s with name:=s.token })∨((s.state=13∨s.state=18)∧s' = s)→Tells s (Mk.endStart s' 62)
  | slash:s.state=19→Tells s { Mk.tellEnd (Mk.tellStart s) s.name with name:=[] }
  | ends:s.state=20∨s.state=21→Tells s (Mk.endInnermost s)
theorem tells_readComment {s:St} (ho:Io s) (hst:s.state=7) (b:Int) (he:(Mk.readComment s b).2=0):Tells s (Mk.readComment s b).1:=by
  unfold Mk.readComment at he ⊢
  split at he
  · rename_i g;rw [if_pos g];exact .comm hst
  · rename_i g;rw [if_neg g]
    split at he
    · simp at he
    · rename_i g2;rw [if_neg g2]
      split at he
      · rename_i g3;rw [if_pos g3];exact .quiet (.of rfl rfl rfl rfl rfl rfl rfl)
      · rename_i g3;rw [if_neg g3];exact .quiet (qt_readCharacter ho b)
theorem tells_readInstruction {s:St} (ho:Io s) (hst:s.state=11) (b:Int) (he:(Mk.readInstruction s b).2=0):(Tells s (Mk.readInstruction s b).1)∧(s.held=[]→Qt s (Mk.readInstruction s b).1):=by
  unfold Mk.readInstruction at he ⊢
  split at he
  · rename_i g;rw [if_pos g];exact ⟨.instr (.inr hst),fun e=>by rw [e] at g;cases g.2⟩
  · rename_i g;rw [if_neg g]
    split at he
    · rename_i g2;rw [if_pos g2]
      split at he
      · rename_i g3;rw [if_pos g3];exact ⟨.quiet (qt_put ho _),fun _=>qt_put ho _⟩
      · simp at he
    · rename_i g2;rw [if_neg g2]
      split at he
      · rename_i g3;rw [if_pos g3];exact ⟨.quiet (.of rfl rfl rfl rfl rfl rfl rfl),fun _ => .of rfl rfl rfl rfl rfl rfl rfl⟩
      · rename_i g3;rw [if_neg g3];exact ⟨.quiet (qt_readCharacter ho b),fun _=>qt_readCharacter ho b⟩
theorem qt_readSection {s:St} (ho:Io s) (b:Int):Qt s (Mk.readSection s b).1:=by
  unfold Mk.readSection
  split
  · exact .of rfl rfl rfl rfl rfl rfl rfl
  · split
    · exact qt_put ho _
    · split
      · exact .of rfl rfl rfl rfl rfl rfl rfl
      · exact qt_readCharacter ho b
theorem qt_readContent {s:St} (ho:Io s) (b:Int):Qt s (Mk.readContent s b).1:=by
  have hb:∀ n,Qt s (Mk.readCharacter { s with brackets:=n } b).1:=fun n=>(Qt.of (s:=s) (s1:={ s with brackets:=n }) rfl rfl rfl rfl rfl rfl rfl).trans (qt_readCharacter (s:={ s with brackets:=n }) ho b)
  unfold Mk.readContent
  split
  · exact .of rfl rfl rfl rfl rfl rfl rfl
  · split
    · exact .of rfl rfl rfl rfl rfl rfl rfl
    · split
      · split
        · exact .of rfl rfl rfl rfl rfl rfl rfl
        · exact hb _
      · split
        · exact hb _
        · exact hb _
theorem qt_readOutside (s:St) (b:Int):Qt s (Mk.readOutside s b).1:=by
  unfold Mk.readOutside
  (repeat' split) <;> exact .of rfl rfl rfl rfl rfl rfl rfl
theorem qt_readLess {s:St} (b:Int):Qt s (Mk.readLess s b).1:=by
  have h12:Qt s (Mk.put { s with state:=12 } b):=(Qt.of (s:=s) (s1:={ s with state:=12 }) rfl rfl rfl rfl rfl rfl rfl).trans (qt_put (s:={ s with state:=12 }) (fun g=>by exfalso;have g:(12:Int)=1∨(12:Int)=2:=g;omega) b)
  unfold Mk.readLess Mk.beginStart
  (repeat' split) <;> first | exact .of rfl rfl rfl rfl rfl rfl rfl | exact h12
theorem qt_readBang (s:St) (b:Int):Qt s (Mk.readBang s b).1:=by
  unfold Mk.readBang
  (repeat' split) <;> exact .of rfl rfl rfl rfl rfl rfl rfl
theorem qt_readDash (s:St) (b:Int):Qt s (Mk.readDash s b).1:=by
  unfold Mk.readDash
  (repeat' split) <;> exact .of rfl rfl rfl rfl rfl rfl rfl
theorem qt_readSectionMark (s:St) (b:Int):Qt s (Mk.readSectionMark s b).1:=by
  unfold Mk.readSectionMark
  (repeat' split) <;> exact .of rfl rfl rfl rfl rfl rfl rfl
theorem qt_readInstructionName {s:St} (ho:Io s) (b:Int):Qt s (Mk.readInstructionName s b).1:=by
  unfold Mk.readInstructionName Mk.lengthenName
  (repeat' split) <;> first | exact .of rfl rfl rfl rfl rfl rfl rfl | exact qt_put ho b
theorem tells_readStartGap {s s' : St} (hon:s'.on=false) (q:Qt s s') (h:(s.state=12∧s' = { Mk.dropToken s with name:=s.token })∨((s.state=13∨s.state=18)∧s' = s)) (b:Int) (he:(Mk.readStartGap s' b).2=0):Tells s (Mk.readStartGap s' b).1:=by
  unfold Mk.readStartGap at he ⊢
  split at he
  · rename_i g;rw [if_pos g];exact .quiet (q.trans (.of rfl rfl rfl rfl rfl rfl rfl))
  · rename_i g;rw [if_neg g]
    split at he
    · rename_i g2;rw [if_pos g2]
      unfold Mk.endAttributes
      rw [if_neg (by rw [hon];decide)]
      by_cases h47:b=47
      · subst h47
        exact .quiet (q.trans (.of rfl rfl rfl rfl rfl rfl rfl))
      · have h62:b=62:=by
          have g2:b=47∨b=62:=by simpa using g2
          omega
        subst h62
        exact .start h
    · simp at he
theorem qt_readAttrSpace (s:St) (b:Int):Qt s (Mk.readAttrSpace s b).1:=by
  unfold Mk.readAttrSpace
  (repeat' split) <;> exact .of rfl rfl rfl rfl rfl rfl rfl
theorem qt_readAttrName {s:St} (ho:Io s) (b:Int):Qt s (Mk.readAttrName s b).1:=by
  have h1:Qt s (Mk.readAttrSpace { Mk.dropToken s with attr:=s.token } b).1:=(Qt.of (s:=s) (s1:={ Mk.dropToken s with attr:=s.token }) rfl rfl rfl rfl rfl rfl rfl).trans (qt_readAttrSpace _ b)
  unfold Mk.readAttrName Mk.lengthenAttrName
  (repeat' split) <;> first | exact .of rfl rfl rfl rfl rfl rfl rfl | exact qt_put ho b | exact h1
theorem qt_readEquals (s:St) (b:Int):Qt s (Mk.readEquals s b).1:=by
  unfold Mk.readEquals
  (repeat' split) <;> exact .of rfl rfl rfl rfl rfl rfl rfl
theorem qt_readValue {s:St} (ho:Io s) (b:Int):Qt s (Mk.readValue s b).1:=by
  unfold Mk.readValue
  (repeat' split) <;> first | exact .of rfl rfl rfl rfl rfl rfl rfl | exact qt_readCharacter ho _
theorem tells_readEndSpace {s:St} (hst:s.state=20∨s.state=21) (b:Int) (he:(Mk.readEndSpace s b).2=0):Tells s (Mk.readEndSpace s b).1:=by
  unfold Mk.readEndSpace at he ⊢
  split at he
  · rename_i g;rw [if_pos g];exact .quiet (.of rfl rfl rfl rfl rfl rfl rfl)
  · rename_i g;rw [if_neg g]
    split at he
    · rename_i g2;rw [if_pos g2];exact .ends hst
    · simp at he
theorem tells_readEndName {s:St} (hst:s.state=20) (b:Int) (he:(Mk.readEndName s b).2=0):Tells s (Mk.readEndName s b).1:=by
  unfold Mk.readEndName at he ⊢
  split at he
  · rename_i g;rw [if_pos g]
    split at he
    · simp at he
    · rename_i g2;rw [if_neg g2];exact .quiet (.of rfl rfl rfl rfl rfl rfl rfl)
  · rename_i g;rw [if_neg g]
    split at he
    · simp at he
    · rename_i g2;rw [if_neg g2];exact tells_readEndSpace (.inl hst) b he
inductive Rd (s:St) (b:Int):(St→Int→St × Int)→Prop
  | r0:s.state=0→Rd s b Mk.readOutside
  | r1:s.state=1→Rd s b Mk.readContent
  | r2:s.state=2→Rd s b Mk.readSection
  | r3:s.state=3→Rd s b Mk.readLess
  | r4:s.state=4→Rd s b Mk.readBang
  | r5:s.state=5→Rd s b Mk.readDash
  | r6:s.state=6→Rd s b Mk.readSectionMark
  | r7:s.state=7→Rd s b Mk.readComment
  | r8:s.state=8→Rd s b Mk.readInstructionName
  | r9:s.state=9→Rd s b Mk.readBareInstruction
  | r10:s.state=10→Rd s b Mk.readInstructionSpace
  | r11:s.state=11→Rd s b Mk.readInstruction
  | r12:s.state=12→Rd s b Mk.readStartName
  | r13:s.state=13→Rd s b Mk.readStartSpace
  | r14:s.state=14→Rd s b Mk.readAttrName
  | r15:s.state=15→Rd s b Mk.readAttrSpace
  | r16:s.state=16→Rd s b Mk.readEquals
  | r17:s.state=17→Rd s b Mk.readValue
  | r18:s.state=18→Rd s b Mk.readStartGap
  | r19:s.state=19→Rd s b Mk.readSlash
  | r20:s.state=20→Rd s b Mk.readEndName
  | r21:s.state=21→Rd s b Mk.readEndSpace
theorem rd_of {s:St} (hst:0≤s.state∧s.state≤21) (hp:s.pl=0) (hr:Mk.isOpen s.rp=false) (b:Int):∃ f,Rd s b f∧∀ z:St,z.state=s.state→z.pl=0→Mk.isOpen z.rp=false→Mk.readByte z b=f z b:=by
  have h22:s.state=0∨s.state=1∨s.state=2∨s.state=3∨s.state=4∨s.state=5∨s.state=6∨s.state=7∨s.state=8∨s.state=9∨s.state=10∨s.state=11∨s.state=12∨s.state=13∨s.state=14∨s.state=15∨s.state=16∨s.state=17∨s.state=18∨s.state=19∨s.state=20∨s.state=21:=by omega
  rcases h22 with e | e | e | e | e | e | e | e | e | e | e | e | e | e | e | e | e | e | e | e | e | e
  · exact ⟨_,.r0 e,fun z h1 h2 h3=>by rw [e] at h1;unfold Mk.readByte;simp [h1,h2,h3]⟩
  · exact ⟨_,.r1 e,fun z h1 h2 h3=>by rw [e] at h1;unfold Mk.readByte;simp [h1,h2,h3]⟩
  · exact ⟨_,.r2 e,fun z h1 h2 h3=>by rw [e] at h1;unfold Mk.readByte;simp [h1,h2,h3]⟩
  · exact ⟨_,.r3 e,fun z h1 h2 h3=>by rw [e] at h1;unfold Mk.readByte Mk.readMark;simp [h1,h2,h3]⟩
  · exact ⟨_,.r4 e,fun z h1 h2 h3=>by rw [e] at h1;unfold Mk.readByte Mk.readMark;simp [h1,h2,h3]⟩
  · exact ⟨_,.r5 e,fun z h1 h2 h3=>by rw [e] at h1;unfold Mk.readByte Mk.readMark;simp [h1,h2,h3]⟩
  · exact ⟨_,.r6 e,fun z h1 h2 h3=>by rw [e] at h1;unfold Mk.readByte Mk.readMark;simp [h1,h2,h3]⟩
  · exact ⟨_,.r7 e,fun z h1 h2 h3=>by rw [e] at h1;unfold Mk.readByte;simp [h1,h2,h3]⟩
  · exact ⟨_,.r8 e,fun z h1 h2 h3=>by rw [e] at h1;unfold Mk.readByte Mk.readMark;simp [h1,h2,h3]⟩
  · exact ⟨_,.r9 e,fun z h1 h2 h3=>by rw [e] at h1;unfold Mk.readByte Mk.readMark;simp [h1,h2,h3]⟩
  · exact ⟨_,.r10 e,fun z h1 h2 h3=>by rw [e] at h1;unfold Mk.readByte Mk.readMark;simp [h1,h2,h3]⟩
  · exact ⟨_,.r11 e,fun z h1 h2 h3=>by rw [e] at h1;unfold Mk.readByte;simp [h1,h2,h3]⟩
  · exact ⟨_,.r12 e,fun z h1 h2 h3=>by rw [e] at h1;unfold Mk.readByte Mk.readMark Mk.readStartTag;simp [h1,h2,h3]⟩
  · exact ⟨_,.r13 e,fun z h1 h2 h3=>by rw [e] at h1;unfold Mk.readByte Mk.readMark Mk.readStartTag;simp [h1,h2,h3]⟩
  · exact ⟨_,.r14 e,fun z h1 h2 h3=>by rw [e] at h1;unfold Mk.readByte Mk.readMark Mk.readStartTag;simp [h1,h2,h3]⟩
  · exact ⟨_,.r15 e,fun z h1 h2 h3=>by rw [e] at h1;unfold Mk.readByte Mk.readMark Mk.readStartTag;simp [h1,h2,h3]⟩
  · exact ⟨_,.r16 e,fun z h1 h2 h3=>by rw [e] at h1;unfold Mk.readByte Mk.readMark Mk.readStartTag;simp [h1,h2,h3]⟩
  · exact ⟨_,.r17 e,fun z h1 h2 h3=>by rw [e] at h1;unfold Mk.readByte;simp [h1,h2,h3]⟩
  · exact ⟨_,.r18 e,fun z h1 h2 h3=>by rw [e] at h1;unfold Mk.readByte Mk.readMark Mk.readStartTag;simp [h1,h2,h3]⟩
  · exact ⟨_,.r19 e,fun z h1 h2 h3=>by rw [e] at h1;unfold Mk.readByte Mk.readMark Mk.readStartTag;simp [h1,h2,h3]⟩
  · exact ⟨_,.r20 e,fun z h1 h2 h3=>by rw [e] at h1;unfold Mk.readByte Mk.readMark;simp [h1,h2,h3]⟩
  · exact ⟨_,.r21 e,fun z h1 h2 h3=>by rw [e] at h1;unfold Mk.readByte Mk.readMark;simp [h1,h2,h3]⟩
theorem tells_readByte {s:St} (hw:W s) (hon:s.on=false) (b:Int) (he:(Mk.readByte s b).2=0):Tells s (Mk.readByte s b).1:=by
  have ho:Io s:=fun g=>hw.o1 (by omega)
  by_cases hp:0<s.pl
  · have e:Mk.readByte s b=Mk.readPart s b:=by unfold Mk.readByte;rw [if_pos hp]
    rw [e];exact .quiet (qt_readPart ho b)
  · have hp0:s.pl=0:=by have:=hw.p0;omega
    cases hr:Mk.isOpen s.rp
    · obtain ⟨f,hf,hz⟩:=rd_of hw.st hp0 hr b
      rw [hz s rfl hp0 hr] at he ⊢
      cases hf with
      | r0 e=>exact .quiet (qt_readOutside s b)
      | r1 e=>exact .quiet (qt_readContent ho b)
      | r2 e=>exact .quiet (qt_readSection ho b)
      | r3 e=>exact .quiet (qt_readLess b)
      | r4 e=>exact .quiet (qt_readBang s b)
      | r5 e=>exact .quiet (qt_readDash s b)
      | r6 e=>exact .quiet (qt_readSectionMark s b)
      | r7 e=>exact tells_readComment ho e b he
      | r8 e=>exact .quiet (qt_readInstructionName ho b)
      | r9 e =>
        unfold Mk.readBareInstruction at he ⊢
        split at he
        · rename_i g;rw [if_pos g];exact .instr (.inl e)
        · simp at he
      | r10 e =>
        unfold Mk.readInstructionSpace at he ⊢
        split at he
        · rename_i g;rw [if_pos g];exact .quiet (.of rfl rfl rfl rfl rfl rfl rfl)
        · rename_i g;rw [if_neg g]
          have h1:=tells_readInstruction (s:={ s with state:=11 }) (fun g=>by exfalso;have g:(11:Int)=1∨(11:Int)=2:=g;omega) rfl b he
          exact .quiet ((Qt.of (s:=s) (s1:={ s with state:=11 }) rfl rfl rfl rfl rfl rfl rfl).trans (h1.2 (hw.hs.none (by omega) (by omega) (by omega))))
      | r11 e=>exact (tells_readInstruction ho e b he).1
      | r12 e =>
        unfold Mk.readStartName Mk.lengthenName at he ⊢
        split at he
        · rename_i g;rw [if_pos g]
          split at he
          · rename_i g2;rw [if_pos g2];exact .quiet (qt_put ho b)
          · simp at he
        · rename_i g;rw [if_neg g];exact tells_readStartGap (s:=s) (s' := { Mk.dropToken s with name:=s.token }) hon (.of rfl rfl rfl rfl rfl rfl rfl) (.inl ⟨e,rfl⟩) b he
      | r13 e =>
        unfold Mk.readStartSpace at he ⊢
        split at he
        · rename_i g;rw [if_pos g];exact tells_readStartGap hon (.of rfl rfl rfl rfl rfl rfl rfl) (.inr ⟨.inl e,rfl⟩) b he
        · rename_i g;rw [if_neg g]
          split at he
          · simp at he
          · rename_i g2;rw [if_neg g2]
            exact .quiet ((Qt.of (s:=s) (s1:={ s with state:=14 }) rfl rfl rfl rfl rfl rfl rfl).trans (qt_put (s:={ s with state:=14 }) (fun g=>by exfalso;have g:(14:Int)=1∨(14:Int)=2:=g;omega) b))
      | r14 e=>exact .quiet (qt_readAttrName ho b)
      | r15 e=>exact .quiet (qt_readAttrSpace s b)
      | r16 e=>exact .quiet (qt_readEquals s b)
      | r17 e=>exact .quiet (qt_readValue ho b)
      | r18 e=>exact tells_readStartGap hon (.of rfl rfl rfl rfl rfl rfl rfl) (.inr ⟨.inr e,rfl⟩) b he
      | r19 e =>
        unfold Mk.readSlash at he ⊢
        split at he
        · simp at he
        · rename_i g;rw [if_neg g];exact .slash e
      | r20 e=>exact tells_readEndName e b he
      | r21 e=>exact tells_readEndSpace (.inr e) b he
    · have e:Mk.readByte s b=Mk.readReference s b:=by unfold Mk.readByte;rw [if_neg hp,if_pos hr]
      rw [e];exact .quiet (qt_readReference ho b)
end Go.Proofs.YtmgfijllcdadgabGreatDoor
