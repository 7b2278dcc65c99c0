/- Spc5, Spc6, Spc7, Spc8, Spc9, Wr1 -/
import Derived.Test.YtmgfijllcdadgabGreatDoorPCSpc1
import Derived.Test.YtmgfijllcdadgabGreatDoorPCNest5
import Derived.Test.YtmgfijllcdadgabGreatDoorPCWrong
import Derived.Test.YtmgfijllcdadgabGreatDoorPM23
set_option linter.unusedVariables false
set_option linter.unusedSimpArgs false
namespace Go.Proofs.YtmgfijllcdadgabGreatDoor
open Mk (St Bs Ev Att)
theorem wT_of {s z:St} (h1:z.list=s.list) (h2:z.text=s.text):wT z=wT s:=by unfold wT;rw [h1,h2]
theorem Nn.of {z0 z1:St} {C:Sc} {L:List Ev} (h:z1=sn C.bnd C.cnt L z0) (k:KR z0.list C L) (l:C.cnt.length=z0.opn.length) (s1:z0.state ≠ 19) (s2:¬ 9≤z0.state):Nn z0 z1 C:=by
  subst h
  exact ⟨⟨rfl,fun _=>⟨rfl,rfl,rfl⟩,k,l,fun g=>absurd g s1⟩,fun g=>absurd g.1 s2⟩
theorem opn_tellStart (s:St):(Mk.tellStart s).opn=s.opn:=by rw [tellStart_core]
theorem opn_tellEnd (s:St) (n:Bs):(Mk.tellEnd s n).opn=s.opn∧(Mk.tellEnd s n).state=if s.opn.length=0 then 0 else 1:=by rw [tellEnd_core];exact ⟨rfl,rfl⟩
theorem st01 (p:Prop) [Decidable p]:(if p then (0:Int) else 1) ≠ 19∧¬ 9≤(if p then (0:Int) else 1):=by split <;> decide
theorem nt_startGap {s0 s1:St} {c:Sc} (h:Nn s0 s1 c) (hv:s0.cnt=[]∧s0.on=false) (hst:s0.state=12∨s0.state=13∨s0.state=18) (b:Int):Nt (Mk.readStartGap s0 b) (Mk.readStartGap s1 b) (kStart c s0.name s0.attrs=none∧(b=47∨b=62)∧(Mk.readStartGap s0 b).1=Mk.endStart s0 b):=by
  have h1:=h.ai (by omega)
  have ho1:s1.on=true:=by rw [h1];rfl
  by_cases g1:Mk.isSpace b=true
  · have e0:Mk.readStartGap s0 b=({ s0 with state:=13 },0):=by unfold Mk.readStartGap;rw [if_pos g1]
    have e1:Mk.readStartGap s1 b=({ s1 with state:=13 },0):=by unfold Mk.readStartGap;rw [if_pos g1]
    rw [e0,e1]
    refine h.same (by omega) ?_ (fun _ => .far (by show (13:Int) ≠ 19∧¬ ((9:Int)≤13∧(13:Int)≤11);decide)) (fun _ => .of rfl rfl rfl rfl rfl rfl rfl)
    conv=>lhs;rw [h1]
    rfl
  · by_cases g2:(b == 47 || b == 62)=true
    · have hb:b=47∨b=62:=by simpa using g2
      have e0:Mk.readStartGap s0 b=(Mk.endStart s0 b,0):=by unfold Mk.readStartGap Mk.endAttributes;rw [if_neg g1,if_pos g2,hv.2];rfl
      have e1:Mk.readStartGap s1 b=(match (Mk.enter s1).2 with | none=>((Mk.enter s1).1,8) | some l=>(Mk.endStart { (Mk.enter s1).1 with attrs:=l } b,0)):=by unfold Mk.readStartGap Mk.endAttributes;rw [if_neg g1,if_pos g2,ho1];rfl
      have hk:kStart ⟨s1.bnd,s1.cnt⟩ s1.name s1.attrs=kStart c s0.name s0.attrs:=by rw [h1];rfl
      have he:=enter_k s1
      rw [hk] at he
      rw [e0,e1]
      rcases he with ⟨k1,k2⟩ | ⟨c', l,k1,k2,k3⟩
      · rw [k2]
        exact ⟨fun g=>absurd rfl g,fun _ => .inr ⟨rfl,k1,hb,rfl⟩⟩
      · rw [k2]
        dsimp only
        have hln:c'.cnt.length=s0.opn.length + 1:=by
          have h2:=h.ln
          have h3:=(h.at_ (by omega)).2.2
          rw [h3] at k3
          omega
        have hen:s1.text=s0.text∧s1.list=s1.list:=by rw [h1];exact ⟨rfl,rfl⟩
        refine ⟨fun g=>absurd rfl g,fun _ => .inl ⟨rfl,?_⟩⟩
        rcases hb with rfl | rfl
        · refine ⟨c,⟨?_,fun g=>absurd rfl g,?_,?_,fun _ => ?_⟩,fun g => ?_⟩
          · show { { s1 with bnd:=c'.bnd,cnt:=c'.cnt,attrs:=l } with state:=19 }=_
            conv=>lhs;rw [h1]
            rfl
          · exact h.re
          · exact h.ln
          · exact k1
          · have g:(9:Int)≤19∧(19:Int)≤11:=g;omega
        · obtain ⟨y,hy⟩:∃ y:St,y={ s1 with bnd:=c'.bnd,cnt:=c'.cnt,attrs:=l }:=⟨_,rfl⟩
          have hyo:y.on=true:=by rw [hy];exact ho1
          have hyt:y.text=s0.text:=by rw [hy];exact hen.1
          obtain ⟨t0,x0⟩:=tellStart_list0 hv.1 hv.2
          obtain ⟨t1,x1⟩:=tellStart_list hyo
          have c0:=tellStart_core s0
          have c1:=tellStart_core y
          rw [x0] at c0
          rw [x1] at c1
          show ∃ c,Nn (Mk.endStart s0 62) (Mk.endStart { s1 with bnd:=c'.bnd,cnt:=c'.cnt,attrs:=l } 62) c
          rw [← hy]
          have r0:Mk.endStart s0 62=Mk.resume { Mk.tellStart s0 with opn:=s0.opn ++ [s0.name],name:=[] }:=rfl
          have r1:Mk.endStart y 62=Mk.resume { Mk.tellStart y with opn:=y.opn ++ [y.name],name:=[] }:=rfl
          have hkr:KR (Mk.tellStart s0).list c' (Mk.tellStart y).list:=by
            rw [t0,t1]
            have e3:wT y=wT s1:=wT_of (by rw [hy]) (by rw [hy])
            have e4:y.name=s0.name:=by rw [hy,h1];rfl
            have e5:y.attrs=l:=by rw [hy]
            have e6:(⟨y.bnd,y.cnt⟩:Sc)=c' := by rw [hy]
            rw [e3,e4,e5,e6]
            refine (h.re.text hen.1).more ?_
            unfold kOne
            rw [if_pos rfl,k1]
          have hfin:Mk.endStart y 62=sn c'.bnd c'.cnt (Mk.tellStart y).list (Mk.endStart s0 62):=by
            generalize (Mk.tellStart y).list=l1 at *
            generalize (Mk.tellStart s0).list=l0 at *
            rw [r1,r0,c1,c0]
            conv=>lhs;rw [hy,h1]
            rfl
          exact ⟨c', .of hfin hkr (by show c'.cnt.length=(s0.opn ++ [s0.name]).length;rw [hln];simp) (st01 ((s0.opn ++ [s0.name]).length=0)).1 (st01 ((s0.opn ++ [s0.name]).length=0)).2⟩
    · have e0:Mk.readStartGap s0 b=(s0,3):=by unfold Mk.readStartGap;rw [if_neg g1,if_neg g2]
      have e1:Mk.readStartGap s1 b=(s1,3):=by unfold Mk.readStartGap;rw [if_neg g1,if_neg g2]
      rw [e0,e1]
      exact ⟨fun _=>rfl,fun g=>by simp at g⟩
theorem nt_readSlash {s0 s1:St} {c:Sc} (h:Nn s0 s1 c) (hv:s0.cnt=[]∧s0.on=false) (hst:s0.state=19) (b:Int) (bad:Prop):Nt (Mk.readSlash s0 b) (Mk.readSlash s1 b) bad:=by
  unfold Mk.readSlash
  split
  · exact ⟨fun _=>rfl,fun g=>by simp at g⟩
  · refine ⟨fun g=>absurd rfl g,fun _ => .inl ⟨rfl,?_⟩⟩
    have h1:=h.eq
    have ho1:s1.on=true:=by rw [h1];rfl
    have hk:=h.sl hst
    have hn1:s1.name=s0.name∧s1.text=s0.text∧s1.opn=s0.opn:=by rw [h1];exact ⟨rfl,rfl,rfl⟩
    obtain ⟨t0,x0⟩:=tellStart_list0 hv.1 hv.2
    obtain ⟨t1,x1⟩:=tellStart_list ho1
    have c0:=tellStart_core s0
    have c1:=tellStart_core s1
    have u0:=tellEnd_list (s:=Mk.tellStart s0) (by rw [c0];exact hv.1) (by rw [c0];exact hv.2) s0.name
    have u1:=tellEnd_list1 (s:=Mk.tellStart s1) (by rw [c1];exact ho1) s1.name
    have d0:=tellEnd_core (Mk.tellStart s0) s0.name
    have d1:=tellEnd_core (Mk.tellStart s1) s1.name
    have hb1:(Mk.tellStart s1).bnd=s1.bnd∧(Mk.tellStart s1).cnt=s1.cnt:=by rw [c1];exact ⟨rfl,rfl⟩
    have hb0:(Mk.tellEnd (Mk.tellStart s0) s0.name).bnd=(Mk.tellEnd (Mk.tellStart s0) s0.name).bnd:=rfl
    obtain ⟨C,hC⟩:∃ C,C=kLeft ⟨s1.bnd,s1.cnt⟩:=⟨_,rfl⟩
    rw [hb1.1,hb1.2, ← hC] at u1
    have hcl:s1.cnt.length=s0.opn.length + 1:=by
      have hh:=enter_k (sn c.bnd c.cnt s1.list s0)
      have:kStart ⟨(sn c.bnd c.cnt s1.list s0).bnd,(sn c.bnd c.cnt s1.list s0).cnt⟩ (sn c.bnd c.cnt s1.list s0).name (sn c.bnd c.cnt s1.list s0).attrs=some (⟨s1.bnd,s1.cnt⟩,s1.attrs):=hk
      rw [this] at hh
      rcases hh with ⟨k,_⟩ | ⟨c', l,k,_,k3⟩
      · cases k
      · have k4:c' = ⟨s1.bnd,s1.cnt⟩:=(congrArg Prod.fst (Option.some.inj k)).symm
        have k5:c'.cnt.length=c.cnt.length + 1:=k3
        rw [k4,h.ln] at k5
        exact k5
    have w0:wT (Mk.tellStart s0)=(Mk.tellStart s0).list:=by unfold wT;rw [if_pos (by rw [x0];rfl)]
    have w1:wT (Mk.tellStart s1)=(Mk.tellStart s1).list:=by unfold wT;rw [if_pos (by rw [x1];rfl)]
    have k1:KR (Mk.tellStart s0).list ⟨s1.bnd,s1.cnt⟩ (Mk.tellStart s1).list:=by
      rw [t0,t1,hn1.1]
      refine (h.re.text hn1.2.1).more ?_
      unfold kOne
      rw [if_pos rfl,hk]
    have k2:KR (Mk.tellEnd (Mk.tellStart s0) s0.name).list C (Mk.tellEnd (Mk.tellStart s1) s1.name).list:=by
      have e2:(Mk.add (Mk.tellStart s0) ⟨2,s0.name,[],[],[]⟩).list=(Mk.tellStart s0).list ++ [⟨2,s0.name,[],[],[]⟩]:=by rw [add_wT,w0]
      rw [u0.1,u1.1,e2,w1]
      refine k1.more ?_
      unfold kOne
      rw [if_neg (show ¬ (2:Int)=1 by decide),if_pos rfl,if_neg (fun g=>by have g:s1.cnt=[]:=g;rw [g] at hcl;simp at hcl),hC,hn1.1]
    rw [u0.2] at d0
    rw [u1.2.1,u1.2.2.1,u1.2.2.2] at d1
    have hfin:{ Mk.tellEnd (Mk.tellStart s1) s1.name with name:=[] }=sn C.bnd C.cnt (Mk.tellEnd (Mk.tellStart s1) s1.name).list { Mk.tellEnd (Mk.tellStart s0) s0.name with name:=[] }:=by
      generalize (Mk.tellEnd (Mk.tellStart s1) s1.name).list=l1 at *
      generalize (Mk.tellEnd (Mk.tellStart s0) s0.name).list=l0 at *
      generalize (Mk.tellEnd (Mk.tellStart s0) s0.name).bnd=b0 at *
      generalize (Mk.tellEnd (Mk.tellStart s0) s0.name).cnt=c0' at *
      rw [d1,d0,c1,c0]
      conv=>lhs;rw [h1]
      rfl
    have o0:=opn_tellEnd (Mk.tellStart s0) s0.name
    refine ⟨C,.of hfin k2 ?_ ?_ ?_⟩
    · show C.cnt.length=(Mk.tellEnd (Mk.tellStart s0) s0.name).opn.length
      rw [o0.1,opn_tellStart,hC]
      show (s1.cnt.dropLast).length=s0.opn.length
      rw [List.length_dropLast];omega
    · show (Mk.tellEnd (Mk.tellStart s0) s0.name).state ≠ 19
      rw [o0.2];exact (st01 _).1
    · show ¬ 9≤(Mk.tellEnd (Mk.tellStart s0) s0.name).state
      rw [o0.2];exact (st01 _).2
theorem nt_readEndSpace {s0 s1:St} {c:Sc} (h:Nn s0 s1 c) (hv:s0.cnt=[]∧s0.on=false) (ho:s0.opn ≠ []) (hst:s0.state=20∨s0.state=21) (b:Int) (bad:Prop):Nt (Mk.readEndSpace s0 b) (Mk.readEndSpace s1 b) bad:=by
  have h1:=h.ai (by omega)
  unfold Mk.readEndSpace
  split
  · refine h.same (by omega) ?_ (fun _ => .far (by show (21:Int) ≠ 19∧¬ ((9:Int)≤21∧(21:Int)≤11);decide)) (fun _ => .of rfl rfl rfl rfl rfl rfl rfl)
    conv=>lhs;rw [h1]
    rfl
  · split
    · refine ⟨fun g=>absurd rfl g,fun _ => .inl ⟨rfl,?_⟩⟩
      have ho1:s1.on=true:=by rw [h1];rfl
      have hn1:Mk.innermost s1=Mk.innermost s0∧s1.text=s0.text∧s1.opn=s0.opn:=by rw [h1];exact ⟨rfl,rfl,rfl⟩
      have u0:=tellEnd_list (s:={ s0 with opn:=s0.opn.dropLast }) hv.1 hv.2 (Mk.innermost s0)
      have u1:=tellEnd_list1 (s:={ s1 with opn:=s1.opn.dropLast }) ho1 (Mk.innermost s1)
      have d0:=tellEnd_core { s0 with opn:=s0.opn.dropLast } (Mk.innermost s0)
      have d1:=tellEnd_core { s1 with opn:=s1.opn.dropLast } (Mk.innermost s1)
      obtain ⟨e1,e2,e3⟩:=h.at_ (by omega)
      have hu1:(⟨({ s1 with opn:=s1.opn.dropLast }:St).bnd,({ s1 with opn:=s1.opn.dropLast }:St).cnt⟩:Sc)=c:=by show (⟨s1.bnd,s1.cnt⟩:Sc)=c;rw [e2,e3]
      rw [hu1] at u1
      have hcl:c.cnt ≠ []:=fun g=>by have:=h.ln;rw [g] at this;exact ho (List.length_eq_zero_iff.1 this.symm)
      have k2:KR (Mk.tellEnd { s0 with opn:=s0.opn.dropLast } (Mk.innermost s0)).list (kLeft c) (Mk.tellEnd { s1 with opn:=s1.opn.dropLast } (Mk.innermost s1)).list:=by
        rw [u0.1,u1.1,add_wT]
        refine KR.more (c:=c) ?_ ?_
        · exact h.re.text hn1.2.1
        · unfold kOne
          rw [if_neg (show ¬ (2:Int)=1 by decide),if_pos rfl,if_neg hcl,hn1.1]
      rw [u0.2] at d0
      rw [u1.2.1,u1.2.2.1,u1.2.2.2] at d1
      have hfin:Mk.endInnermost s1=sn (kLeft c).bnd (kLeft c).cnt (Mk.tellEnd { s1 with opn:=s1.opn.dropLast } (Mk.innermost s1)).list (Mk.endInnermost s0):=by
        unfold Mk.endInnermost
        generalize (Mk.tellEnd { s1 with opn:=s1.opn.dropLast } (Mk.innermost s1)).list=l1 at *
        generalize (Mk.tellEnd { s0 with opn:=s0.opn.dropLast } (Mk.innermost s0)).list=l0 at *
        generalize (Mk.tellEnd { s0 with opn:=s0.opn.dropLast } (Mk.innermost s0)).bnd=b0 at *
        generalize (Mk.tellEnd { s0 with opn:=s0.opn.dropLast } (Mk.innermost s0)).cnt=c0' at *
        rw [d1,d0]
        conv=>lhs;rw [h1]
        rfl
      have o0:=opn_tellEnd { s0 with opn:=s0.opn.dropLast } (Mk.innermost s0)
      refine ⟨kLeft c,.of hfin k2 ?_ ?_ ?_⟩
      · show (c.cnt.dropLast).length=(Mk.tellEnd { s0 with opn:=s0.opn.dropLast } (Mk.innermost s0)).opn.length
        rw [o0.1]
        show (c.cnt.dropLast).length=(s0.opn.dropLast).length
        rw [List.length_dropLast,List.length_dropLast,h.ln]
      · show (Mk.tellEnd { s0 with opn:=s0.opn.dropLast } (Mk.innermost s0)).state ≠ 19
        rw [o0.2];exact (st01 _).1
      · show ¬ 9≤(Mk.tellEnd { s0 with opn:=s0.opn.dropLast } (Mk.innermost s0)).state
        rw [o0.2];exact (st01 _).2
    · exact ⟨fun _=>rfl,fun g=>by simp at g⟩
inductive Bad8 (s:St) (c:Sc) (b:Int) (z:St):Prop
  | gt (s' : St):b=62→kStart c s'.name s'.attrs=none→s'.cnt=[]→s'.on=false→wT s' = wT s→z=Mk.endStart s' 62→Bad8 s c b z
  | slash (s' : St):b=47→kStart c s'.name s'.attrs=none→wT s' = wT s→z={ s' with state:=19 }→Bad8 s c b z
  | instr:b=63∨Mk.isSpace b=true→Mk.hasColon s.token=true→z={ Mk.dropToken s with name:=s.token,state:=if b == 63 then 9 else 10 }→Bad8 s c b z
theorem Nt.bad {r0 r1:St × Int} {p q:Prop} (h:Nt r0 r1 p) (hpq:r0.2=0→p→q):Nt r0 r1 q:=
  ⟨h.1,fun g=>(h.2 g).imp id fun ⟨k1,k2⟩=>⟨k1,hpq g k2⟩⟩
theorem bad8_gap {s s' : St} {c:Sc} {b:Int} (hc:s'.cnt=[]) (ho:s'.on=false) (hw:wT s' = wT s) {z:St} (h:kStart c s'.name s'.attrs=none∧(b=47∨b=62)∧z=Mk.endStart s' b):Bad8 s c b z:=by
  obtain ⟨h1,rfl | rfl,h3⟩:=h
  · exact .slash s' rfl h1 hw h3
  · exact .gt s' rfl h1 hc ho hw h3
theorem nt_readByte {s0 s1:St} {c:Sc} (hw:W s0) (hv:V s0) (h:Nn s0 s1 c) (b:Int):Nt (Mk.readByte s0 b) (Mk.readByte s1 b) (Bad8 s0 c b (Mk.readByte s0 b).1):=by
  have hio:Io s0:=fun g=>hw.o1 (by omega)
  have hst1:s1.state=s0.state∧s1.pl=s0.pl∧s1.rp=s0.rp:=by rw [h.eq];exact ⟨rfl,rfl,rfl⟩
  by_cases hl:0<s0.pl
  · have e0:Mk.readByte s0 b=Mk.readPart s0 b:=by unfold Mk.readByte;rw [if_pos hl]
    have e1:Mk.readByte s1 b=Mk.readPart s1 b:=by unfold Mk.readByte;rw [if_pos (by rw [hst1.2.1];exact hl)]
    have hst:=(hw.pl hl).1
    have h1:=h.ai (by omega)
    have e:=sn_readPart (d:=c.bnd) (a:=c.cnt) (t:=s1.list) s0 b
    rw [← h1] at e
    rw [e0,e1]
    exact h.same (by omega) e (fun _ => .stay (by omega) (st_readPart s0 b)) (fun _=>qt_readPart hio b)
  · have hp:s0.pl=0:=by have:=hw.p0;omega
    cases ho:Mk.isOpen s0.rp
    · obtain ⟨f,hr,hf⟩:=rd_of hw.st hp ho b
      have e0:=hf s0 rfl hp ho
      have e1:=hf s1 hst1.1 (by rw [hst1.2.1];exact hp) (by rw [hst1.2.2];exact ho)
      rw [e0,e1]
      have hai:s0.state ≠ 19→s1=sn c.bnd c.cnt s1.list s0:=h.ai
      cases hr with
      | r0 g=>exact h.same (by omega) (by have e:=sn_readOutside (d:=c.bnd) (a:=c.cnt) (t:=s1.list) s0 b;rw [← hai (by omega)] at e;exact e) (fun _=>zk_readOutside g b) (fun _=>qt_readOutside s0 b)
      | r1 g=>exact h.same (by omega) (by have e:=sn_readContent (d:=c.bnd) (a:=c.cnt) (t:=s1.list) g b;rw [← hai (by omega)] at e;exact e) (fun _=>zk_readContent g b) (fun _=>qt_readContent hio b)
      | r2 g=>exact h.same (by omega) (by have e:=sn_readSection (d:=c.bnd) (a:=c.cnt) (t:=s1.list) g b;rw [← hai (by omega)] at e;exact e) (fun _=>zk_readSection g b) (fun _=>qt_readSection hio b)
      | r3 g=>exact h.same (by omega) (by have e:=sn_readLess (d:=c.bnd) (a:=c.cnt) (t:=s1.list) s0 b;rw [← hai (by omega)] at e;exact e) (zk_readLess g b) (fun _=>qt_readLess b)
      | r4 g=>exact h.same (by omega) (by have e:=sn_readBang (d:=c.bnd) (a:=c.cnt) (t:=s1.list) s0 b;rw [← hai (by omega)] at e;exact e) (fun _=>zk_readBang g b) (fun _=>qt_readBang s0 b)
      | r5 g=>exact h.same (by omega) (by have e:=sn_readDash (d:=c.bnd) (a:=c.cnt) (t:=s1.list) s0 b;rw [← hai (by omega)] at e;exact e) (fun _=>zk_readDash g b) (fun _=>qt_readDash s0 b)
      | r6 g=>exact h.same (by omega) (by have e:=sn_readSectionMark (d:=c.bnd) (a:=c.cnt) (t:=s1.list) s0 b;rw [← hai (by omega)] at e;exact e) (fun _=>zk_readSectionMark g b) (fun _=>qt_readSectionMark s0 b)
      | r7 g=>exact nt_readComment h hio g b _
      | r8 g=>exact (nt_readInstructionName h hv.on g b).bad fun _ ⟨_,k2,k3,k4⟩ => .instr k3 k2 k4
      | r9 g=>exact nt_readBareInstruction h g b _
      | r10 g=>exact nt_readInstructionSpace h g b _
      | r11 g=>exact nt_readInstruction h g b _
      | r12 g =>
        by_cases hb:Mk.inName b=true
        · have f0:Mk.readStartName s0 b=Mk.lengthenName s0 b:=by unfold Mk.readStartName;rw [if_pos hb]
          have f1:Mk.readStartName s1 b=Mk.lengthenName s1 b:=by unfold Mk.readStartName;rw [if_pos hb]
          rw [f0,f1]
          refine h.same (by omega) (by have e:=sn_lengthenName (d:=c.bnd) (a:=c.cnt) (t:=s1.list) s0 b;rw [← hai (by omega)] at e;exact e) (fun _ => ?_) (fun _ => ?_)
          · unfold Mk.lengthenName
            split
            · exact .stay (by omega) (st_put s0 b)
            · exact .stay (by omega) ⟨rfl,rfl⟩
          · unfold Mk.lengthenName
            split
            · exact qt_put hio b
            · exact .of rfl rfl rfl rfl rfl rfl rfl
        · have f0:Mk.readStartName s0 b=Mk.readStartGap { Mk.dropToken s0 with name:=s0.token } b:=by unfold Mk.readStartName;rw [if_neg hb]
          have f1:Mk.readStartName s1 b=Mk.readStartGap { Mk.dropToken s1 with name:=s1.token } b:=by unfold Mk.readStartName;rw [if_neg hb]
          have e2:{ Mk.dropToken s1 with name:=s1.token }=sn c.bnd c.cnt s1.list { Mk.dropToken s0 with name:=s0.token }:=by
            conv=>lhs;rw [hai (by omega)]
            rfl
          have h2:Nn { Mk.dropToken s0 with name:=s0.token } (sn c.bnd c.cnt s1.list { Mk.dropToken s0 with name:=s0.token }) c:=⟨h.toNm.step (by omega) (z:={ Mk.dropToken s0 with name:=s0.token }) (by show s0.state ≠ 19;omega) (.of rfl rfl rfl rfl rfl rfl rfl),fun k=>by have k:9≤s0.state∧s0.state≤11:=k;omega⟩
          rw [f0,f1,e2]
          exact (nt_startGap h2 ⟨hv.cn,hv.on⟩ (by show s0.state=12∨s0.state=13∨s0.state=18;omega) b).bad fun _ k=>bad8_gap (s:=s0) (s' := { Mk.dropToken s0 with name:=s0.token }) hv.cn hv.on (wT_of rfl rfl) k
      | r13 g =>
        cases hb:Mk.beginsName b
        · have f0:Mk.readStartSpace s0 b=Mk.readStartGap s0 b:=by unfold Mk.readStartSpace;rw [hb];rfl
          have f1:Mk.readStartSpace s1 b=Mk.readStartGap s1 b:=by unfold Mk.readStartSpace;rw [hb];rfl
          rw [f0,f1]
          exact (nt_startGap h ⟨hv.cn,hv.on⟩ (by omega) b).bad fun _ k=>bad8_gap hv.cn hv.on rfl k
        · refine h.same (by omega) (by have e:=sn_readStartSpace_in (d:=c.bnd) (a:=c.cnt) (t:=s1.list) (s:=s0) hb;rw [← hai (by omega)] at e;exact e) (fun k => ?_) (fun k => ?_)
          · unfold Mk.readStartSpace at k ⊢
            rw [if_neg (by rw [hb];decide)] at k ⊢
            split at k
            · simp at k
            · rename_i g2;rw [if_neg g2]
              refine .far ?_
              dsimp only
              rw [(st_put _ _).1]
              show (14:Int) ≠ 19∧¬ ((9:Int)≤14∧(14:Int)≤11)
              decide
          · unfold Mk.readStartSpace
            rw [if_neg (by rw [hb];decide)]
            split
            · exact .of rfl rfl rfl rfl rfl rfl rfl
            · exact (Qt.of (s:=s0) (s1:={ s0 with state:=14 }) rfl rfl rfl rfl rfl rfl rfl).trans (qt_put (s:={ s0 with state:=14 }) (fun g=>by exfalso;have g:(14:Int)=1∨(14:Int)=2:=g;omega) b)
      | r14 g=>exact h.same (by omega) (by have e:=sn_readAttrName (d:=c.bnd) (a:=c.cnt) (t:=s1.list) s0 b;rw [← hai (by omega)] at e;exact e) (fun _=>zk_readAttrName g b) (fun _=>qt_readAttrName hio b)
      | r15 g=>exact h.same (by omega) (by have e:=sn_readAttrSpace (d:=c.bnd) (a:=c.cnt) (t:=s1.list) s0 b;rw [← hai (by omega)] at e;exact e) (fun _=>zk_readAttrSpace (by omega) b) (fun _=>qt_readAttrSpace s0 b)
      | r16 g=>exact h.same (by omega) (by have e:=sn_readEquals (d:=c.bnd) (a:=c.cnt) (t:=s1.list) s0 b;rw [← hai (by omega)] at e;exact e) (fun _=>zk_readEquals g b) (fun _=>qt_readEquals s0 b)
      | r17 g=>exact h.same (by omega) (by have e:=sn_readValue (d:=c.bnd) (a:=c.cnt) (t:=s1.list) s0 b;rw [← hai (by omega)] at e;exact e) (fun _=>zk_readValue g b) (fun _=>qt_readValue hio b)
      | r18 g=>exact (nt_startGap h ⟨hv.cn,hv.on⟩ (by omega) b).bad fun _ k=>bad8_gap hv.cn hv.on rfl k
      | r19 g=>exact nt_readSlash h ⟨hv.cn,hv.on⟩ g b _
      | r20 g =>
        have hi:s1.matched=s0.matched∧Mk.innermost s1=Mk.innermost s0:=by rw [hai (by omega)];exact ⟨rfl,rfl⟩
        unfold Mk.readEndName
        rw [hi.1,hi.2]
        split
        · split
          · exact ⟨fun _=>rfl,fun k=>by simp at k⟩
          · refine h.same (by omega) ?_ (fun _ => .stay (by omega) ⟨rfl,rfl⟩) (fun _ => .of rfl rfl rfl rfl rfl rfl rfl)
            conv=>lhs;rw [hai (by omega)]
            rfl
        · split
          · exact ⟨fun _=>rfl,fun k=>by simp at k⟩
          · exact nt_readEndSpace h ⟨hv.cn,hv.on⟩ (hw.o1 (by omega)) (by omega) b _
      | r21 g=>exact nt_readEndSpace h ⟨hv.cn,hv.on⟩ (hw.o1 (by omega)) (by omega) b _
    · have e0:Mk.readByte s0 b=Mk.readReference s0 b:=by unfold Mk.readByte;rw [if_neg hl,if_pos ho]
      have e1:Mk.readByte s1 b=Mk.readReference s1 b:=by unfold Mk.readByte;rw [if_neg (by rw [hst1.2.1];exact hl),if_pos (by rw [hst1.2.2];exact ho)]
      have hst:=(hw.rf ho).1
      have h1:=h.ai (by omega)
      have e:=sn_readReference (d:=c.bnd) (a:=c.cnt) (t:=s1.list) s0 b
      rw [← h1] at e
      rw [e0,e1]
      exact h.same (by omega) e (fun _ => .stay (by omega) (st_readReference s0 b)) (fun _=>qt_readReference hio b)
theorem Nn.mv {z0 z1:St} {c:Sc} (h:Nn z0 z1 c) (r:Bool) (l k p e:Int):Nn { z0 with ret:=r,line:=l,column:=k,at_:=p,ended:=e } { z1 with ret:=r,line:=l,column:=k,at_:=p,ended:=e } c:=by
  refine ⟨⟨?_,fun g=>h.at_ g,h.re,h.ln,fun g=>h.sl g⟩,fun g=>h.ic g⟩
  conv=>lhs;rw [h.eq]
  rfl
theorem Nn.fld {z0 z1:St} {c:Sc} (h:Nn z0 z1 c):z1.ret=z0.ret∧z1.line=z0.line∧z1.column=z0.column∧z1.at_=z0.at_∧z1.ended=z0.ended∧z1.pl=z0.pl∧z1.opn=z0.opn∧z1.over=z0.over∧z1.state=z0.state∧z1.text=z0.text:=by
  rw [h.eq];exact ⟨rfl,rfl,rfl,rfl,rfl,rfl,rfl,rfl,rfl,rfl⟩
theorem Nn.place {z0 z1:St} {c:Sc} (h:Nn z0 z1 c) (b:Int):Nn (Mk.movePlace z0 b) (Mk.movePlace z1 b) c:=by
  obtain ⟨f1,f2,f3,f4,f5,f6,_⟩:=h.fld
  have e6:(z1.pl == 0)=(z0.pl == 0):=by rw [f6]
  unfold Mk.movePlace
  rw [e6]
  split
  · have:=h.mv z1.ret (z1.line + 1) 1 z1.at_ z1.ended
    have e:({ z0 with ret:=z1.ret,line:=z1.line + 1,column:=1,at_:=z1.at_,ended:=z1.ended }:St)={ z0 with line:=z0.line + 1,column:=1 }:=by rw [f1,f2,f4,f5]
    rw [e] at this
    exact this
  · split
    · have:=h.mv z1.ret z1.line (z1.column + 1) z1.at_ z1.ended
      have e:({ z0 with ret:=z1.ret,line:=z1.line,column:=z1.column + 1,at_:=z1.at_,ended:=z1.ended }:St)={ z0 with column:=z0.column + 1 }:=by rw [f1,f2,f3,f4,f5]
      rw [e] at this
      exact this
    · exact h
theorem n8_readCharacter (s:St) (b:Int):(Mk.readCharacter s b).2 ≠ 8:=by unfold Mk.readCharacter;(repeat' split) <;> simp
theorem n8_readPart (s:St) (b:Int):(Mk.readPart s b).2 ≠ 8:=by unfold Mk.readPart;(repeat' split) <;> simp
theorem n8_readReference (s:St) (b:Int):(Mk.readReference s b).2 ≠ 8:=by unfold Mk.readReference;(repeat' split) <;> simp
theorem n8_readStartGap {s:St} (h:s.on=false) (b:Int):(Mk.readStartGap s b).2 ≠ 8:=by unfold Mk.readStartGap Mk.endAttributes;rw [h];(repeat' split) <;> simp_all
theorem n8_readAttrSpace (s:St) (b:Int):(Mk.readAttrSpace s b).2 ≠ 8:=by unfold Mk.readAttrSpace;(repeat' split) <;> simp
theorem n8_readEndSpace (s:St) (b:Int):(Mk.readEndSpace s b).2 ≠ 8:=by unfold Mk.readEndSpace;(repeat' split) <;> simp
theorem n8_readInstruction (s:St) (b:Int):(Mk.readInstruction s b).2 ≠ 8:=by unfold Mk.readInstruction;(repeat' split) <;> simp [n8_readCharacter]
theorem n8_readByte {s:St} (hw:W s) (ho:s.on=false) (b:Int):(Mk.readByte s b).2 ≠ 8:=by
  by_cases hl:0<s.pl
  · have e0:Mk.readByte s b=Mk.readPart s b:=by unfold Mk.readByte;rw [if_pos hl]
    rw [e0];exact n8_readPart s b
  · have hp:s.pl=0:=by have:=hw.p0;omega
    cases hr:Mk.isOpen s.rp
    · obtain ⟨f,hf,hz⟩:=rd_of hw.st hp hr b
      rw [hz s rfl hp hr]
      cases hf with
      | r0 g=>unfold Mk.readOutside;(repeat' split) <;> simp
      | r1 g=>unfold Mk.readContent;(repeat' split) <;> simp [n8_readCharacter]
      | r2 g=>unfold Mk.readSection;(repeat' split) <;> simp [n8_readCharacter]
      | r3 g=>unfold Mk.readLess Mk.beginStart;(repeat' split) <;> simp
      | r4 g=>unfold Mk.readBang;(repeat' split) <;> simp
      | r5 g=>unfold Mk.readDash;(repeat' split) <;> simp
      | r6 g=>unfold Mk.readSectionMark;(repeat' split) <;> simp
      | r7 g=>unfold Mk.readComment;(repeat' split) <;> simp [n8_readCharacter]
      | r8 g=>unfold Mk.readInstructionName Mk.lengthenName;rw [ho];(repeat' split) <;> simp_all
      | r9 g=>unfold Mk.readBareInstruction;(repeat' split) <;> simp
      | r10 g=>unfold Mk.readInstructionSpace;(repeat' split) <;> simp [n8_readInstruction]
      | r11 g=>exact n8_readInstruction s b
      | r12 g =>
        unfold Mk.readStartName Mk.lengthenName
        split
        · split <;> simp
        · exact n8_readStartGap (s:={ Mk.dropToken s with name:=s.token }) ho b
      | r13 g=>unfold Mk.readStartSpace;(repeat' split) <;> simp [n8_readStartGap ho b]
      | r14 g=>unfold Mk.readAttrName Mk.lengthenAttrName;(repeat' split) <;> simp [n8_readAttrSpace]
      | r15 g=>exact n8_readAttrSpace s b
      | r16 g=>unfold Mk.readEquals;(repeat' split) <;> simp
      | r17 g=>unfold Mk.readValue;(repeat' split) <;> simp [n8_readCharacter]
      | r18 g=>exact n8_readStartGap ho b
      | r19 g=>unfold Mk.readSlash;(repeat' split) <;> simp
      | r20 g=>unfold Mk.readEndName;(repeat' split) <;> simp [n8_readEndSpace]
      | r21 g=>exact n8_readEndSpace s b
    · have e0:Mk.readByte s b=Mk.readReference s b:=by unfold Mk.readByte;rw [if_neg hl,if_pos hr]
      rw [e0];exact n8_readReference s b
def Byt (x:UInt8) (b:Int):Prop:=b=(x.toNat:Int)∨((x.toNat:Int)=13∧b=10)
def Bad (y0:St) (x:UInt8) (c:Sc) (z:St):Prop := ∃ b r Z l k,Byt x b∧Bad8 { y0 with at_:=y0.at_ + 1,ret:=r } c b Z∧z={ Z with line:=l,column:=k,ended:=0 }
theorem nt_readOn {s0 s1:St} {c:Sc} (hw:W s0) (hv:V s0) (h:Nn s0 s1 c) (b:Int) :
    ((Mk.readOn s0 b).2 ≠ 0→(Mk.readOn s1 b).2=(Mk.readOn s0 b).2∧(Mk.readOn s0 b).2 ≠ 8)∧((Mk.readOn s0 b).2=0→((Mk.readOn s1 b).2=0∧∃ c,Nn (Mk.readOn s0 b).1 (Mk.readOn s1 b).1 c)∨((Mk.readOn s1 b).2=8∧∃ Z l k,Bad8 s0 c b Z∧(Mk.readOn s0 b).1={ Z with line:=l,column:=k })):=by
  have hb:=nt_readByte hw hv h b
  have h8:=n8_readByte hw hv.on b
  unfold Mk.readOn
  by_cases g:(Mk.readByte s0 b).2=0
  · rw [if_pos g]
    refine ⟨fun k=>absurd rfl k,fun _ => ?_⟩
    rcases hb.2 g with ⟨k1,c', k2⟩ | ⟨k1,k2⟩
    · left
      rw [if_pos k1]
      exact ⟨rfl,c', k2.place b⟩
    · right
      rw [if_neg (by rw [k1];decide)]
      obtain ⟨l,k,e⟩:=movePlace_core (Mk.readByte s0 b).1 b
      exact ⟨k1,_,l,k,k2,e⟩
  · rw [if_neg g]
    have e:=hb.1 g
    rw [if_neg (by rw [e];exact g)]
    exact ⟨fun _=>⟨e,h8⟩,fun k=>absurd k g⟩
theorem nt_feedByte {s0 s1:St} {c:Sc} (hw:W s0) (hv:V s0) (h:Nn s0 s1 c) (h0:s0.ended=0) (x:UInt8) :
    ((Mk.feedByte s0 x).ended ≠ 0→(Mk.feedByte s1 x).ended=(Mk.feedByte s0 x).ended∧(Mk.feedByte s0 x).ended ≠ 8)∧((Mk.feedByte s0 x).ended=0→((Mk.feedByte s1 x).ended=0∧∃ c,Nn (Mk.feedByte s0 x) (Mk.feedByte s1 x) c)∨((Mk.feedByte s1 x).ended=8∧Bad s0 x c (Mk.feedByte s0 x))):=by
  obtain ⟨f1,f2,f3,f4,f5,f6,f7,f8,f9,f10⟩:=h.fld
  have h01:s1.ended=0:=f5.trans h0
  have key:∀ (r:Bool) (b:Int),Byt x b→Mk.feedByte s0 x={ (Mk.readOn { s0 with at_:=s0.at_ + 1,ret:=r } b).1 with ended:=(Mk.readOn { s0 with at_:=s0.at_ + 1,ret:=r } b).2 }→Mk.feedByte s1 x={ (Mk.readOn { s1 with at_:=s1.at_ + 1,ret:=r } b).1 with ended:=(Mk.readOn { s1 with at_:=s1.at_ + 1,ret:=r } b).2 } →
      ((Mk.feedByte s0 x).ended ≠ 0→(Mk.feedByte s1 x).ended=(Mk.feedByte s0 x).ended∧(Mk.feedByte s0 x).ended ≠ 8)∧((Mk.feedByte s0 x).ended=0→((Mk.feedByte s1 x).ended=0∧∃ c,Nn (Mk.feedByte s0 x) (Mk.feedByte s1 x) c)∨((Mk.feedByte s1 x).ended=8∧Bad s0 x c (Mk.feedByte s0 x))):=by
    intro r b hb e0 e1
    have hn:Nn { s0 with at_:=s0.at_ + 1,ret:=r } { s1 with at_:=s1.at_ + 1,ret:=r } c:=by
      have:=h.mv r s1.line s1.column (s1.at_ + 1) s1.ended
      have e:({ s0 with ret:=r,line:=s1.line,column:=s1.column,at_:=s1.at_ + 1,ended:=s1.ended }:St)={ s0 with at_:=s0.at_ + 1,ret:=r }:=by rw [f2,f3,f4,f5]
      rw [e] at this
      exact this
    have hr:=nt_readOn (hw.at (s0.at_ + 1) r) (hv.at (s0.at_ + 1) r) hn b
    have d0:(Mk.feedByte s0 x).ended=(Mk.readOn { s0 with at_:=s0.at_ + 1,ret:=r } b).2:=by rw [e0]
    have d1:(Mk.feedByte s1 x).ended=(Mk.readOn { s1 with at_:=s1.at_ + 1,ret:=r } b).2:=by rw [e1]
    rw [d0,d1]
    refine ⟨hr.1,fun g => ?_⟩
    rcases hr.2 g with ⟨k1,c', k2⟩ | ⟨k1,Z,l,k,k2,k3⟩
    · refine .inl ⟨k1,c', ?_⟩
      rw [e0,e1,g,k1]
      obtain ⟨q1,q2,q3,q4,q5,_⟩:=k2.fld
      have:=k2.mv (Mk.readOn { s1 with at_:=s1.at_ + 1,ret:=r } b).1.ret (Mk.readOn { s1 with at_:=s1.at_ + 1,ret:=r } b).1.line (Mk.readOn { s1 with at_:=s1.at_ + 1,ret:=r } b).1.column (Mk.readOn { s1 with at_:=s1.at_ + 1,ret:=r } b).1.at_ 0
      generalize (Mk.readOn { s1 with at_:=s1.at_ + 1,ret:=r } b).1=Z1 at *
      generalize (Mk.readOn { s0 with at_:=s0.at_ + 1,ret:=r } b).1=Z0 at *
      have e:({ Z0 with ret:=Z1.ret,line:=Z1.line,column:=Z1.column,at_:=Z1.at_,ended:=0 }:St)={ Z0 with ended:=0 }:=by rw [q1,q2,q3,q4]
      rw [e] at this
      exact this
    · refine .inr ⟨k1,b,r,Z,l,k,hb,k2,?_⟩
      rw [e0,g,k3]
  by_cases c1:(x.toNat:Int)=10∧s0.ret=true
  · rw [fb1 h0 c1,fb1 h01 (by rw [f1];exact c1)]
    refine ⟨fun g=>absurd rfl g,fun _ => .inl ⟨rfl,c,?_⟩⟩
    have:=h.mv false s1.line s1.column (s1.at_ + 1) 0
    have e:({ s0 with ret:=false,line:=s1.line,column:=s1.column,at_:=s1.at_ + 1,ended:=0 }:St)={ s0 with at_:=s0.at_ + 1,ret:=false,ended:=0 }:=by rw [f2,f3,f4]
    rw [e] at this
    exact this
  · have c1' : ¬ ((x.toNat:Int)=10∧s1.ret=true):=by rw [f1];exact c1
    by_cases c2:(x.toNat:Int)=13
    · exact key true 10 (.inr ⟨c2,rfl⟩) (fb2 h0 c1 c2) (fb2 h01 c1' c2)
    · exact key false x.toNat (.inl rfl) (fb3 h0 c1 c2) (fb3 h01 c1' c2)
theorem at_fb {s:St} {x:UInt8} (h:s.ended=0):(Mk.feedByte s x).at_=s.at_ + 1:=by
  unfold Mk.feedByte
  rw [if_pos h]
  exact at_read _ _
theorem nt_feedAll:∀ (D:Bs) {s0 s1:St} {c:Sc},W s0→V s0→Nn s0 s1 c→s0.ended=0 →
    (∃ c p,p <+: D∧Nn (Mk.feedAll s0 p) (Mk.feedAll s1 p) c∧(Mk.feedAll s0 p).ended=0∧wT (Mk.feedAll s0 D)=wT (Mk.feedAll s0 p)∧wT (Mk.feedAll s1 D)=wT (Mk.feedAll s1 p)∧(Mk.feedAll s1 D).ended=(Mk.feedAll s0 D).ended∧(Mk.feedAll s0 D).ended ≠ 8∧(Mk.feedAll s1 D).at_=(Mk.feedAll s0 D).at_∧((Mk.feedAll s0 D).ended=0→p=D))
    ∨ (∃ c p x q,D=p ++ x :: q∧Nn (Mk.feedAll s0 p) (Mk.feedAll s1 p) c∧(Mk.feedAll s0 p).ended=0∧(Mk.feedAll s0 (p ++ [x])).ended=0∧(Mk.feedAll s1 (p ++ [x])).ended=8∧Bad (Mk.feedAll s0 p) x c (Mk.feedAll s0 (p ++ [x])))
  | [],s0,s1,c,hw,hv,h,h0 => .inl ⟨c,[],List.prefix_refl _,h,h0,rfl,rfl,h.fld.2.2.2.2.1,by show s0.ended ≠ 8;rw [h0];decide,h.fld.2.2.2.1,fun _=>rfl⟩
  | x :: r,s0,s1,c,hw,hv,h,h0=>by
    have hb:=nt_feedByte hw hv h h0 x
    have h01:s1.ended=0:=h.fld.2.2.2.2.1.trans h0
    by_cases g:(Mk.feedByte s0 x).ended=0
    · rcases hb.2 g with ⟨k1,c', k2⟩ | ⟨k1,k2⟩
      · rcases nt_feedAll r (w_feedByte hw x g) (v_feedByte hw hv h0 x g) k2 g with ⟨c2,p,hp,q1,q2,q3,q4,q5,q6,q8,q7⟩ | ⟨c2,p,y,q,hD,q1,q2,q3,q4,q5⟩
        · exact .inl ⟨c2,x :: p,List.cons_prefix_cons.2 ⟨rfl,hp⟩,q1,q2,q3,q4,q5,q6,q8,fun k=>by rw [q7 k]⟩
        · exact .inr ⟨c2,x :: p,y,q,by rw [hD];rfl,q1,q2,q3,q4,q5⟩
      · exact .inr ⟨c,[],x,r,rfl,h,h0,g,k1,k2⟩
    · obtain ⟨k1,k2⟩:=hb.1 g
      left
      have e0:Mk.feedAll s0 (x :: r)=Mk.feedByte s0 x:=fa_stuck r _ g
      have e1:Mk.feedAll s1 (x :: r)=Mk.feedByte s1 x:=fa_stuck r _ (by rw [k1];exact g)
      have w0:=feedByte_wrong s0 x h0 g
      have w1:=feedByte_wrong s1 x h01 (by rw [k1];exact g)
      rw [e0,e1]
      exact ⟨c,[],List.nil_prefix,h,h0,wT_of w0.1 w0.2,wT_of w1.1 w1.2,k1,k2,by rw [at_fb h01,at_fb h0,h.fld.2.2.2.1],fun k=>absurd k g⟩
theorem nn_make (d a t:Int):Nn (Mk.make_ d a t false) (Mk.make_ d a t true) Sc.zero:=
  ⟨⟨rfl,fun _=>⟨rfl,rfl,rfl⟩,rfl,rfl,fun g=>absurd (show (0:Int)=19 from g) (by decide)⟩,fun g=>absurd (show (9:Int)≤0 from g.1) (by decide)⟩
theorem feedByte_pre {s:St} (hw:W s) (hv:V s) (h0:s.ended=0) (x:UInt8) (he:(Mk.feedByte s x).ended=0):s.list <+: (Mk.feedByte s x).list:=by
  rcases feedByte_right h0 x he with e | ⟨b,r,l,c,hb,e1,e⟩
  · rw [e];exact List.prefix_refl _
  · rw [e]
    have h:=tells_pre (s:={ s with at_:=s.at_ + 1,ret:=r }) (hv.at _ r) (tells_readByte (hw.at _ r) hv.on b e1)
    exact h
theorem feedAll_pre:∀ (l:Bs) {s:St},W s→V s→s.ended=0→(Mk.feedAll s l).ended=0→s.list <+: (Mk.feedAll s l).list
  | [],s,_,_,_,_=>List.prefix_refl _
  | x :: r,s,hw,hv,h0,he=>by
    have hx:=feedAll_cons_ok he
    exact (feedByte_pre hw hv h0 x hx).trans (feedAll_pre r (w_feedByte hw x hx) (v_feedByte hw hv h0 x hx) hx he)
structure Kq (s z:St):Prop where
  li:z.list=s.list
  st:z.state=s.state
  nm:z.name=s.name
  tx:Mk.inText s=false→z.text=s.text
theorem Kq.trans {a b c:St} (h:Kq a b) (g:Kq b c):Kq a c:=
  ⟨g.li.trans h.li,g.st.trans h.st,g.nm.trans h.nm,fun k=>(g.tx (by unfold Mk.inText at k ⊢;rw [h.st];exact k)).trans (h.tx k)⟩
theorem kq_put (s:St) (c:Int):Kq s (Mk.put s c):=by
  refine ⟨?_,(st_put s c).1,(st_put s c).2,fun k => ?_⟩
  · unfold Mk.put;split <;> rfl
  · rw [put_out k]
theorem kq_putAll:∀ (l:Bs) (s:St),Kq s (Mk.putAll s l)
  | [],s=>⟨rfl,rfl,rfl,fun _=>rfl⟩
  | x :: r,s=>(kq_put s x.toNat).trans (kq_putAll r _)
theorem kq_goOn (s:St) (p:Int × Int):Kq s (Mk.goOn s p):=by
  unfold Mk.goOn
  split
  · exact Kq.trans (b:={ s with pc:=p.1,pl:=p.2 }) ⟨rfl,rfl,rfl,fun _=>rfl⟩ (kq_put _ _)
  · exact ⟨rfl,rfl,rfl,fun _=>rfl⟩
theorem kq_readCharacter (s:St) (b:Int):Kq s (Mk.readCharacter s b).1:=by
  unfold Mk.readCharacter
  split
  · exact ⟨rfl,rfl,rfl,fun _=>rfl⟩
  · split
    · exact ((kq_putAll s.held s).trans (b:=Mk.putAll s s.held) (c:={ Mk.putAll s s.held with held:=[] }) ⟨rfl,rfl,rfl,fun _=>rfl⟩).trans (kq_goOn _ _)
    · exact ⟨rfl,rfl,rfl,fun _=>rfl⟩
theorem kq_readPart (s:St) (b:Int):Kq s (Mk.readPart s b).1:=by
  unfold Mk.readPart
  split
  · exact ⟨rfl,rfl,rfl,fun _=>rfl⟩
  · exact kq_goOn _ _
theorem kq_readInstruction {s:St} {b:Int} (hn:¬ (b=62∧s.held=[63])):Kq s (Mk.readInstruction s b).1:=by
  unfold Mk.readInstruction
  rw [if_neg hn]
  split
  · split
    · exact kq_put _ _
    · exact ⟨rfl,rfl,rfl,fun _=>rfl⟩
  · split
    · exact ⟨rfl,rfl,rfl,fun _=>rfl⟩
    · exact kq_readCharacter _ _
theorem endInstruction_list (s:St):(Mk.endInstruction s).list=wT s ++ [⟨5,s.name,[],s.token,[]⟩]:=add_wT (Mk.dropToken { s with held:=[] }) _
theorem readInstruction_tells {s:St} (hst:s.state=11) (b:Int):((Mk.readInstruction s b).1.list=wT s ++ [⟨5,s.name,[],s.token,[]⟩])∨((Mk.readInstruction s b).1.state=11∧(Mk.readInstruction s b).1.name=s.name∧wT (Mk.readInstruction s b).1=wT s):=by
  by_cases hn:b=62∧s.held=[63]
  · left
    unfold Mk.readInstruction
    rw [if_pos hn]
    exact endInstruction_list s
  · right
    have h:=kq_readInstruction hn
    exact ⟨h.st.trans hst,h.nm,wT_of h.li (h.tx (by unfold Mk.inText;rw [hst];rfl))⟩
theorem instr_told:∀ (r:Bs) {z:St},W z→V z→z.ended=0→(Mk.feedAll z r).ended=0→(Mk.feedAll z r).state=0→9≤z.state→z.state≤11→∃ v rest,(Mk.feedAll z r).list=wT z ++ ⟨5,z.name,[],v,[]⟩ :: rest
  | [],z,_,_,_,_,hd,h1,h2=>by have hd:z.state=0:=hd;omega
  | x :: r,z,hw,hv,h0,he,hd,h1,h2=>by
    have hx:=feedAll_cons_ok he
    have hw' := w_feedByte hw x hx
    have hv' := v_feedByte hw hv h0 x hx
    have fin:(∃ v,(Mk.feedByte z x).list=wT z ++ [⟨5,z.name,[],v,[]⟩])∨(9≤(Mk.feedByte z x).state∧(Mk.feedByte z x).state≤11∧(Mk.feedByte z x).name=z.name∧wT (Mk.feedByte z x)=wT z):=by
      rcases feedByte_right h0 x hx with e | ⟨b,rr,l,c,hb,e1,e⟩
      · rw [e];exact .inr ⟨h1,h2,rfl,rfl⟩
      · rw [e]
        have hin:Mk.inText z=false:=by unfold Mk.inText;simp;omega
        have hro:Mk.isOpen z.rp=false:=by
          cases hr:Mk.isOpen z.rp
          · rfl
          · have:=(hw.rf hr).1;omega
        by_cases hl:0<z.pl
        · have e0:Mk.readByte { z with at_:=z.at_ + 1,ret:=rr } b=Mk.readPart { z with at_:=z.at_ + 1,ret:=rr } b:=by unfold Mk.readByte;rw [if_pos hl]
          rw [e0]
          have k:=kq_readPart { z with at_:=z.at_ + 1,ret:=rr } b
          exact .inr ⟨by show 9≤(Mk.readPart _ b).1.state;rw [k.st];exact h1,by show (Mk.readPart _ b).1.state≤11;rw [k.st];exact h2,k.nm,wT_of k.li (k.tx hin)⟩
        · have hp:z.pl=0:=by have:=hw.p0;omega
          obtain ⟨f,hf,hz⟩:=rd_of hw.st hp hro b
          have e0:=hz { z with at_:=z.at_ + 1,ret:=rr } rfl hp hro
          rw [e0] at e1 ⊢
          have ok:∀ (y:St),((∃ v,y.list=wT z ++ [⟨5,z.name,[],v,[]⟩])∨(9≤y.state∧y.state≤11∧y.name=z.name∧wT y=wT z))→((∃ v,({ y with line:=l,column:=c,ended:=0 }:St).list=wT z ++ [⟨5,z.name,[],v,[]⟩])∨(9≤({ y with line:=l,column:=c,ended:=0 }:St).state∧({ y with line:=l,column:=c,ended:=0 }:St).state≤11∧({ y with line:=l,column:=c,ended:=0 }:St).name=z.name∧wT ({ y with line:=l,column:=c,ended:=0 }:St)=wT z)):=fun y h=>h
          refine ok _ ?_
          cases hf with
          | r9 g =>
            unfold Mk.readBareInstruction at e1 ⊢
            split at e1
            · rename_i g2;rw [if_pos g2];exact .inl ⟨_,endInstruction_list { z with at_:=z.at_ + 1,ret:=rr }⟩
            · simp at e1
          | r10 g =>
            unfold Mk.readInstructionSpace
            split
            · exact .inr ⟨h1,h2,rfl,rfl⟩
            · rcases readInstruction_tells (s:={ z with at_:=z.at_ + 1,ret:=rr,state:=11 }) rfl b with k | ⟨k1,k2,k3⟩
              · exact .inl ⟨_,k⟩
              · exact .inr ⟨by rw [k1];decide,by rw [k1];decide,k2,k3⟩
          | r11 g =>
            rcases readInstruction_tells (s:={ z with at_:=z.at_ + 1,ret:=rr }) g b with k | ⟨k1,k2,k3⟩
            · exact .inl ⟨_,k⟩
            · exact .inr ⟨by rw [k1];decide,by rw [k1];decide,k2,k3⟩
          | r0 g=>omega
          | r1 g=>omega
          | r2 g=>omega
          | r3 g=>omega
          | r4 g=>omega
          | r5 g=>omega
          | r6 g=>omega
          | r7 g=>omega
          | r8 g=>omega
          | r12 g=>omega
          | r13 g=>omega
          | r14 g=>omega
          | r15 g=>omega
          | r16 g=>omega
          | r17 g=>omega
          | r18 g=>omega
          | r19 g=>omega
          | r20 g=>omega
          | r21 g=>omega
    rcases fin with ⟨v,k⟩ | ⟨k1,k2,k3,k4⟩
    · obtain ⟨rest,hr⟩:=feedAll_pre r hw' hv' hx he
      refine ⟨v,rest,?_⟩
      show (Mk.feedAll (Mk.feedByte z x) r).list=_
      rw [← hr,k];simp
    · obtain ⟨v,rest,hr⟩:=instr_told r hw' hv' hx he hd k1 k2
      refine ⟨v,rest,?_⟩
      show (Mk.feedAll (Mk.feedByte z x) r).list=_
      rw [hr,k3,k4]
theorem slash_told:∀ (r:Bs) {z:St},W z→V z→z.ended=0→(Mk.feedAll z r).ended=0→(Mk.feedAll z r).state=0→z.state=19→∃ rest,(Mk.feedAll z r).list=wT z ++ ⟨1,z.name,[],[],z.attrs⟩ :: rest
  | [],z,_,_,_,_,hd,h1=>by have hd:z.state=0:=hd;omega
  | x :: r,z,hw,hv,h0,he,hd,h1=>by
    have hx:=feedAll_cons_ok he
    have hw' := w_feedByte hw x hx
    have hv' := v_feedByte hw hv h0 x hx
    rcases feedByte_right h0 x hx with e | ⟨b,rr,l,c,hb,e1,e⟩
    · obtain ⟨rest,hr⟩:=slash_told r hw' hv' hx he hd (by rw [e];exact h1)
      refine ⟨rest,?_⟩
      show (Mk.feedAll (Mk.feedByte z x) r).list=_
      rw [hr,e];rfl
    · have hro:Mk.isOpen z.rp=false:=by
        cases hr:Mk.isOpen z.rp
        · rfl
        · have:=(hw.rf hr).1;omega
      have hp:z.pl=0:=by
        have:=hw.p0
        by_cases hl:0<z.pl
        · have:=(hw.pl hl).1;omega
        · omega
      obtain ⟨f,hf,hz⟩:=rd_of hw.st hp hro b
      have e0:=hz { z with at_:=z.at_ + 1,ret:=rr } rfl hp hro
      have k:∃ y,(Mk.feedByte z x).list=wT z ++ ⟨1,z.name,[],[],z.attrs⟩ :: y:=by
        rw [e]
        rw [e0] at e1 ⊢
        cases hf with
        | r19 g =>
          unfold Mk.readSlash at e1 ⊢
          split at e1
          · simp at e1
          · rename_i g2;rw [if_neg g2]
            have t0:=tellStart_list0 (s:={ z with at_:=z.at_ + 1,ret:=rr }) hv.cn hv.on
            have c0:=tellStart_core { z with at_:=z.at_ + 1,ret:=rr }
            have u0:=tellEnd_list (s:=Mk.tellStart { z with at_:=z.at_ + 1,ret:=rr }) (by rw [c0];exact hv.cn) (by rw [c0];exact hv.on) z.name
            have w0:wT (Mk.tellStart { z with at_:=z.at_ + 1,ret:=rr })=(Mk.tellStart { z with at_:=z.at_ + 1,ret:=rr }).list:=by unfold wT;rw [if_pos (by rw [t0.2];rfl)]
            refine ⟨[⟨2,z.name,[],[],[]⟩],?_⟩
            show (Mk.tellEnd (Mk.tellStart { z with at_:=z.at_ + 1,ret:=rr }) z.name).list=_
            rw [u0.1,add_wT,w0,t0.1]
            simp
            rfl
        | r0 g=>omega
        | r1 g=>omega
        | r2 g=>omega
        | r3 g=>omega
        | r4 g=>omega
        | r5 g=>omega
        | r6 g=>omega
        | r7 g=>omega
        | r8 g=>omega
        | r9 g=>omega
        | r10 g=>omega
        | r11 g=>omega
        | r12 g=>omega
        | r13 g=>omega
        | r14 g=>omega
        | r15 g=>omega
        | r16 g=>omega
        | r17 g=>omega
        | r18 g=>omega
        | r20 g=>omega
        | r21 g=>omega
      obtain ⟨y,k⟩:=k
      obtain ⟨rest,hr⟩:=feedAll_pre r hw' hv' hx he
      refine ⟨y ++ rest,?_⟩
      show (Mk.feedAll (Mk.feedByte z x) r).list=_
      rw [← hr,k];simp
theorem bad_told {y0 z:St} {x:UInt8} {c:Sc} (hb:Bad y0 x c z) (hw:W z) (hv:V z) (r:Bs) (he:(Mk.feedAll z r).ended=0) (hd:(Mk.feedAll z r).state=0) :
    (∃ e rest,(Mk.feedAll z r).list=wT y0 ++ e :: rest∧kOne c e=none)∧((x.toNat:Int)=47∨(x.toNat:Int)=62∨(x.toNat:Int)=63∨Mk.isSpace (x.toNat:Int)=true):=by
  obtain ⟨b,rr,Z,l,k,hB,h8,ez⟩:=hb
  have h0:z.ended=0:=by rw [ez]
  cases h8 with
  | gt s' q1 q2 q3 q4 q5 q6 =>
    refine ⟨?_,?_⟩
    · obtain ⟨rest,hr⟩:=feedAll_pre r hw hv h0 he
      have t0:=tellStart_list0 q3 q4
      have e1:z.list=wT s' ++ [⟨1,s'.name,[],[],s'.attrs⟩]:=by rw [ez,q6];exact t0.1
      have q5' : wT s' = wT y0:=q5
      refine ⟨⟨1,s'.name,[],[],s'.attrs⟩,rest,by rw [← hr,e1,q5'];simp,?_⟩
      unfold kOne
      rw [if_pos rfl,q2]
    · rcases hB with h | ⟨h,h'⟩ <;> omega
  | slash s' q1 q2 q3 q4 =>
    refine ⟨?_,?_⟩
    · obtain ⟨rest,hr⟩:=slash_told r hw hv h0 he hd (by rw [ez,q4])
      have e1:wT z=wT y0:=by
        rw [ez,q4]
        exact (show wT s' = wT y0 from q3)
      refine ⟨_,rest,by rw [hr,e1],?_⟩
      unfold kOne
      rw [if_pos rfl]
      have e2:z.name=s'.name∧z.attrs=s'.attrs:=by rw [ez,q4];exact ⟨rfl,rfl⟩
      dsimp only
      rw [e2.1,e2.2,q2]
    · rcases hB with h | ⟨h,h'⟩ <;> omega
  | instr q1 q2 q3 =>
    refine ⟨?_,?_⟩
    · have e0:z.state=(if b == 63 then 9 else 10)∧z.name=y0.token∧wT z=wT y0:=by rw [ez,q3];exact ⟨rfl,rfl,rfl⟩
      obtain ⟨v,rest,hr⟩:=instr_told r hw hv h0 he hd (by rw [e0.1];split <;> decide) (by rw [e0.1];split <;> decide)
      refine ⟨_,rest,by rw [hr,e0.2.2],?_⟩
      unfold kOne
      dsimp only
      rw [if_neg (by decide),if_neg (by decide),if_pos rfl,e0.2.1]
      have q2:Mk.hasColon y0.token=true:=q2
      rw [q2];rfl
    · rcases hB with h | ⟨h,h'⟩
      · rcases q1 with q1 | q1
        · omega
        · rw [← h];exact .inr (.inr (.inr q1))
      · right;right;right;rw [h];decide
def Adj (p:Bool):List Ev→Prop
  | []=>True
  | e :: r=>¬ (e.kind=3∧p=true)∧Adj (decide (e.kind=3)) r
theorem shs_adj:∀ (l:List Ev) (h H:Sh),shs h l=some H→Adj h.pt l
  | [],h,H,_=>trivial
  | e :: r,h,H,hs=>by
    have hs' : (match sh1 h e with | none=>none | some h' => shs h' r)=some H:=hs
    cases h1:sh1 h e with
    | none=>rw [h1] at hs'; cases hs'
    | some h' =>
      rw [h1] at hs'
      have hh:¬ (e.kind=3∧h.pt=true)∧h'.pt=decide (e.kind=3):=by
        unfold sh1 at h1
        split at h1
        · cases h1
        · rename_i hn
          split at h1
          · cases h1
          · split at h1
            · cases h1;exact ⟨hn,rfl⟩
            · cases h1
      refine ⟨hh.1,?_⟩
      rw [← hh.2]
      exact shs_adj r h' H hs'
theorem adj_plain:∀ (m r:List Ev) (p:Bool),(∀ e ∈ m,e.kind ≠ 3)→Adj (if m=[] then p else false) r→Adj p (m ++ r)
  | [],r,p,_,h=>by simpa using h
  | e :: m,r,p,hm,h=>by
    have he:=hm e List.mem_cons_self
    refine ⟨fun g=>he g.1,?_⟩
    rw [decide_eq_false he]
    refine adj_plain m r false (fun x hx=>hm x (List.mem_cons_of_mem _ hx)) ?_
    have:Adj false r:=by simpa using h
    split <;> exact this
theorem kOne_kind {c c' : Sc} {e:Ev} {m:List Ev} (h:kOne c e=some (c', m)):(e.kind=3∧m=[e])∨(e.kind ≠ 3∧m ≠ []∧∀ x ∈ m,x.kind ≠ 3):=by
  unfold kOne at h
  split at h
  · rename_i hk
    split at h
    · cases h
    · cases h
      refine .inr ⟨by omega,by simp [kTold],fun x hx => ?_⟩
      unfold kTold kBinds at hx
      rcases List.mem_append.1 hx with hx | hx
      · obtain ⟨y,_,rfl⟩:=List.mem_map.1 hx
        show (6:Int) ≠ 3;decide
      · simp at hx;subst hx;show (1:Int) ≠ 3;decide
  · split at h
    · rename_i hk
      split at h
      · cases h
      · cases h
        refine .inr ⟨by omega,by simp [kEnd],fun x hx => ?_⟩
        unfold kEnd kUnbinds at hx
        rcases List.mem_cons.1 hx with rfl | hx
        · show (2:Int) ≠ 3;decide
        · obtain ⟨y,_,rfl⟩:=List.mem_map.1 hx
          show (7:Int) ≠ 3;decide
    · split at h
      · rename_i hk
        split at h
        · cases h
        · cases h
          exact .inr ⟨by omega,by simp,fun x hx=>by simp at hx;subst hx;omega⟩
      · cases h
        by_cases hk:e.kind=3
        · exact .inl ⟨hk,rfl⟩
        · exact .inr ⟨hk,by simp,fun x hx=>by simp at hx;subst hx;exact hk⟩
theorem kRes_adj:∀ (l:List Ev) (c:Sc) (acc:List Ev) (p:Bool),Adj p l→∃ x,(kRes c acc l).2.1=acc ++ x∧Adj p x
  | [],c,acc,p,_=>⟨[],by simp [kRes],trivial⟩
  | e :: r,c,acc,p,h=>by
    have e2:kRes c acc (e :: r)=match kOne c e with | none=>(c,acc,false) | some (c', m)=>kRes c' (acc ++ m) r:=rfl
    rw [e2]
    cases hk:kOne c e with
    | none=>exact ⟨[],by simp,trivial⟩
    | some q =>
      obtain ⟨c', m⟩:=q
      dsimp only
      obtain ⟨x,h1,h2⟩:=kRes_adj r c' (acc ++ m) _ h.2
      refine ⟨m ++ x,by rw [h1,List.append_assoc],?_⟩
      rcases kOne_kind hk with ⟨k1,rfl⟩ | ⟨k1,k2,k3⟩
      · exact ⟨h.1,h2⟩
      · refine adj_plain m x p k3 ?_
        rw [if_neg k2]
        rw [decide_eq_false k1] at h2
        exact h2
theorem KR.adj {l m:List Ev} {c:Sc} (h:KR l c m) (hl:Adj false l):Adj false m:=by
  obtain ⟨x,h1,h2⟩:=kRes_adj l Sc.zero [] false hl
  unfold KR at h
  rw [h] at h1
  have h1:m=x:=by simpa using h1
  rw [h1];exact h2
theorem wT_adj {s:St} {h0 h:Sh} (hz:h0.pt=false) (H:Tl h0 s h):Adj false (wT s):=by
  obtain ⟨p,hp⟩:=shs_text H
  have:=shs_adj _ _ _ hp
  rw [hz] at this
  exact this
theorem spaces_ok (d a t:Int) (d1:1≤d) (t1:8≤t) (a1:0≤a) (a2:a≤32) (D:Bs) (h8:(Mk.feedAll (Mk.make_ d a t true) D).ended ≠ 8) :
    (Mk.feedAll (Mk.make_ d a t true) D).ended=(Mk.feedAll (Mk.make_ d a t false) D).ended∧(Mk.feedAll (Mk.make_ d a t true) D).at_=(Mk.feedAll (Mk.make_ d a t false) D).at_∧(Mk.close (Mk.feedAll (Mk.make_ d a t true) D)).2=(Mk.close (Mk.feedAll (Mk.make_ d a t false) D)).2
    ∧ ∃ c,KR (wT (Mk.feedAll (Mk.make_ d a t false) D)) c (wT (Mk.feedAll (Mk.make_ d a t true) D))∧Adj false (wT (Mk.feedAll (Mk.make_ d a t false) D))∧Adj false (wT (Mk.feedAll (Mk.make_ d a t true) D)):=by
  rcases nt_feedAll D (w_make d a t false d1 t1 a2) (v_make d a t t1 a1) (nn_make d a t) rfl with ⟨c,p,hp,q1,q2,q3,q4,q5,q6,q8,q7⟩ | ⟨c,p,x,q,hD,q1,q2,q3,q4,q5⟩
  · obtain ⟨hw,hv,h1,H1⟩:=tl_feedAll p (w_make d a t false d1 t1 a2) (v_make d a t t1 a1) (tl_make d a t d1 t1 a1) rfl q2
    have hkr:KR (wT (Mk.feedAll (Mk.make_ d a t false) p)) c (wT (Mk.feedAll (Mk.make_ d a t true) p)):=q1.re.text q1.fld.2.2.2.2.2.2.2.2.2
    have hadj:=wT_adj rfl H1
    refine ⟨q5,q8,?_,c,by rw [q3,q4];exact hkr,by rw [q3];exact hadj,by rw [q4];exact hkr.adj hadj⟩
    unfold Mk.close
    by_cases g:(Mk.feedAll (Mk.make_ d a t false) D).ended=0
    · have hpD:=q7 g
      rw [hpD] at q1
      have e:Mk.isDocument (Mk.feedAll (Mk.make_ d a t true) D)=Mk.isDocument (Mk.feedAll (Mk.make_ d a t false) D):=by
        unfold Mk.isDocument
        rw [q1.fld.2.2.2.2.2.2.2.1,q1.fld.2.2.2.2.2.2.2.2.1]
      rw [if_pos g,if_pos (by rw [q5];exact g),e]
      split <;> rfl
    · rw [if_neg g,if_neg (by rw [q5];exact g)]
      exact q5
  · exfalso
    apply h8
    have e:Mk.feedAll (Mk.make_ d a t true) D=Mk.feedAll (Mk.make_ d a t true) (p ++ [x]):=by
      have hap:∀ (l r:Bs) (s:St),Mk.feedAll s (l ++ r)=Mk.feedAll (Mk.feedAll s l) r:=by
        intro l
        induction l with
        | nil=>intro r s;rfl
        | cons y l ih=>intro r s;exact ih r _
      rw [hD,show p ++ x :: q=(p ++ [x]) ++ q by simp,hap (p ++ [x]) q]
      exact fa_stuck q _ (by rw [q4];decide)
    rw [e];exact q4
theorem spaces_bad (d a t:Int) (d1:1≤d) (t1:8≤t) (a1:0≤a) (a2:a≤32) (D:Bs) (h8:(Mk.feedAll (Mk.make_ d a t true) D).ended=8) :
    ∃ p x q c,D=p ++ x :: q∧(Mk.feedAll (Mk.make_ d a t true) D).at_=(p.length:Int) + 1∧(Mk.feedAll (Mk.make_ d a t false) (p ++ [x])).ended=0∧Adj false (wT (Mk.feedAll (Mk.make_ d a t true) D))
      ∧ ((x.toNat:Int)=47∨(x.toNat:Int)=62∨(x.toNat:Int)=63∨Mk.isSpace (x.toNat:Int)=true)
      ∧ ∀ r,(Mk.feedAll (Mk.make_ d a t false) (p ++ [x] ++ r)).ended=0→(Mk.feedAll (Mk.make_ d a t false) (p ++ [x] ++ r)).state=0→kRes Sc.zero [] (Mk.feedAll (Mk.make_ d a t false) (p ++ [x] ++ r)).list=(c,wT (Mk.feedAll (Mk.make_ d a t true) D),false):=by
  have hap:∀ (l r:Bs) (s:St),Mk.feedAll s (l ++ r)=Mk.feedAll (Mk.feedAll s l) r:=by
    intro l
    induction l with
    | nil=>intro r s;rfl
    | cons y l ih=>intro r s;exact ih r _
  have hat:∀ (l:Bs) (s:St),(Mk.feedAll s l).ended=0→s.ended=0→(Mk.feedAll s l).at_=s.at_ + l.length:=by
    intro l
    induction l with
    | nil=>intro s _ _;show s.at_=s.at_ + 0;omega
    | cons y l ih =>
      intro s h h0
      have hy:=feedAll_cons_ok h
      have:=ih (Mk.feedByte s y) h hy
      show (Mk.feedAll (Mk.feedByte s y) l).at_=_
      rw [this,at_fb h0,List.length_cons];omega
  rcases nt_feedAll D (w_make d a t false d1 t1 a2) (v_make d a t t1 a1) (nn_make d a t) rfl with ⟨c,p,hp,q1,q2,q3,q4,q5,q6,q8,q7⟩ | ⟨c,p,x,q,hD,q1,q2,q3,q4,q5⟩
  · exfalso;rw [q5] at h8;exact q6 h8
  · obtain ⟨hw,hv,h1,H1⟩:=tl_feedAll p (w_make d a t false d1 t1 a2) (v_make d a t t1 a1) (tl_make d a t d1 t1 a1) rfl q2
    obtain ⟨hw2,hv2,h2,H2⟩:=tl_feedAll (p ++ [x]) (w_make d a t false d1 t1 a2) (v_make d a t t1 a1) (tl_make d a t d1 t1 a1) rfl q3
    have hkr:KR (wT (Mk.feedAll (Mk.make_ d a t false) p)) c (wT (Mk.feedAll (Mk.make_ d a t true) p)):=q1.re.text q1.fld.2.2.2.2.2.2.2.2.2
    have hadj:=wT_adj rfl H1
    have e:Mk.feedAll (Mk.make_ d a t true) D=Mk.feedByte (Mk.feedAll (Mk.make_ d a t true) p) x:=by
      rw [hD,show p ++ x :: q=(p ++ [x]) ++ q by simp,hap (p ++ [x]) q]
      rw [fa_stuck q _ (by rw [q4];decide),hap p [x]]
      rfl
    have h01:(Mk.feedAll (Mk.make_ d a t true) p).ended=0:=q1.fld.2.2.2.2.1.trans q2
    have hw1:wT (Mk.feedAll (Mk.make_ d a t true) D)=wT (Mk.feedAll (Mk.make_ d a t true) p):=by
      have:=feedByte_wrong (Mk.feedAll (Mk.make_ d a t true) p) x h01 (by rw [← e,h8];decide)
      rw [e];exact wT_of this.1 this.2
    refine ⟨p,x,q,c,hD,?_,q3,by rw [hw1];exact hkr.adj hadj,?_,fun r g1 g2 => ?_⟩
    · rw [e,at_fb h01,hat p _ h01 rfl]
      show (0:Int) + p.length + 1=_
      omega
    · -- the byte
      rcases q5 with ⟨b,rr,Z,l,k,hB,hB8,ez⟩
      rcases hB8 with ⟨s', k1,_⟩ | ⟨s', k1,_⟩ | ⟨k1,_,_⟩
      · rcases hB with h | ⟨h,h'⟩ <;> omega
      · rcases hB with h | ⟨h,h'⟩ <;> omega
      · rcases hB with h | ⟨h,h'⟩
        · rcases k1 with k1 | k1
          · omega
          · rw [← h];exact .inr (.inr (.inr k1))
        · right;right;right;rw [h];decide
    · rw [hap (p ++ [x]) r] at g1 g2 ⊢
      obtain ⟨⟨ev,rest,hl,hk⟩,_⟩:=bad_told q5 hw2 hv2 r g1 g2
      rw [hl,hw1]
      exact hkr.stop hk
def refT (b:UInt8):Bs:=if b=60 then [38,108,116,59] else if b=62 then [38,103,116,59] else if b=38 then [38,97,109,112,59] else if b=13 then [38,35,49,51,59] else []
def refV (b:UInt8):Bs:=if b=34 then [38,113,117,111,116,59] else if b=9 then [38,35,57,59] else if b=10 then [38,35,49,48,59] else refT b
def either (b:UInt8) (r:Bs):Bs:=if r=[] then [b] else r
def wText (v:Bs):Bs:=v.flatMap fun b=>either b (refT b)
def wVal (v:Bs):Bs:=v.flatMap fun b=>either b (refV b)
def wAttr (n v:Bs):Bs:=32 :: n ++ [61,34] ++ wVal v ++ [34]
def declN (p:Bs):Bs:=if p=[] then Mk.wXmlns else Mk.wXmlns ++ [58] ++ p
def wStart (e:Ev) (bs:List Ev):Bs:=60 :: e.name ++ bs.flatMap (fun b=>wAttr (declN b.name) b.val) ++ e.attrs.flatMap (fun a=>wAttr a.name a.val) ++ [62]
def wOther (e:Ev):Bs:=
  if e.kind=2 then [60,47] ++ e.name ++ [62]
  else if e.kind=3 then wText e.val
  else if e.kind=4 then [60,33,45,45] ++ e.val ++ [45,45,62]
  else if e.kind=5 then [60,63] ++ e.name ++ (if e.val=[] then [] else 32 :: e.val) ++ [63,62]
  else []
def wGo (bs:List Ev):List Ev→Bs
  | []=>[]
  | e :: r=>if e.kind=6 then wGo (bs ++ [e]) r else if e.kind=1 then wStart e bs ++ wGo [] r else wOther e ++ wGo [] r
def wAll (l:List Ev):Bs:=wGo [] l
structure Vv where
  od:Int
  oa:Int
  ot:Int
  st:Int
  op:List Bs
  ov:Bool
  tk:Bs
  ct:Int
  nm:Bs
  an:Bs
  ats:List Att
  hd:Bs
  li:List Ev
  tx:Bs
  qt:Int
  mt:Int
  pt:Option (Int × Int)
  rf:Option Mk.Rf
def PtIs (s:St):Option (Int × Int)→Prop
  | none=>s.pl=0
  | some p=>s.pc=p.1∧s.pl=p.2∧0<p.2
def RfIs (s:St):Option Mk.Rf→Prop
  | none=>Mk.isOpen s.rp=false
  | some r=>s.rp=r.place∧s.rn=r.name∧s.rc=r.code∧Mk.isOpen r.place=true
structure Is (s:St) (v:Vv):Prop where
  en:s.ended=0
  rt:s.ret=false
  on:s.on=false
  cn:s.cnt=[]
  od:s.od=v.od
  oa:s.oa=v.oa
  ot:s.ot=v.ot
  st:s.state=v.st
  op:s.opn=v.op
  ov:s.over=v.ov
  tk:s.token=v.tk
  ct:s.count=v.ct
  nm:s.name=v.nm
  an:s.attr=v.an
  ats:s.attrs=v.ats
  hd:s.held=v.hd
  li:s.list=v.li
  tx:s.text=v.tx
  qt:s.quote=v.qt
  mt:s.matched=v.mt
  pt:PtIs s v.pt
  rf:RfIs s v.rf
theorem is_move {s:St} {v:Vv} (h:Is s v) (b:Int):Is (Mk.movePlace s b) v:=by
  unfold Mk.movePlace
  split
  · exact { h with }
  · split
    · exact { h with }
    · exact h
theorem is_feed {s:St} {v v' : Vv} (x:UInt8) (h:Is s v) (hx:(x.toNat:Int) ≠ 13) (h1:∀ z,Is z v→(Mk.readByte z x.toNat).2=0∧Is (Mk.readByte z x.toNat).1 v'):Is (Mk.feedByte s x) v' := by
  have hz:Is { s with at_:=s.at_ + 1,ret:=false } v:={ h with rt:=rfl }
  obtain ⟨e,i⟩:=h1 _ hz
  rw [fb3 h.en (fun q=>by rw [h.rt] at q;cases q.2) hx]
  have eo:Mk.readOn { s with at_:=s.at_ + 1,ret:=false } (x.toNat:Int)=(Mk.movePlace (Mk.readByte { s with at_:=s.at_ + 1,ret:=false } (x.toNat:Int)).1 (x.toNat:Int),0):=by
    unfold Mk.readOn
    rw [if_pos e]
  rw [eo]
  exact { is_move i _ with en:=rfl }
theorem fa_app (l r:Bs):∀ s,Mk.feedAll s (l ++ r)=Mk.feedAll (Mk.feedAll s l) r:=by
  induction l with
  | nil=>intro s;rfl
  | cons y l ih=>intro s;exact ih _
def Go1 (v:Vv) (l:Bs) (v' : Vv):Prop := ∀ s,Is s v→Is (Mk.feedAll s l) v'
theorem Go1.nil (v:Vv):Go1 v [] v:=fun s h=>h
theorem Go1.app {v v' v'' : Vv} {l r:Bs} (h:Go1 v l v') (g:Go1 v' r v''):Go1 v (l ++ r) v'' := fun s hs=>by rw [fa_app];exact g _ (h s hs)
theorem Go1.cons {v v' v'' : Vv} {x:UInt8} {r:Bs} (h:Go1 v [x] v') (g:Go1 v' r v''):Go1 v (x :: r) v'' := h.app g
theorem go_one {v v' : Vv} (x:UInt8) (hx:(x.toNat:Int) ≠ 13) (h1:∀ z,Is z v→∃ z', Mk.readByte z x.toNat=(z', 0)∧Is z' v'):Go1 v [x] v' := fun s hs =>
  is_feed x hs hx fun z hz=>by
    obtain ⟨z', e,i⟩:=h1 z hz
    rw [e]
    exact ⟨rfl,i⟩
theorem Is.pl0 {z:St} {v:Vv} (h:Is z v) (hp:v.pt=none):z.pl=0:=by have:=h.pt;rw [hp] at this;exact this
theorem Is.rp0 {z:St} {v:Vv} (h:Is z v) (hp:v.rf=none):Mk.isOpen z.rp=false:=by have:=h.rf;rw [hp] at this;exact this
def Quiet (v:Vv):Prop:=v.pt=none∧v.rf=none
theorem rb_quiet {z:St} {v:Vv} (h:Is z v) (q:Quiet v) (b:Int):Mk.readByte z b =
    (if v.st == 0 then Mk.readOutside z b else if v.st == 1 then Mk.readContent z b else if v.st == 2 then Mk.readSection z b else if v.st == 7 then Mk.readComment z b else if v.st == 11 then Mk.readInstruction z b else if v.st == 17 then Mk.readValue z b else Mk.readMark z b):=by
  unfold Mk.readByte
  rw [if_neg (by rw [h.pl0 q.1];decide),if_neg (by rw [h.rp0 q.2];decide),h.st]
def inT (v:Vv):Bool:=v.st == 1 || v.st == 2
def pv (v:Vv) (c:Int):Vv:=if inT v then { v with tx:=v.tx ++ Mk.encode c } else { v with tk:=v.tk ++ Mk.encode c,ct:=v.ct + 1 }
theorem is_put {z:St} {v:Vv} (h:Is z v) (c:Int):Is (Mk.put z c) (pv v c):=by
  have e:Mk.inText z=inT v:=by unfold Mk.inText inT;rw [h.st]
  unfold Mk.put pv
  rw [e]
  split
  · exact { h with tx:=by show z.text ++ _=v.tx ++ _;rw [h.tx] }
  · exact { h with tk := by show z.token ++ _ = v.tk ++ _; rw [h.tk]
                   ct:=by show z.count + 1=v.ct + 1;rw [h.ct] }
def gv (v:Vv) (p:Int × Int):Vv:=if p.2=0 then pv { v with pt:=none } p.1 else { v with pt:=some p }
theorem is_goOn {z:St} {v:Vv} (h:Is z v) (p:Int × Int) (hp:0≤p.2):Is (Mk.goOn z p) (gv v p):=by
  unfold Mk.goOn gv
  by_cases h0:p.2=0
  · rw [if_pos (by simp [h0]),if_pos h0]
    refine is_put (z:={ z with pc:=p.1,pl:=p.2 }) (v:={ v with pt:=none }) ?_ p.1
    exact { h with pt:=h0 }
  · rw [if_neg (by simp [h0]),if_neg h0]
    exact { h with pt:=⟨rfl,rfl,by omega⟩ }
def fitV (v:Vv) (n:Int):Prop:=inT v=true∨v.ct + n≤v.ot
theorem fits_v {z:St} {v:Vv} (h:Is z v) {n:Int} (hf:fitV v n):Mk.fits z n=true:=by
  have e:Mk.inText z=inT v:=by unfold Mk.inText inT;rw [h.st]
  unfold Mk.fits
  rw [e,h.ct,h.ot]
  rcases hf with hf | hf
  · rw [hf];rfl
  · simp [hf]
def pvs (v:Vv):Bs→Vv
  | []=>v
  | x :: r=>pvs (pv v x.toNat) r
theorem is_putAll:∀ (l:Bs) {z:St} {v:Vv},Is z v→Is (Mk.putAll z l) (pvs v l)
  | [],z,v,h=>h
  | x :: r,z,v,h=>is_putAll r (is_put h _)
theorem is_char {z:St} {v:Vv} (h:Is z v) (b:Int) (p:Int × Int) (hb:Mk.begin_ b=some p) (hp:0≤p.2) (hf:fitV v (v.hd.length + 1)) :
    ∃ z', Mk.readCharacter z b=(z', 0)∧Is z' (gv { pvs v v.hd with hd:=[] } p):=by
  have hf' := fits_v h hf
  refine ⟨_,?_,is_goOn (z:={ Mk.putAll z z.held with held:=[] }) (v:={ pvs v v.hd with hd:=[] }) ?_ p hp⟩
  · unfold Mk.readCharacter
    rw [hb]
    dsimp only
    rw [if_pos (by rw [h.hd];exact hf')]
  · rw [h.hd]
    exact { is_putAll v.hd h with hd:=rfl }
theorem is_part {z:St} {v:Vv} {q:Int × Int} (h:Is z v) (hq:v.pt=some q) (b:Int) (p:Int × Int) (hb:Mk.nextPart q.1 q.2 b=some p) (hp:0≤p.2) :
    ∃ z', Mk.readByte z b=(z', 0)∧Is z' (gv v p):=by
  have h1:=h.pt
  rw [hq] at h1
  obtain ⟨e1,e2,e3⟩:=h1
  refine ⟨_,?_,is_goOn h p hp⟩
  unfold Mk.readByte
  rw [if_pos (by rw [e2];exact e3)]
  unfold Mk.readPart
  rw [e1,e2,hb]
theorem go_part {v v' : Vv} {q:Int × Int} (hq:v.pt=some q) (b:Int) (h0:128≤b) (h1:b≤255) (p:Int × Int) (hb:Mk.nextPart q.1 q.2 b=some p) (hp:0≤p.2) (hv:v' = gv v p):Go1 v [Mk.u8 b] v' := by
  have e:((Mk.u8 b).toNat:Int)=b:=u8_nat (by omega) h1
  subst hv
  exact go_one _ (by rw [e];omega) fun z hz=>by rw [e];exact is_part hz hq b p hb hp
theorem begin_2 {b:Int} (h0:194≤b) (h1:b≤223):Mk.begin_ b=some (b - 192,1):=by
  unfold Mk.begin_
  rw [if_neg (by omega),if_pos ⟨h0,h1⟩]
theorem begin_3 {b:Int} (h0:224≤b) (h1:b≤239):Mk.begin_ b=some (b - 224,2):=by
  unfold Mk.begin_
  rw [if_neg (by omega),if_neg (by omega),if_pos ⟨h0,h1⟩]
theorem begin_4 {b:Int} (h0:240≤b) (h1:b≤244):Mk.begin_ b=some (b - 240,3):=by
  unfold Mk.begin_
  rw [if_neg (by omega),if_neg (by omega),if_neg (by omega),if_pos ⟨h0,h1⟩]
theorem begin_1 {b:Int} (h0:b<128) (h1:Mk.isChar b=true):Mk.begin_ b=some (b,0):=by
  unfold Mk.begin_
  rw [if_pos ⟨h0,h1⟩]
theorem next_of {c l b:Int} (h0:128≤b) (h1:b≤191) (h:Mk.canEnd (c * 64 + b - 128) (l - 1)=true):Mk.nextPart c l b=some (c * 64 + b - 128,l - 1):=by
  unfold Mk.nextPart
  rw [if_neg (by omega),if_pos h]
theorem encode_2 {c:Int} (h0:128≤c) (h1:c<2048):Mk.encode c=[Mk.u8 (192 + c / 64),Mk.u8 (128 + c % 64)]:=by
  unfold Mk.encode Mk.encodeI
  rw [if_neg (by omega),if_pos h1]
  rfl
theorem encode_3 {c:Int} (h0:2048≤c) (h1:c<65536):Mk.encode c=[Mk.u8 (224 + c / 4096),Mk.u8 (128 + c / 64 % 64),Mk.u8 (128 + c % 64)]:=by
  unfold Mk.encode Mk.encodeI
  rw [if_neg (by omega),if_neg (by omega),if_pos h1]
  rfl
theorem encode_4 {c:Int} (h0:65536≤c):Mk.encode c=[Mk.u8 (240 + c / 262144),Mk.u8 (128 + c / 4096 % 64),Mk.u8 (128 + c / 64 % 64),Mk.u8 (128 + c % 64)]:=by
  unfold Mk.encode Mk.encodeI
  rw [if_neg (by omega),if_neg (by omega),if_neg (by omega)]
  rfl
def Reads (v:Vv):Prop:=v.st=1∨v.st=7∧v.hd ≠ [45,45]∨v.st=11∨v.st=17∧v.qt=34
theorem go_first {v:Vv} (q:Quiet v) (hr:Reads v) (b:Int) (h0:128≤b) (h1:b≤255) (p:Int × Int) (hb:Mk.begin_ b=some p) (hp:0≤p.2) (hf:fitV v (v.hd.length + 1)):Go1 v [Mk.u8 b] (gv { pvs v v.hd with hd:=[] } p):=by
  have e:((Mk.u8 b).toNat:Int)=b:=u8_nat (by omega) h1
  refine go_one _ (by rw [e];omega) fun z hz => ?_
  rw [e,rb_quiet hz q]
  rcases hr with hr | ⟨hr,hh⟩ | hr | ⟨hr,hq⟩
  · rw [hr]
    show ∃ z', Mk.readContent z b=(z', 0)∧_
    unfold Mk.readContent
    rw [if_neg (by simp;omega),if_neg (by simp;omega),if_neg (by simp;omega),if_neg (by simp;omega)]
    have hz' : Is { z with brackets:=0 } v:={ hz with }
    exact is_char hz' b p hb hp hf
  · rw [hr]
    show ∃ z', Mk.readComment z b=(z', 0)∧_
    unfold Mk.readComment
    rw [if_neg (by omega),if_neg (by rw [hz.hd];exact hh),if_neg (by omega)]
    exact is_char hz b p hb hp hf
  · rw [hr]
    show ∃ z', Mk.readInstruction z b=(z', 0)∧_
    unfold Mk.readInstruction
    rw [if_neg (by omega),if_neg (by omega),if_neg (by omega)]
    exact is_char hz b p hb hp hf
  · rw [hr]
    show ∃ z', Mk.readValue z b=(z', 0)∧_
    unfold Mk.readValue
    rw [if_neg (by rw [hz.qt,hq];simp;omega),if_neg (by simp;omega),if_neg (by simp;omega),if_neg (by simp;omega)]
    exact is_char hz b p hb hp hf
theorem pvs_pt (l:Bs):∀ (v:Vv),(pvs v l).pt=v.pt:=by
  induction l with
  | nil=>intro v;rfl
  | cons x r ih=>intro v;show (pvs (pv v _) r).pt=_;rw [ih];unfold pv;split <;> rfl
theorem go_char {v:Vv} (q:Quiet v) (hr:Reads v) (c:Int) (h0:128≤c) (hc:Mk.isChar c=true) (hf:fitV v (v.hd.length + 1)):Go1 v (Mk.encode c) (pv { pvs v v.hd with hd:=[] } c):=by
  have hb:=isChar_bds hc
  generalize hw:({ pvs v v.hd with hd:=[] }:Vv)=w
  have hwp:w.pt=none:=by rw [← hw];exact (pvs_pt _ _).trans q.1
  have hwn:({ w with pt:=none }:Vv)=w:=by rw [← hwp]
  by_cases h1:c<2048
  · rw [encode_2 h0 h1]
    have g1:=go_first q hr (192 + c / 64) (by omega) (by omega) _ (begin_2 (by omega) (by omega)) (by dsimp only;omega) hf
    rw [hw] at g1
    refine g1.cons (go_part (q:=(192 + c / 64 - 192,1)) rfl (128 + c % 64) (by omega) (by omega) _ (next_of (by omega) (by omega) ?_) (by dsimp only;omega) ?_)
    · show Mk.isChar _=true
      rw [show (192 + c / 64 - 192) * 64 + (128 + c % 64) - 128=c by omega];exact hc
    · rw [show (192 + c / 64 - 192) * 64 + (128 + c % 64) - 128=c by omega]
      show _=pv { w with pt:=none } c
      rw [hwn]
  · by_cases h2:c<65536
    · rw [encode_3 (by omega) h2]
      have hs:c≤55295∨(57344≤c∧c≤65533):=by
        unfold Mk.isChar at hc
        rw [if_neg (by omega),if_pos h2] at hc
        simpa using hc
      have g1:=go_first q hr (224 + c / 4096) (by omega) (by omega) _ (begin_3 (by omega) (by omega)) (by dsimp only;omega) hf
      rw [hw] at g1
      refine g1.cons ?_
      refine (go_part (q:=(224 + c / 4096 - 224,2)) rfl (128 + c / 64 % 64) (by omega) (by omega) (c / 64,1) ?_ (by dsimp only;omega) rfl).cons ?_
      · have e:(224 + c / 4096 - 224) * 64 + (128 + c / 64 % 64) - 128=c / 64:=by omega
        have:=next_of (c:=224 + c / 4096 - 224) (l:=2) (b:=128 + c / 64 % 64) (by omega) (by omega) (by
          rw [e]
          show (if (1:Int) == 2 then _ else if (1:Int) == 1 then _ else _)=true
          simp
          omega)
        rw [e] at this
        exact this
      · refine go_part (q:=(c / 64,1)) rfl (128 + c % 64) (by omega) (by omega) (c,0) ?_ (by dsimp only;omega) ?_
        · have e:c / 64 * 64 + (128 + c % 64) - 128=c:=by omega
          have:=next_of (c:=c / 64) (l:=1) (b:=128 + c % 64) (by omega) (by omega) (by rw [e];exact hc)
          rw [e] at this
          exact this
        · show _=pv { w with pt:=none } c
          rw [hwn]
    · rw [encode_4 (by omega)]
      have g1:=go_first q hr (240 + c / 262144) (by omega) (by omega) _ (begin_4 (by omega) (by omega)) (by dsimp only;omega) hf
      rw [hw] at g1
      refine g1.cons ?_
      refine (go_part (q:=(240 + c / 262144 - 240,3)) rfl (128 + c / 4096 % 64) (by omega) (by omega) (c / 4096,2) ?_ (by dsimp only;omega) rfl).cons ?_
      · have e:(240 + c / 262144 - 240) * 64 + (128 + c / 4096 % 64) - 128=c / 4096:=by omega
        have:=next_of (c:=240 + c / 262144 - 240) (l:=3) (b:=128 + c / 4096 % 64) (by omega) (by omega) (by
          rw [e]
          show (if (2:Int) == 2 then _ else _)=true
          simp
          omega)
        rw [e] at this
        exact this
      · refine (go_part (q:=(c / 4096,2)) rfl (128 + c / 64 % 64) (by omega) (by omega) (c / 64,1) ?_ (by dsimp only;omega) rfl).cons ?_
        · have e:c / 4096 * 64 + (128 + c / 64 % 64) - 128=c / 64:=by omega
          have:=next_of (c:=c / 4096) (l:=2) (b:=128 + c / 64 % 64) (by omega) (by omega) (by
            rw [e]
            show (if (1:Int) == 2 then _ else if (1:Int) == 1 then _ else _)=true
            simp
            omega)
          rw [e] at this
          exact this
        · refine go_part (q:=(c / 64,1)) rfl (128 + c % 64) (by omega) (by omega) (c,0) ?_ (by dsimp only;omega) ?_
          · have e:c / 64 * 64 + (128 + c % 64) - 128=c:=by omega
            have:=next_of (c:=c / 64) (l:=1) (b:=128 + c % 64) (by omega) (by omega) (by rw [e];exact hc)
            rw [e] at this
            exact this
          · show _=pv { w with pt:=none } c
            rw [hwn]
end Go.Proofs.YtmgfijllcdadgabGreatDoor
