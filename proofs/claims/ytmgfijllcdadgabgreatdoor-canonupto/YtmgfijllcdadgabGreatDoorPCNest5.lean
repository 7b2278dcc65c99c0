/- Nest5, Nest6, Bnd1, Bnd2, Bnd3, Bnd4 -/
import Derived.Test.YtmgfijllcdadgabGreatDoorPCNest1
import Derived.Test.YtmgfijllcdadgabGreatDoorPCWay4
set_option linter.unusedVariables false
set_option linter.unusedSimpArgs false
namespace Go.Proofs.YtmgfijllcdadgabGreatDoor
open Mk (St Bs Ev Att)
section
variable {h0 h:Sh} {s:St}
theorem told_comm (H:Tl h0 s h):shs h0 (Mk.endComment s).list=some (shE h ⟨4,[],[],s.token,[]⟩ s.opn)∧(Mk.endComment s).text=[]∧(Mk.endComment s).opn=s.opn∧(Mk.endComment s).over=s.over:=by
  have H1:Tl h0 (Mk.dropToken { s with held:=[] }) h:=H.quiet (.of rfl rfl rfl rfl rfl rfl rfl)
  have h1:=shs_add (e:=⟨4,[],[],s.token,[]⟩) (o:=s.opn) H1 (show ¬ (4:Int)=3 by decide) (by rfl) List.nodup_nil
  have e:=add_core (Mk.dropToken { s with held:=[] }) ⟨4,[],[],s.token,[]⟩
  refine ⟨h1,add_text (Mk.dropToken { s with held:=[] }) ⟨4,[],[],s.token,[]⟩,?_,?_⟩
  · unfold Mk.endComment Mk.resume;rw [e];rfl
  · unfold Mk.endComment Mk.resume;rw [e];rfl
theorem told_instr (H:Tl h0 s h):shs h0 (Mk.endInstruction s).list=some (shE h ⟨5,s.name,[],s.token,[]⟩ s.opn)∧(Mk.endInstruction s).text=[]∧(Mk.endInstruction s).opn=s.opn∧(Mk.endInstruction s).over=s.over:=by
  have H1:Tl h0 (Mk.dropToken { s with held:=[] }) h:=H.quiet (.of rfl rfl rfl rfl rfl rfl rfl)
  have h1:=shs_add (e:=⟨5,s.name,[],s.token,[]⟩) (o:=s.opn) H1 (show ¬ (5:Int)=3 by decide) (by rfl) List.nodup_nil
  have e:=add_core (Mk.dropToken { s with held:=[] }) ⟨5,s.name,[],s.token,[]⟩
  refine ⟨h1,add_text (Mk.dropToken { s with held:=[] }) ⟨5,s.name,[],s.token,[]⟩,?_,?_⟩
  · unfold Mk.endInstruction Mk.resume;rw [e];rfl
  · unfold Mk.endInstruction Mk.resume;rw [e];rfl
theorem told_tellStart (H:Tl h0 s h) (hon:s.on=false) (hcn:s.cnt=[]) (hnd:(Names s.attrs).Nodup):shs h0 (Mk.tellStart s).list=some (shE h ⟨1,s.name,[],[],s.attrs⟩ (s.opn ++ [s.name]))∧(Mk.tellStart s).text=[]:=by
  rw [tellStart_off hcn hon]
  exact ⟨shs_add (e:=⟨1,s.name,[],[],s.attrs⟩) (o:=s.opn ++ [s.name]) H (show ¬ (1:Int)=3 by decide) (by rfl) hnd,add_text s ⟨1,s.name,[],[],s.attrs⟩⟩
theorem told_start (H:Tl h0 s h) (hon:s.on=false) (hcn:s.cnt=[]) (hnd:(Names s.attrs).Nodup):shs h0 (Mk.endStart s 62).list=some (shE h ⟨1,s.name,[],[],s.attrs⟩ (s.opn ++ [s.name]))∧(Mk.endStart s 62).text=[]∧(Mk.endStart s 62).opn=s.opn ++ [s.name]∧(Mk.endStart s 62).over=s.over:=by
  have h1:=told_tellStart H hon hcn hnd
  refine ⟨h1.1,h1.2,rfl,?_⟩
  show (Mk.tellStart s).over=s.over
  rw [tellStart_core]
theorem told_slash (H:Tl h0 s h) (hon:s.on=false) (hcn:s.cnt=[]) (hnd:(Names s.attrs).Nodup):shs h0 (Mk.tellEnd (Mk.tellStart s) s.name).list=some (shE (shE h ⟨1,s.name,[],[],s.attrs⟩ (s.opn ++ [s.name])) ⟨2,s.name,[],[],[]⟩ s.opn)∧(Mk.tellEnd (Mk.tellStart s) s.name).text=[]∧(Mk.tellEnd (Mk.tellStart s) s.name).opn=s.opn∧(Mk.tellEnd (Mk.tellStart s) s.name).over=decide (s.opn.length=0):=by
  have h1:=told_tellStart H hon hcn hnd
  have e:=tellStart_core s
  have hc:(Mk.tellStart s).cnt=[]:=by rw [e];exact hcn
  have ho:(Mk.tellStart s).on=false:=by rw [e];exact hon
  have h2:=tellEnd_list hc ho s.name
  have h3:=tellEnd_core (Mk.tellStart s) s.name
  refine ⟨?_,h2.2,?_,?_⟩
  · rw [h2.1,add_list,h1.2]
    rw [if_pos (by rfl),shs_app,h1.1]
    show (match sh1 (shE h ⟨1,s.name,[],[],s.attrs⟩ (s.opn ++ [s.name])) ⟨2,s.name,[],[],[]⟩ with | none=>none | some h' => some h')=_
    rw [sh1_eq (e:=⟨2,s.name,[],[],[]⟩) (o:=s.opn) (show ¬ (2:Int)=3 by decide) ?_ List.nodup_nil]
    show stk1 (s.opn ++ [s.name]) ⟨2,s.name,[],[],[]⟩=some s.opn
    unfold stk1
    rw [if_neg (show ¬ (2:Int)=1 by decide),if_pos rfl,if_neg]
    · simp
    · simp [List.getLastD_eq_getLast?]
  · rw [h3,e]
  · rw [h3,e]
theorem told_ends (H:Tl h0 s h) (hon:s.on=false) (hcn:s.cnt=[]) (hne:s.opn ≠ []):shs h0 (Mk.endInnermost s).list=some (shE h ⟨2,Mk.innermost s,[],[],[]⟩ s.opn.dropLast)∧(Mk.endInnermost s).text=[]∧(Mk.endInnermost s).opn=s.opn.dropLast∧(Mk.endInnermost s).over=decide (s.opn.dropLast.length=0):=by
  have h2:=tellEnd_list (s:={ s with opn:=s.opn.dropLast }) hcn hon (Mk.innermost s)
  have h3:=tellEnd_core { s with opn:=s.opn.dropLast } (Mk.innermost s)
  unfold Mk.endInnermost
  refine ⟨?_,h2.2,by rw [h3],by rw [h3]⟩
  rw [h2.1]
  have:(Mk.add { s with opn:=s.opn.dropLast } ⟨2,Mk.innermost s,[],[],[]⟩).list=(Mk.add s ⟨2,Mk.innermost s,[],[],[]⟩).list:=by rw [add_list,add_list]
  rw [this]
  refine shs_add H (show ¬ (2:Int)=3 by decide) ?_ List.nodup_nil
  unfold stk1
  rw [if_neg (show ¬ (2:Int)=1 by decide),if_pos rfl,if_neg]
  unfold Mk.innermost
  simp [hne]
theorem longE_4 (t:Bs):longE ⟨4,[],[],t,[]⟩=chars t:=by show max 0 (chars t)=chars t;omega
theorem longE_5 (n t:Bs):longE ⟨5,n,[],t,[]⟩=max n.length (chars t):=rfl
theorem longE_2 (n:Bs):longE ⟨2,n,[],[],[]⟩=n.length:=by show max n.length 0=n.length;omega
theorem longE_1 (n:Bs) (l:List Att):longE ⟨1,n,[],[],l⟩=longA n.length l:=by show longA (max n.length 0) l=_;congr 1;omega
theorem tl_tells (hw:W s) (hv:V s) (H:Tl h0 s h) {s1:St} (ht:Tells s s1) (b1:s1.od=s.od) (b2:s1.oa=s.oa) (b3:s1.ot=s.ot):∃ h1,Tl h0 s1 h1:=by
  have hde:=H.de
  have hat:=H.at_
  have hto:=H.tk
  have hle:=H.le
  have hou:=H.ou
  have hdp:=hw.dp
  cases ht with
  | quiet q=>exact ⟨h,H.quiet q⟩
  | comm e =>
    obtain ⟨g1,g2,g3,g4⟩:=told_comm H
    have hc:=hv.ct (by omega)
    refine ⟨_,g1,g3.symm,rfl,?_,?_,?_,?_,?_,fun g=>absurd g2 g⟩
    · rw [b1];show ((max h.dep s.opn.length:Nat):Int)≤s.od;omega
    · rw [b2];show ((max h.att 0:Nat):Int)≤s.oa;omega
    · rw [b3];show ((max h.tok (longE _):Nat):Int)≤s.ot;rw [longE_4];omega
    · rw [g3];show s.opn.length≤max h.dep s.opn.length;omega
    · rw [g3,g4];exact hou
  | instr e =>
    obtain ⟨g1,g2,g3,g4⟩:=told_instr H
    have hn:=hv.nm (by omega)
    have hc:(chars s.token:Int)≤s.ot:=by
      rcases e with e | e
      · rw [(hw.tk (by omega) (by omega) (by omega) (by omega) (by omega) (by omega)).1];show (0:Int)≤s.ot;omega
      · have:=hv.ct (by omega);omega
    refine ⟨_,g1,g3.symm,rfl,?_,?_,?_,?_,?_,fun g=>absurd g2 g⟩
    · rw [b1];show ((max h.dep s.opn.length:Nat):Int)≤s.od;omega
    · rw [b2];show ((max h.att 0:Nat):Int)≤s.oa;omega
    · rw [b3];show ((max h.tok (longE _):Nat):Int)≤s.ot;rw [longE_5];omega
    · rw [g3];show s.opn.length≤max h.dep s.opn.length;omega
    · rw [g3,g4];exact hou
  | start e =>
    rename_i s'
    have hdp12:=hw.dp12 (by omega) (by omega)
    have hov:s.over=false:=by
      cases g:s.over
      · rfl
      · exact absurd (by omega) (hw.ov g).2
    have q:Qt s s' ∧ s'.on=false∧s'.cnt=[]∧s'.attrs=s.attrs∧(s'.name.length:Int)≤s.ot:=by
      rcases e with ⟨e,rfl⟩ | ⟨e,rfl⟩
      · exact ⟨.of rfl rfl rfl rfl rfl rfl rfl,hv.on,hv.cn,rfl,(hw.tk12 e).2⟩
      · exact ⟨.of rfl rfl rfl rfl rfl rfl rfl,hv.on,hv.cn,rfl,(hw.nm12 (by omega) (by omega)).2⟩
    obtain ⟨q1,q2,q3,q4,q5⟩:=q
    obtain ⟨g1,g2,g3,g4⟩:=told_start (H.quiet q1) q2 q3 (by rw [q4];exact hv.at2)
    have hl:=longA_le (t:=s.ot) s'.attrs s'.name.length q5 (by rw [q4];exact hv.at1)
    have ha3:=hv.at3
    refine ⟨_,g1,g3.symm,rfl,?_,?_,?_,?_,?_,fun g=>absurd g2 g⟩
    · rw [b1];show ((max h.dep (s'.opn ++ [s'.name]).length:Nat):Int)≤s.od;rw [q1.op];simp;omega
    · rw [b2];show ((max h.att s'.attrs.length:Nat):Int)≤s.oa;rw [q4];omega
    · rw [b3];show ((max h.tok (longE _):Nat):Int)≤s.ot;rw [longE_1];omega
    · rw [g3];show (s'.opn ++ [s'.name]).length≤max h.dep (s'.opn ++ [s'.name]).length;omega
    · rw [g3]
      rw [if_neg (by simp)]
      show (if (1:Int)=1∧h.opn=[] then h.out + 1 else h.out)=1
      rw [H.op]
      by_cases ho:s.opn=[]
      · rw [if_pos ⟨rfl,ho⟩,hou,if_pos ⟨ho,hov⟩]
      · rw [if_neg (fun g=>ho g.2),hou,if_neg (fun g=>ho g.1)]
  | slash e =>
    have hdp12:=hw.dp12 (by omega) (by omega)
    have hov:s.over=false:=by
      cases g:s.over
      · rfl
      · exact absurd (by omega) (hw.ov g).2
    obtain ⟨g1,g2,g3,g4⟩:=told_slash H hv.on hv.cn hv.at2
    have hl:=longA_le (t:=s.ot) s.attrs s.name.length (hw.nm12 (by omega) (by omega)).2 hv.at1
    have hn:=(hw.nm12 (by omega) (by omega)).2
    have ha3:=hv.at3
    refine ⟨_,g1,g3.symm,rfl,?_,?_,?_,?_,?_,fun g=>absurd g2 g⟩
    · rw [b1];show ((max (max h.dep (s.opn ++ [s.name]).length) s.opn.length:Nat):Int)≤s.od;simp;omega
    · rw [b2];show ((max (max h.att s.attrs.length) 0:Nat):Int)≤s.oa;omega
    · rw [b3];show ((max (max h.tok (longE ⟨1,s.name,[],[],s.attrs⟩)) (longE ⟨2,s.name,[],[],[]⟩):Nat):Int)≤s.ot;rw [longE_1,longE_2];omega
    · show (Mk.tellEnd (Mk.tellStart s) s.name).opn.length≤_
      rw [g3];show s.opn.length≤max (max h.dep (s.opn ++ [s.name]).length) s.opn.length;omega
    · show _=if (Mk.tellEnd (Mk.tellStart s) s.name).opn=[]∧(Mk.tellEnd (Mk.tellStart s) s.name).over=false then 0 else 1
      rw [g3,g4]
      show (if (2:Int)=1∧(s.opn ++ [s.name])=[] then (if (1:Int)=1∧h.opn=[] then h.out + 1 else h.out) + 1 else (if (1:Int)=1∧h.opn=[] then h.out + 1 else h.out))=_
      rw [if_neg (by simp),H.op]
      by_cases ho:s.opn=[]
      · rw [if_pos ⟨rfl,ho⟩,hou,if_pos ⟨ho,hov⟩,if_neg (by rw [ho];decide)]
      · rw [if_neg (fun g=>ho g.2),hou,if_neg (fun g=>ho g.1),if_neg (fun g=>ho g.1)]
  | ends e =>
    have hne:=hw.o1 (by omega)
    obtain ⟨g1,g2,g3,g4⟩:=told_ends H hv.on hv.cn hne
    have hn:((Mk.innermost s).length:Int)≤s.ot:=by
      refine (hw.on1 _ ?_).2
      unfold Mk.innermost
      rw [List.getLastD_eq_getLast?,List.getLast?_eq_some_getLast hne]
      exact List.getLast_mem hne
    have hdl:s.opn.dropLast.length≤s.opn.length:=by rw [List.length_dropLast];omega
    refine ⟨_,g1,g3.symm,rfl,?_,?_,?_,?_,?_,fun g=>absurd g2 g⟩
    · rw [b1];show ((max h.dep s.opn.dropLast.length:Nat):Int)≤s.od;omega
    · rw [b2];show ((max h.att 0:Nat):Int)≤s.oa;omega
    · rw [b3];show ((max h.tok (longE _):Nat):Int)≤s.ot;rw [longE_2];omega
    · rw [g3];show s.opn.dropLast.length≤max h.dep s.opn.dropLast.length;omega
    · rw [g3,g4]
      show h.out=_
      rw [hou,if_neg (fun g=>hne g.1),if_neg]
      intro g
      rw [g.1] at g
      exact absurd g.2 (by decide)
end
theorem V.line {s:St} (h:V s) (l c:Int):V { s with line:=l,column:=c }:={ h with }
theorem V.at {s:St} (h:V s) (a:Int) (r:Bool):V { s with at_:=a,ret:=r }:={ h with }
theorem W.at {s:St} (h:W s) (a:Int) (r:Bool):W { s with at_:=a,ret:=r }:={ h with }
theorem V.en {s:St} (h:V s) (a:Int):V { s with ended:=a }:={ h with }
theorem bd_readByte {s:St} (hw:W s) (hv:V s) (b:Int) (he:(Mk.readByte s b).2=0):(Mk.readByte s b).1.od=s.od∧(Mk.readByte s b).1.oa=s.oa∧(Mk.readByte s b).1.ot=s.ot:=by
  have ht:=tells_readByte hw hv.on b he
  generalize (Mk.readByte s b).1=s1 at ht
  cases ht with
  | quiet q=>exact ⟨q.od,q.oa,q.ot⟩
  | comm e=>have e:=add_core (Mk.dropToken { s with held:=[] }) ⟨4,[],[],s.token,[]⟩;unfold Mk.endComment Mk.resume;rw [e];exact ⟨rfl,rfl,rfl⟩
  | instr e=>have e:=add_core (Mk.dropToken { s with held:=[] }) ⟨5,s.name,[],s.token,[]⟩;unfold Mk.endInstruction Mk.resume;rw [e];exact ⟨rfl,rfl,rfl⟩
  | start e =>
    rename_i s'
    have e1:(Mk.endStart s' 62).od=(Mk.tellStart s').od∧(Mk.endStart s' 62).oa=(Mk.tellStart s').oa∧(Mk.endStart s' 62).ot=(Mk.tellStart s').ot:=⟨rfl,rfl,rfl⟩
    have e2:=tellStart_core s'
    rw [e2] at e1
    rcases e with ⟨e,rfl⟩ | ⟨e,rfl⟩ <;> exact e1
  | slash e =>
    show (Mk.tellEnd (Mk.tellStart s) s.name).od=s.od∧(Mk.tellEnd (Mk.tellStart s) s.name).oa=s.oa∧(Mk.tellEnd (Mk.tellStart s) s.name).ot=s.ot
    rw [tellEnd_core,tellStart_core s];exact ⟨rfl,rfl,rfl⟩
  | ends e=>unfold Mk.endInnermost;rw [tellEnd_core];exact ⟨rfl,rfl,rfl⟩
theorem feedByte_right {s:St} (h0:s.ended=0) (x:UInt8) (he:(Mk.feedByte s x).ended=0) :
    Mk.feedByte s x={ s with at_:=s.at_ + 1,ret:=false,ended:=0 }∨∃ b r l c,0≤b∧(Mk.readByte { s with at_:=s.at_ + 1,ret:=r } b).2=0∧Mk.feedByte s x={ (Mk.readByte { s with at_:=s.at_ + 1,ret:=r } b).1 with line:=l,column:=c,ended:=0 }:=by
  have go:∀ (r:Bool) (b:Int),0≤b→(Mk.readOn { s with at_:=s.at_ + 1,ret:=r } b).2=0→∃ l c,(Mk.readByte { s with at_:=s.at_ + 1,ret:=r } b).2=0∧(Mk.readOn { s with at_:=s.at_ + 1,ret:=r } b).1={ (Mk.readByte { s with at_:=s.at_ + 1,ret:=r } b).1 with line:=l,column:=c }:=by
    intro r b hb h
    unfold Mk.readOn at h ⊢
    split at h
    · rename_i g
      rw [if_pos g]
      obtain ⟨l,c,e⟩:=movePlace_core (Mk.readByte { s with at_:=s.at_ + 1,ret:=r } b).1 b
      exact ⟨l,c,g,e⟩
    · rename_i g;exact absurd h g
  unfold Mk.feedByte at he ⊢
  rw [if_pos h0] at he ⊢
  dsimp only at he ⊢
  unfold Mk.read at he ⊢
  split at he
  · rename_i g;rw [if_pos g];exact .inl rfl
  · rename_i g;rw [if_neg g]
    right
    split at he
    · rename_i g2;rw [if_pos g2]
      obtain ⟨l,c,e1,e2⟩:=go true 10 (by decide) he
      refine ⟨10,true,l,c,by decide,e1,?_⟩
      have he:(Mk.readOn { s with at_:=s.at_ + 1,ret:=true } 10).2=0:=he
      dsimp only
      rw [e2,he]
    · rename_i g2;rw [if_neg g2]
      obtain ⟨l,c,e1,e2⟩:=go false x.toNat (by omega) he
      refine ⟨x.toNat,false,l,c,by omega,e1,?_⟩
      have he:(Mk.readOn { s with at_:=s.at_ + 1,ret:=false } x.toNat).2=0:=he
      dsimp only
      rw [e2,he]
theorem v_feedByte {s:St} (hw:W s) (h:V s) (h0:s.ended=0) (x:UInt8) (he:(Mk.feedByte s x).ended=0):V (Mk.feedByte s x):=by
  rcases feedByte_right h0 x he with e | ⟨b,r,l,c,hb,e1,e⟩
  · rw [e];exact { h with }
  · rw [e];exact ((v_readByte (hw.at _ r) (h.at _ r) b hb e1).line l c).en 0
theorem tl_feedByte {h0 h:Sh} {s:St} (hw:W s) (hv:V s) (H:Tl h0 s h) (h00:s.ended=0) (x:UInt8) (he:(Mk.feedByte s x).ended=0):∃ h1,Tl h0 (Mk.feedByte s x) h1:=by
  rcases feedByte_right h00 x he with e | ⟨b,r,l,c,hb,e1,e⟩
  · rw [e];exact ⟨h,H.quiet (.of rfl rfl rfl rfl rfl rfl rfl)⟩
  · have hw1:=hw.at (s.at_ + 1) r
    have hv1:=hv.at (s.at_ + 1) r
    have H1:Tl h0 { s with at_:=s.at_ + 1,ret:=r } h:=H.quiet (.of rfl rfl rfl rfl rfl rfl rfl)
    obtain ⟨b1,b2,b3⟩:=bd_readByte hw1 hv1 b e1
    obtain ⟨h1,H2⟩:=tl_tells hw1 hv1 H1 (tells_readByte hw1 hv1.on b e1) b1 b2 b3
    rw [e]
    exact ⟨h1,H2.quiet (.of rfl rfl rfl rfl rfl rfl rfl)⟩
theorem feedAll_cons_ok {s:St} {x:UInt8} {r:Bs} (he:(Mk.feedAll s (x :: r)).ended=0):(Mk.feedByte s x).ended=0:=by
  cases hd:decide ((Mk.feedByte s x).ended=0)
  · have hne:(Mk.feedByte s x).ended ≠ 0:=by simpa using hd
    have hs:∀ (l:Bs) (z:St),z.ended ≠ 0→Mk.feedAll z l=z:=by
      intro l
      induction l with
      | nil=>intro z _;rfl
      | cons y t ih => intro z hz; show Mk.feedAll (Mk.feedByte z y) t = z; have : Mk.feedByte z y = z := by unfold Mk.feedByte; rw [if_neg hz]
                       rw [this];exact ih z hz
    have he' : (Mk.feedAll (Mk.feedByte s x) r).ended=0:=he
    rw [hs r _ hne] at he'
    exact absurd he' hne
  · simpa using hd
theorem tl_feedAll {h0:Sh}:∀ (l:Bs) {s:St} {h:Sh},W s→V s→Tl h0 s h→s.ended=0→(Mk.feedAll s l).ended=0→W (Mk.feedAll s l)∧V (Mk.feedAll s l)∧∃ h1,Tl h0 (Mk.feedAll s l) h1
  | [],s,h,hw,hv,H,_,_=>⟨hw,hv,h,H⟩
  | x :: r,s,h,hw,hv,H,h00,he=>by
    have hx:=feedAll_cons_ok he
    obtain ⟨h1,H1⟩:=tl_feedByte hw hv H h00 x hx
    exact tl_feedAll r (w_feedByte hw x hx) (v_feedByte hw hv h00 x hx) H1 hx he
theorem v_make (d a t:Int) (t1:8≤t) (a1:0≤a):V (Mk.make_ d a t false):=by
  refine ⟨rfl,rfl,fun _=>⟨rfl,?_⟩,?_,?_,List.nodup_nil,a1,?_,?_,?_,?_,?_⟩
  · show (0:Int)≤t;omega
  · intro g;exact absurd (show (0:Int)=14 from g) (by decide)
  · intro a ha;cases ha
  · intro g;exact absurd (show (0:Int)=15∨(0:Int)=16∨(0:Int)=17 from g) (by decide)
  · intro g;exact absurd (show (0:Int)=14 from g) (by decide)
  · intro g;exact absurd (show (9:Int)≤0∧(0:Int)≤11 from g) (by decide)
  · intro g;exact absurd (show (0:Int)<0 from g) (by decide)
  · intro g;exact absurd (show Mk.isOpen 0=true from g) (by decide)
def Sh.zero:Sh:=⟨[],0,0,0,0,false⟩
theorem tl_make (d a t:Int) (d1:1≤d) (t1:8≤t) (a1:0≤a):Tl Sh.zero (Mk.make_ d a t false) Sh.zero:=
  ⟨rfl,rfl,rfl,by show (0:Int)≤d;omega,by show (0:Int)≤a;omega,by show (0:Int)≤t;omega,Nat.le_refl _,rfl,fun g=>absurd rfl g⟩
variable {d a t:Int}
theorem tellEnd_off {s:St} (h:s.cnt=[]) (ho:s.on=false) (n:Bs):Mk.tellEnd s n=Mk.resume { Mk.leave (Mk.add s ⟨2,n,[],[],[]⟩) with over:=decide (s.opn.length=0) }:=by
  have e0:=add_core s ⟨2,n,[],[],[]⟩
  unfold Mk.tellEnd Mk.tellUnbinds Mk.spaceOf
  rw [ho]
  have hc:(Mk.add s ⟨2,n,[],[],[]⟩).cnt=[]:=by rw [e0];exact h
  rw [if_neg (by decide),ofTag_nil hc]
  rfl
variable {d a t:Int}
theorem add_pre (s:St) (e:Ev):s.list <+: (Mk.add s e).list∧e ∈ (Mk.add s e).list:=by
  rw [add_list]
  refine ⟨?_,by simp⟩
  split
  · exact List.prefix_append _ _
  · rw [List.append_assoc];exact List.prefix_append _ _
variable {d a t:Int}
theorem tells_pre {s s1:St} (hv:V s) (h:Tells s s1):s.list <+: s1.list:=by
  cases h with
  | quiet q=>rw [q.li];exact List.prefix_refl _
  | comm e=>exact (add_pre (Mk.dropToken { s with held:=[] }) ⟨4,[],[],s.token,[]⟩).1
  | instr e=>exact (add_pre (Mk.dropToken { s with held:=[] }) ⟨5,s.name,[],s.token,[]⟩).1
  | start e =>
    rename_i s'
    have e1:(Mk.endStart s' 62).list=(Mk.tellStart s').list:=rfl
    rw [e1]
    rcases e with ⟨e,rfl⟩ | ⟨e,rfl⟩
    · rw [tellStart_off (s:={ Mk.dropToken s with name:=s.token }) hv.cn hv.on];exact (add_pre { Mk.dropToken s with name:=s.token } _).1
    · rw [tellStart_off hv.cn hv.on];exact (add_pre _ _).1
  | slash e =>
    have hc:=tellStart_core s
    have h2:=tellEnd_list (s:=Mk.tellStart s) (by rw [hc];exact hv.cn) (by rw [hc];exact hv.on) s.name
    show s.list <+: (Mk.tellEnd (Mk.tellStart s) s.name).list
    rw [h2.1]
    refine List.IsPrefix.trans ?_ (add_pre _ _).1
    rw [tellStart_off hv.cn hv.on];exact (add_pre _ _).1
  | ends e =>
    have h2:=tellEnd_list (s:={ s with opn:=s.opn.dropLast }) hv.cn hv.on (Mk.innermost s)
    unfold Mk.endInnermost
    rw [h2.1];exact (add_pre { s with opn:=s.opn.dropLast } _).1
variable {d a t:Int}
theorem fb1 {z:St} {x:UInt8} (h0:z.ended=0) (c:(x.toNat:Int)=10∧z.ret=true):Mk.feedByte z x={ z with at_:=z.at_ + 1,ret:=false,ended:=0 }:=by
  unfold Mk.feedByte
  rw [if_pos h0]
  dsimp only
  unfold Mk.read
  rw [if_pos c]
theorem fb2 {z:St} {x:UInt8} (h0:z.ended=0) (c:¬ ((x.toNat:Int)=10∧z.ret=true)) (c2:(x.toNat:Int)=13):Mk.feedByte z x={ (Mk.readOn { z with at_:=z.at_ + 1,ret:=true } 10).1 with ended:=(Mk.readOn { z with at_:=z.at_ + 1,ret:=true } 10).2 }:=by
  unfold Mk.feedByte
  rw [if_pos h0]
  dsimp only
  unfold Mk.read
  rw [if_neg c,if_pos c2]
theorem fb3 {z:St} {x:UInt8} (h0:z.ended=0) (c:¬ ((x.toNat:Int)=10∧z.ret=true)) (c2:¬ (x.toNat:Int)=13):Mk.feedByte z x={ (Mk.readOn { z with at_:=z.at_ + 1,ret:=false } x.toNat).1 with ended:=(Mk.readOn { z with at_:=z.at_ + 1,ret:=false } x.toNat).2 }:=by
  unfold Mk.feedByte
  rw [if_pos h0]
  dsimp only
  unfold Mk.read
  rw [if_neg c,if_neg c2]
theorem fa_stuck:∀ (l:Bs) (z:St),z.ended ≠ 0→Mk.feedAll z l=z
  | [],z,_=>rfl
  | y :: r,z,hz=>by
    show Mk.feedAll (Mk.feedByte z y) r=z
    have:Mk.feedByte z y=z:=by unfold Mk.feedByte;rw [if_neg hz]
    rw [this];exact fa_stuck r z hz
end Go.Proofs.YtmgfijllcdadgabGreatDoor
