/- Cut -/
import Derived.Test.YtmgfijllcdadgabGreatDoorPM27
set_option linter.unusedVariables false
set_option linter.unusedSimpArgs false
namespace Go.Proofs.YtmgfijllcdadgabGreatDoor
open Mk (St Bs Ev Att)
def tx (u:Bs):Ev:=⟨3,[],[],u,[]⟩
def out (l:List Ev) (t:Bs):List Ev:=if t.length=0 then l else l ++ [tx t]
theorem joinOne_tx (E:List Ev) (t u:Bs):joinOne (joinOne E (tx t)) (tx u)=joinOne E (tx (t ++ u)):=by
  unfold joinOne
  cases h:E.getLast? with
  | none=>simp [tx]
  | some x =>
    by_cases hk:x.kind=3
    · simp [hk,tx]
    · simp [hk,tx]
theorem join_out_text (a l:List Ev) (t u:Bs):join a (out l (t ++ u))=if u.length=0 then join a (out l t) else joinOne (join a (out l t)) (tx u):=by
  by_cases hu:u=[]
  · subst hu;simp
  · have h1:u.length ≠ 0:=by simpa using hu
    rw [if_neg h1]
    unfold out
    have h2:(t ++ u).length ≠ 0:=by simp [hu]
    rw [if_neg h2]
    by_cases ht:t=[]
    · subst ht;simp [join_snoc]
    · have h3:t.length ≠ 0:=by simpa using ht
      rw [if_neg h3,join_snoc,join_snoc,joinOne_tx]
def Sm (acc:List Ev) (s s' : St):Prop := ∃ L T,s' = { s with list:=L,text:=T }∧join [] (out s.list s.text)=join acc (out L T)
def R (acc:List Ev) (p q:St × Int):Prop:=Sm acc p.1 q.1∧p.2=q.2
theorem rel_ite {acc:List Ev} {c:Prop} [Decidable c] {a b a' b' : St × Int} (h1:R acc a a') (h2:R acc b b'):R acc (if c then a else b) (if c then a' else b'):=by split <;> assumption
theorem sm_upd {acc:List Ev} {s s' : St} (g:St→St) (hg:∀ s L T,g { s with list:=L,text:=T }={ g s with list:=L,text:=T }) (h1:∀ s,(g s).list=s.list) (h2:∀ s,(g s).text=s.text) (h:Sm acc s s'):Sm acc (g s) (g s'):=by
  obtain ⟨L,T,rfl,hev⟩:=h
  exact ⟨L,T,hg _ _ _,by rw [h1,h2];exact hev⟩
theorem sm_put {acc:List Ev} {s s' : St} (h:Sm acc s s') (c:Int):Sm acc (Mk.put s c) (Mk.put s' c):=by
  obtain ⟨L,T,rfl,hev⟩:=h
  unfold Mk.put
  show Sm acc (if Mk.inText s=true then _ else _) (if Mk.inText s=true then _ else _)
  split
  · refine ⟨L,T ++ Mk.encode c,rfl,?_⟩
    show join [] (out s.list (s.text ++ Mk.encode c))=_
    rw [join_out_text,join_out_text,hev]
  · exact ⟨L,T,rfl,hev⟩
theorem sm_putAll {acc:List Ev}:∀ (l:Bs) {s s' : St},Sm acc s s' → Sm acc (Mk.putAll s l) (Mk.putAll s' l)
  | [],_,_,h=>h
  | x :: r,_,_,h=>sm_putAll r (sm_put h _)
theorem endText_out (s:St):(Mk.endText s).list=out s.list s.text∧(Mk.endText s).text=[]:=by
  unfold Mk.endText out
  split
  · rename_i h;exact ⟨rfl,by simpa using h⟩
  · exact ⟨rfl,rfl⟩
theorem endText_core (s:St):Mk.endText s={ s with list:=(Mk.endText s).list,text:=(Mk.endText s).text }:=by
  unfold Mk.endText
  split <;> rfl
theorem endText_set (s:St) (L:List Ev) (T:Bs):Mk.endText { s with list:=L,text:=T }={ s with list:=out L T,text:=[] }:=by
  have h1:=endText_out { s with list:=L,text:=T }
  have h2:=endText_core { s with list:=L,text:=T }
  rw [h1.1,h1.2] at h2
  exact h2
theorem sm_add {acc:List Ev} {s s' : St} (h:Sm acc s s') (e:Ev):Sm acc (Mk.add s e) (Mk.add s' e):=by
  obtain ⟨L,T,rfl,hev⟩:=h
  have h1:Mk.add s e={ s with list:=out s.list s.text ++ [e],text:=[] }:=by
    unfold Mk.add
    have:=endText_set s s.list s.text
    have h0:({ s with list:=s.list,text:=s.text }:St)=s:=rfl
    rw [h0] at this
    rw [this]
  have h2:Mk.add { s with list:=L,text:=T } e={ s with list:=out L T ++ [e],text:=[] }:=by
    unfold Mk.add
    rw [endText_set]
  rw [h1,h2]
  refine ⟨out L T ++ [e],[],rfl,?_⟩
  show join [] (out (out s.list s.text ++ [e]) [])=join acc (out (out L T ++ [e]) [])
  have h3:∀ l,out l []=l:=fun l=>rfl
  rw [h3,h3,join_snoc,join_snoc,hev]
theorem sm_resume {acc:List Ev} {s s' : St} (h:Sm acc s s'):Sm acc (Mk.resume s) (Mk.resume s'):=sm_upd Mk.resume (fun _ _ _=>rfl) (fun _=>rfl) (fun _=>rfl) h
theorem sm_goOn {acc:List Ev} {s s' : St} (h:Sm acc s s') (p:Int × Int):Sm acc (Mk.goOn s p) (Mk.goOn s' p):=by
  unfold Mk.goOn
  split
  · exact sm_put (sm_upd (fun z=>{ z with pc:=p.1,pl:=p.2 }) (fun _ _ _=>rfl) (fun _=>rfl) (fun _=>rfl) h) _
  · exact sm_upd (fun z=>{ z with pc:=p.1,pl:=p.2 }) (fun _ _ _=>rfl) (fun _=>rfl) (fun _=>rfl) h
theorem sm_setRef {acc:List Ev} {s s' : St} (h:Sm acc s s') (r:Mk.Rf):Sm acc (Mk.setRef s r) (Mk.setRef s' r):=sm_upd (fun z=>Mk.setRef z r) (fun _ _ _=>rfl) (fun _=>rfl) (fun _=>rfl) h
theorem sm_readCharacter {acc:List Ev} {s s' : St} (h:Sm acc s s') (x:Int):R acc (Mk.readCharacter s x) (Mk.readCharacter s' x):=by
  obtain ⟨L,T,rfl,hev⟩:=h
  unfold Mk.readCharacter
  cases Mk.begin_ x with
  | none=>exact ⟨⟨L,T,rfl,hev⟩,rfl⟩
  | some p =>
    refine rel_ite ⟨?_,rfl⟩ ⟨⟨L,T,rfl,hev⟩,rfl⟩
    exact sm_goOn (sm_upd (fun z=>{ z with held:=[] }) (fun _ _ _=>rfl) (fun _=>rfl) (fun _=>rfl) (sm_putAll s.held ⟨L,T,rfl,hev⟩)) p
theorem sm_readPart {acc:List Ev} {s s' : St} (h:Sm acc s s') (x:Int):R acc (Mk.readPart s x) (Mk.readPart s' x):=by
  obtain ⟨L,T,rfl,hev⟩:=h
  unfold Mk.readPart
  dsimp only
  cases Mk.nextPart s.pc s.pl x with
  | none=>exact ⟨⟨L,T,rfl,hev⟩,rfl⟩
  | some p=>exact ⟨sm_goOn ⟨L,T,rfl,hev⟩ p,rfl⟩
theorem sm_readReference {acc:List Ev} {s s' : St} (h:Sm acc s s') (x:Int):R acc (Mk.readReference s x) (Mk.readReference s' x):=by
  obtain ⟨L,T,rfl,hev⟩:=h
  unfold Mk.readReference
  dsimp only
  cases Mk.refNext ⟨s.rp,s.rn,s.rc⟩ x with
  | none=>exact ⟨⟨L,T,rfl,hev⟩,rfl⟩
  | some r=>exact rel_ite ⟨⟨L,T,rfl,hev⟩,rfl⟩ ⟨sm_put (sm_setRef ⟨L,T,rfl,hev⟩ r) _,rfl⟩
theorem sm_endComment {acc:List Ev} {s s' : St} (h:Sm acc s s'):Sm acc (Mk.endComment s) (Mk.endComment s'):=by
  obtain ⟨L,T,rfl,hev⟩:=h
  refine sm_resume (sm_add ?_ _)
  exact ⟨L,T,rfl,hev⟩
theorem sm_endInstruction {acc:List Ev} {s s' : St} (h:Sm acc s s'):Sm acc (Mk.endInstruction s) (Mk.endInstruction s'):=by
  obtain ⟨L,T,rfl,hev⟩:=h
  exact sm_resume (sm_upd (fun z=>{ z with name:=[] }) (fun _ _ _=>rfl) (fun _=>rfl) (fun _=>rfl) (sm_add (s:=Mk.dropToken { s with held:=[] }) ⟨L,T,rfl,hev⟩ _))
theorem sm_bindAll {acc:List Ev}:∀ (l:List (Bs × Bs)) {s s' : St},Sm acc s s' → Sm acc (Mk.bindAll s l) (Mk.bindAll s' l)
  | [],_,_,h=>h
  | p :: r,_,_,h=>sm_bindAll r (sm_add h _)
theorem sm_unbindAll {acc:List Ev}:∀ (l:List (Bs × Bs)) {s s' : St},Sm acc s s' → Sm acc (Mk.unbindAll s l) (Mk.unbindAll s' l)
  | [],_,_,h=>h
  | p :: r,_,_,h=>sm_unbindAll r (sm_add h _)
theorem sm_tellUnbinds {acc:List Ev} {s s' : St} (h:Sm acc s s'):Sm acc (Mk.tellUnbinds s) (Mk.tellUnbinds s'):=by
  obtain ⟨L,T,rfl,hev⟩:=h
  exact sm_unbindAll (Mk.ofTag s).reverse ⟨L,T,rfl,hev⟩
theorem sm_leave {acc:List Ev} {s s' : St} (h:Sm acc s s'):Sm acc (Mk.leave s) (Mk.leave s'):=sm_upd Mk.leave (fun _ _ _=>rfl) (fun _=>rfl) (fun _=>rfl) h
theorem sm_tellStart {acc:List Ev} {s s' : St} (h:Sm acc s s'):Sm acc (Mk.tellStart s) (Mk.tellStart s'):=by
  obtain ⟨L,T,rfl,hev⟩:=h
  have h1:Sm acc (Mk.bindAll s (Mk.ofTag s)) (Mk.bindAll { s with list:=L,text:=T } (Mk.ofTag s)):=sm_bindAll (Mk.ofTag s) ⟨L,T,rfl,hev⟩
  exact sm_upd (fun z=>{ z with attrs:=[] }) (fun _ _ _=>rfl) (fun _=>rfl) (fun _=>rfl) (sm_add h1 ⟨1,s.name,Mk.spaceOf s s.name,[],s.attrs⟩)
theorem sm_tellEnd {acc:List Ev} {s s' : St} (h:Sm acc s s') (n:Bs):Sm acc (Mk.tellEnd s n) (Mk.tellEnd s' n):=by
  obtain ⟨L,T,rfl,hev⟩:=h
  exact sm_resume (sm_upd (fun z=>{ z with over:=decide (s.opn.length=0) }) (fun _ _ _=>rfl) (fun _=>rfl) (fun _=>rfl) (sm_leave (sm_tellUnbinds (sm_add ⟨L,T,rfl,hev⟩ ⟨2,n,Mk.spaceOf s n,[],[]⟩))))
theorem declare_set (s:St) (L:List Ev) (T:Bs):Mk.declare { s with list:=L,text:=T }=({ (Mk.declare s).1 with list:=L,text:=T },(Mk.declare s).2):=by
  unfold Mk.declare;dsimp only;split <;> rfl
theorem declare_told (s:St):(Mk.declare s).1.list=s.list∧(Mk.declare s).1.text=s.text:=by unfold Mk.declare;dsimp only;split <;> exact ⟨rfl,rfl⟩
theorem enter_set (s:St) (L:List Ev) (T:Bs):Mk.enter { s with list:=L,text:=T }=({ (Mk.enter s).1 with list:=L,text:=T },(Mk.enter s).2):=by
  unfold Mk.enter
  rw [declare_set]
  dsimp only
  repeat' split
  all_goals rfl
theorem enter_told (s:St):(Mk.enter s).1.list=s.list∧(Mk.enter s).1.text=s.text:=by
  unfold Mk.enter
  repeat' split
  all_goals first | exact ⟨rfl,rfl⟩ | exact declare_told s
theorem sm_endStart {acc:List Ev} {s s' : St} (h:Sm acc s s') (x:Int):Sm acc (Mk.endStart s x) (Mk.endStart s' x):=by
  obtain ⟨L,T,rfl,hev⟩:=h
  unfold Mk.endStart
  split
  · exact ⟨L,T,rfl,hev⟩
  · exact sm_resume (sm_upd (fun z=>{ z with opn:=s.opn ++ [s.name],name:=[] }) (fun _ _ _=>rfl) (fun _=>rfl) (fun _=>rfl) (sm_tellStart ⟨L,T,rfl,hev⟩))
theorem sm_endAttributes {acc:List Ev} {s s' : St} (h:Sm acc s s') (x:Int):R acc (Mk.endAttributes s x) (Mk.endAttributes s' x):=by
  obtain ⟨L,T,rfl,hev⟩:=h
  have h1:=enter_set s L T
  have h2:=enter_told s
  have h3:Sm acc (Mk.enter s).1 { (Mk.enter s).1 with list:=L,text:=T }:=⟨L,T,rfl,by rw [h2.1,h2.2];exact hev⟩
  unfold Mk.endAttributes
  rw [h1]
  dsimp only
  by_cases hon:s.on=true
  · rw [if_pos hon,if_pos hon]
    cases he:(Mk.enter s).2 with
    | none=>exact ⟨h3,rfl⟩
    | some l=>exact ⟨sm_endStart (sm_upd (fun z=>{ z with attrs:=l }) (fun _ _ _=>rfl) (fun _=>rfl) (fun _=>rfl) h3) x,rfl⟩
  · rw [if_neg hon,if_neg hon]
    exact ⟨sm_endStart ⟨L,T,rfl,hev⟩ x,rfl⟩
theorem sm_endInnermost {acc:List Ev} {s s' : St} (h:Sm acc s s'):Sm acc (Mk.endInnermost s) (Mk.endInnermost s'):=by
  obtain ⟨L,T,rfl,hev⟩:=h
  refine sm_tellEnd ?_ _
  exact ⟨L,T,rfl,hev⟩
theorem sm_lengthenName {acc:List Ev} {s s' : St} (h:Sm acc s s') (x:Int):R acc (Mk.lengthenName s x) (Mk.lengthenName s' x):=by
  obtain ⟨L,T,rfl,hev⟩:=h
  unfold Mk.lengthenName
  repeat' ((with_reducible show R _ (ite _ _ _) (ite _ _ _));refine rel_ite ?_ ?_)
  all_goals first | ((unfold R;with_reducible refine ⟨sm_put ?_ _,rfl⟩);exact ⟨L,T,rfl,hev⟩) | ((unfold R;with_reducible refine ⟨sm_endComment ?_,rfl⟩);exact ⟨L,T,rfl,hev⟩) | ((unfold R;with_reducible refine ⟨sm_endInstruction ?_,rfl⟩);exact ⟨L,T,rfl,hev⟩) | ((unfold R;with_reducible refine ⟨sm_endInnermost ?_,rfl⟩);exact ⟨L,T,rfl,hev⟩) | exact ⟨⟨L,T,rfl,hev⟩,rfl⟩
theorem sm_readDash {acc:List Ev} {s s' : St} (h:Sm acc s s') (x:Int):R acc (Mk.readDash s x) (Mk.readDash s' x):=by
  obtain ⟨L,T,rfl,hev⟩:=h
  unfold Mk.readDash
  repeat' ((with_reducible show R _ (ite _ _ _) (ite _ _ _));refine rel_ite ?_ ?_)
  all_goals first | ((unfold R;with_reducible refine ⟨sm_put ?_ _,rfl⟩);exact ⟨L,T,rfl,hev⟩) | ((unfold R;with_reducible refine ⟨sm_endComment ?_,rfl⟩);exact ⟨L,T,rfl,hev⟩) | ((unfold R;with_reducible refine ⟨sm_endInstruction ?_,rfl⟩);exact ⟨L,T,rfl,hev⟩) | ((unfold R;with_reducible refine ⟨sm_endInnermost ?_,rfl⟩);exact ⟨L,T,rfl,hev⟩) | exact ⟨⟨L,T,rfl,hev⟩,rfl⟩
theorem sm_readComment {acc:List Ev} {s s' : St} (h:Sm acc s s') (x:Int):R acc (Mk.readComment s x) (Mk.readComment s' x):=by
  obtain ⟨L,T,rfl,hev⟩:=h
  unfold Mk.readComment
  repeat' ((with_reducible show R _ (ite _ _ _) (ite _ _ _));refine rel_ite ?_ ?_)
  all_goals first | ((unfold R;with_reducible refine ⟨sm_put ?_ _,rfl⟩);exact ⟨L,T,rfl,hev⟩) | ((unfold R;with_reducible refine ⟨sm_endComment ?_,rfl⟩);exact ⟨L,T,rfl,hev⟩) | ((unfold R;with_reducible refine ⟨sm_endInstruction ?_,rfl⟩);exact ⟨L,T,rfl,hev⟩) | ((unfold R;with_reducible refine ⟨sm_endInnermost ?_,rfl⟩);exact ⟨L,T,rfl,hev⟩) | ((with_reducible refine sm_readCharacter ?_ _);exact ⟨L,T,rfl,hev⟩) | exact ⟨⟨L,T,rfl,hev⟩,rfl⟩
theorem sm_readInstructionName {acc:List Ev} {s s' : St} (h:Sm acc s s') (x:Int):R acc (Mk.readInstructionName s x) (Mk.readInstructionName s' x):=by
  obtain ⟨L,T,rfl,hev⟩:=h
  unfold Mk.readInstructionName
  repeat' ((with_reducible show R _ (ite _ _ _) (ite _ _ _));refine rel_ite ?_ ?_)
  all_goals first | ((unfold R;with_reducible refine ⟨sm_put ?_ _,rfl⟩);exact ⟨L,T,rfl,hev⟩) | ((unfold R;with_reducible refine ⟨sm_endComment ?_,rfl⟩);exact ⟨L,T,rfl,hev⟩) | ((unfold R;with_reducible refine ⟨sm_endInstruction ?_,rfl⟩);exact ⟨L,T,rfl,hev⟩) | ((unfold R;with_reducible refine ⟨sm_endInnermost ?_,rfl⟩);exact ⟨L,T,rfl,hev⟩) | ((with_reducible refine sm_lengthenName ?_ _);exact ⟨L,T,rfl,hev⟩) | exact ⟨⟨L,T,rfl,hev⟩,rfl⟩
theorem sm_readBareInstruction {acc:List Ev} {s s' : St} (h:Sm acc s s') (x:Int):R acc (Mk.readBareInstruction s x) (Mk.readBareInstruction s' x):=by
  obtain ⟨L,T,rfl,hev⟩:=h
  unfold Mk.readBareInstruction
  repeat' ((with_reducible show R _ (ite _ _ _) (ite _ _ _));refine rel_ite ?_ ?_)
  all_goals first | ((unfold R;with_reducible refine ⟨sm_put ?_ _,rfl⟩);exact ⟨L,T,rfl,hev⟩) | ((unfold R;with_reducible refine ⟨sm_endComment ?_,rfl⟩);exact ⟨L,T,rfl,hev⟩) | ((unfold R;with_reducible refine ⟨sm_endInstruction ?_,rfl⟩);exact ⟨L,T,rfl,hev⟩) | ((unfold R;with_reducible refine ⟨sm_endInnermost ?_,rfl⟩);exact ⟨L,T,rfl,hev⟩) | exact ⟨⟨L,T,rfl,hev⟩,rfl⟩
theorem sm_readInstruction {acc:List Ev} {s s' : St} (h:Sm acc s s') (x:Int):R acc (Mk.readInstruction s x) (Mk.readInstruction s' x):=by
  obtain ⟨L,T,rfl,hev⟩:=h
  unfold Mk.readInstruction
  repeat' ((with_reducible show R _ (ite _ _ _) (ite _ _ _));refine rel_ite ?_ ?_)
  all_goals first | ((unfold R;with_reducible refine ⟨sm_put ?_ _,rfl⟩);exact ⟨L,T,rfl,hev⟩) | ((unfold R;with_reducible refine ⟨sm_endComment ?_,rfl⟩);exact ⟨L,T,rfl,hev⟩) | ((unfold R;with_reducible refine ⟨sm_endInstruction ?_,rfl⟩);exact ⟨L,T,rfl,hev⟩) | ((unfold R;with_reducible refine ⟨sm_endInnermost ?_,rfl⟩);exact ⟨L,T,rfl,hev⟩) | ((with_reducible refine sm_readCharacter ?_ _);exact ⟨L,T,rfl,hev⟩) | exact ⟨⟨L,T,rfl,hev⟩,rfl⟩
theorem sm_readInstructionSpace {acc:List Ev} {s s' : St} (h:Sm acc s s') (x:Int):R acc (Mk.readInstructionSpace s x) (Mk.readInstructionSpace s' x):=by
  obtain ⟨L,T,rfl,hev⟩:=h
  unfold Mk.readInstructionSpace
  repeat' ((with_reducible show R _ (ite _ _ _) (ite _ _ _));refine rel_ite ?_ ?_)
  all_goals first | ((unfold R;with_reducible refine ⟨sm_put ?_ _,rfl⟩);exact ⟨L,T,rfl,hev⟩) | ((unfold R;with_reducible refine ⟨sm_endComment ?_,rfl⟩);exact ⟨L,T,rfl,hev⟩) | ((unfold R;with_reducible refine ⟨sm_endInstruction ?_,rfl⟩);exact ⟨L,T,rfl,hev⟩) | ((unfold R;with_reducible refine ⟨sm_endInnermost ?_,rfl⟩);exact ⟨L,T,rfl,hev⟩) | ((with_reducible refine sm_readInstruction ?_ _);exact ⟨L,T,rfl,hev⟩) | exact ⟨⟨L,T,rfl,hev⟩,rfl⟩
theorem sm_readOutside {acc:List Ev} {s s' : St} (h:Sm acc s s') (x:Int):R acc (Mk.readOutside s x) (Mk.readOutside s' x):=by
  obtain ⟨L,T,rfl,hev⟩:=h
  unfold Mk.readOutside
  repeat' ((with_reducible show R _ (ite _ _ _) (ite _ _ _));refine rel_ite ?_ ?_)
  all_goals first | ((unfold R;with_reducible refine ⟨sm_put ?_ _,rfl⟩);exact ⟨L,T,rfl,hev⟩) | ((unfold R;with_reducible refine ⟨sm_endComment ?_,rfl⟩);exact ⟨L,T,rfl,hev⟩) | ((unfold R;with_reducible refine ⟨sm_endInstruction ?_,rfl⟩);exact ⟨L,T,rfl,hev⟩) | ((unfold R;with_reducible refine ⟨sm_endInnermost ?_,rfl⟩);exact ⟨L,T,rfl,hev⟩) | exact ⟨⟨L,T,rfl,hev⟩,rfl⟩
theorem sm_readContent {acc:List Ev} {s s' : St} (h:Sm acc s s') (x:Int):R acc (Mk.readContent s x) (Mk.readContent s' x):=by
  obtain ⟨L,T,rfl,hev⟩:=h
  unfold Mk.readContent
  repeat' ((with_reducible show R _ (ite _ _ _) (ite _ _ _));refine rel_ite ?_ ?_)
  all_goals first | ((unfold R;with_reducible refine ⟨sm_put ?_ _,rfl⟩);exact ⟨L,T,rfl,hev⟩) | ((unfold R;with_reducible refine ⟨sm_endComment ?_,rfl⟩);exact ⟨L,T,rfl,hev⟩) | ((unfold R;with_reducible refine ⟨sm_endInstruction ?_,rfl⟩);exact ⟨L,T,rfl,hev⟩) | ((unfold R;with_reducible refine ⟨sm_endInnermost ?_,rfl⟩);exact ⟨L,T,rfl,hev⟩) | ((with_reducible refine sm_readCharacter ?_ _);exact ⟨L,T,rfl,hev⟩) | exact ⟨⟨L,T,rfl,hev⟩,rfl⟩
theorem sm_readSection {acc:List Ev} {s s' : St} (h:Sm acc s s') (x:Int):R acc (Mk.readSection s x) (Mk.readSection s' x):=by
  obtain ⟨L,T,rfl,hev⟩:=h
  unfold Mk.readSection
  repeat' ((with_reducible show R _ (ite _ _ _) (ite _ _ _));refine rel_ite ?_ ?_)
  all_goals first | ((unfold R;with_reducible refine ⟨sm_put ?_ _,rfl⟩);exact ⟨L,T,rfl,hev⟩) | ((unfold R;with_reducible refine ⟨sm_endComment ?_,rfl⟩);exact ⟨L,T,rfl,hev⟩) | ((unfold R;with_reducible refine ⟨sm_endInstruction ?_,rfl⟩);exact ⟨L,T,rfl,hev⟩) | ((unfold R;with_reducible refine ⟨sm_endInnermost ?_,rfl⟩);exact ⟨L,T,rfl,hev⟩) | ((with_reducible refine sm_readCharacter ?_ _);exact ⟨L,T,rfl,hev⟩) | exact ⟨⟨L,T,rfl,hev⟩,rfl⟩
theorem sm_beginStart {acc:List Ev} {s s' : St} (h:Sm acc s s') (x:Int):R acc (Mk.beginStart s x) (Mk.beginStart s' x):=by
  obtain ⟨L,T,rfl,hev⟩:=h
  unfold Mk.beginStart
  repeat' ((with_reducible show R _ (ite _ _ _) (ite _ _ _));refine rel_ite ?_ ?_)
  all_goals first | ((unfold R;with_reducible refine ⟨sm_put ?_ _,rfl⟩);exact ⟨L,T,rfl,hev⟩) | ((unfold R;with_reducible refine ⟨sm_endComment ?_,rfl⟩);exact ⟨L,T,rfl,hev⟩) | ((unfold R;with_reducible refine ⟨sm_endInstruction ?_,rfl⟩);exact ⟨L,T,rfl,hev⟩) | ((unfold R;with_reducible refine ⟨sm_endInnermost ?_,rfl⟩);exact ⟨L,T,rfl,hev⟩) | exact ⟨⟨L,T,rfl,hev⟩,rfl⟩
theorem sm_readLess {acc:List Ev} {s s' : St} (h:Sm acc s s') (x:Int):R acc (Mk.readLess s x) (Mk.readLess s' x):=by
  obtain ⟨L,T,rfl,hev⟩:=h
  unfold Mk.readLess
  repeat' ((with_reducible show R _ (ite _ _ _) (ite _ _ _));refine rel_ite ?_ ?_)
  all_goals first | ((unfold R;with_reducible refine ⟨sm_put ?_ _,rfl⟩);exact ⟨L,T,rfl,hev⟩) | ((unfold R;with_reducible refine ⟨sm_endComment ?_,rfl⟩);exact ⟨L,T,rfl,hev⟩) | ((unfold R;with_reducible refine ⟨sm_endInstruction ?_,rfl⟩);exact ⟨L,T,rfl,hev⟩) | ((unfold R;with_reducible refine ⟨sm_endInnermost ?_,rfl⟩);exact ⟨L,T,rfl,hev⟩) | ((with_reducible refine sm_beginStart ?_ _);exact ⟨L,T,rfl,hev⟩) | exact ⟨⟨L,T,rfl,hev⟩,rfl⟩
theorem sm_readBang {acc:List Ev} {s s' : St} (h:Sm acc s s') (x:Int):R acc (Mk.readBang s x) (Mk.readBang s' x):=by
  obtain ⟨L,T,rfl,hev⟩:=h
  unfold Mk.readBang
  repeat' ((with_reducible show R _ (ite _ _ _) (ite _ _ _));refine rel_ite ?_ ?_)
  all_goals first | ((unfold R;with_reducible refine ⟨sm_put ?_ _,rfl⟩);exact ⟨L,T,rfl,hev⟩) | ((unfold R;with_reducible refine ⟨sm_endComment ?_,rfl⟩);exact ⟨L,T,rfl,hev⟩) | ((unfold R;with_reducible refine ⟨sm_endInstruction ?_,rfl⟩);exact ⟨L,T,rfl,hev⟩) | ((unfold R;with_reducible refine ⟨sm_endInnermost ?_,rfl⟩);exact ⟨L,T,rfl,hev⟩) | exact ⟨⟨L,T,rfl,hev⟩,rfl⟩
theorem sm_readSectionMark {acc:List Ev} {s s' : St} (h:Sm acc s s') (x:Int):R acc (Mk.readSectionMark s x) (Mk.readSectionMark s' x):=by
  obtain ⟨L,T,rfl,hev⟩:=h
  unfold Mk.readSectionMark
  repeat' ((with_reducible show R _ (ite _ _ _) (ite _ _ _));refine rel_ite ?_ ?_)
  all_goals first | ((unfold R;with_reducible refine ⟨sm_put ?_ _,rfl⟩);exact ⟨L,T,rfl,hev⟩) | ((unfold R;with_reducible refine ⟨sm_endComment ?_,rfl⟩);exact ⟨L,T,rfl,hev⟩) | ((unfold R;with_reducible refine ⟨sm_endInstruction ?_,rfl⟩);exact ⟨L,T,rfl,hev⟩) | ((unfold R;with_reducible refine ⟨sm_endInnermost ?_,rfl⟩);exact ⟨L,T,rfl,hev⟩) | exact ⟨⟨L,T,rfl,hev⟩,rfl⟩
theorem sm_readStartGap {acc:List Ev} {s s' : St} (h:Sm acc s s') (x:Int):R acc (Mk.readStartGap s x) (Mk.readStartGap s' x):=by
  obtain ⟨L,T,rfl,hev⟩:=h
  unfold Mk.readStartGap
  refine rel_ite ?_ (rel_ite ?_ ?_)
  · exact ⟨⟨L,T,rfl,hev⟩,rfl⟩
  · exact sm_endAttributes ⟨L,T,rfl,hev⟩ x
  · exact ⟨⟨L,T,rfl,hev⟩,rfl⟩
theorem sm_readStartName {acc:List Ev} {s s' : St} (h:Sm acc s s') (x:Int):R acc (Mk.readStartName s x) (Mk.readStartName s' x):=by
  obtain ⟨L,T,rfl,hev⟩:=h
  unfold Mk.readStartName
  repeat' ((with_reducible show R _ (ite _ _ _) (ite _ _ _));refine rel_ite ?_ ?_)
  all_goals first | ((unfold R;with_reducible refine ⟨sm_put ?_ _,rfl⟩);exact ⟨L,T,rfl,hev⟩) | ((unfold R;with_reducible refine ⟨sm_endComment ?_,rfl⟩);exact ⟨L,T,rfl,hev⟩) | ((unfold R;with_reducible refine ⟨sm_endInstruction ?_,rfl⟩);exact ⟨L,T,rfl,hev⟩) | ((unfold R;with_reducible refine ⟨sm_endInnermost ?_,rfl⟩);exact ⟨L,T,rfl,hev⟩) | ((with_reducible refine sm_lengthenName ?_ _);exact ⟨L,T,rfl,hev⟩) | ((with_reducible refine sm_readStartGap ?_ _);exact ⟨L,T,rfl,hev⟩) | exact ⟨⟨L,T,rfl,hev⟩,rfl⟩
theorem sm_readStartSpace {acc:List Ev} {s s' : St} (h:Sm acc s s') (x:Int):R acc (Mk.readStartSpace s x) (Mk.readStartSpace s' x):=by
  obtain ⟨L,T,rfl,hev⟩:=h
  unfold Mk.readStartSpace
  repeat' ((with_reducible show R _ (ite _ _ _) (ite _ _ _));refine rel_ite ?_ ?_)
  all_goals first | ((unfold R;with_reducible refine ⟨sm_put ?_ _,rfl⟩);exact ⟨L,T,rfl,hev⟩) | ((unfold R;with_reducible refine ⟨sm_endComment ?_,rfl⟩);exact ⟨L,T,rfl,hev⟩) | ((unfold R;with_reducible refine ⟨sm_endInstruction ?_,rfl⟩);exact ⟨L,T,rfl,hev⟩) | ((unfold R;with_reducible refine ⟨sm_endInnermost ?_,rfl⟩);exact ⟨L,T,rfl,hev⟩) | ((with_reducible refine sm_readStartGap ?_ _);exact ⟨L,T,rfl,hev⟩) | exact ⟨⟨L,T,rfl,hev⟩,rfl⟩
theorem sm_readSlash {acc:List Ev} {s s' : St} (h:Sm acc s s') (x:Int):R acc (Mk.readSlash s x) (Mk.readSlash s' x):=by
  obtain ⟨L,T,rfl,hev⟩:=h
  have h1:Sm acc (Mk.tellEnd (Mk.tellStart s) s.name) (Mk.tellEnd (Mk.tellStart { s with list:=L,text:=T }) s.name):=sm_tellEnd (sm_tellStart ⟨L,T,rfl,hev⟩) s.name
  unfold Mk.readSlash
  refine rel_ite ?_ ?_
  · exact ⟨⟨L,T,rfl,hev⟩,rfl⟩
  · exact ⟨sm_upd (fun z=>{ z with name:=[] }) (fun _ _ _=>rfl) (fun _=>rfl) (fun _=>rfl) h1,rfl⟩
theorem sm_readAttrSpace {acc:List Ev} {s s' : St} (h:Sm acc s s') (x:Int):R acc (Mk.readAttrSpace s x) (Mk.readAttrSpace s' x):=by
  obtain ⟨L,T,rfl,hev⟩:=h
  unfold Mk.readAttrSpace
  repeat' ((with_reducible show R _ (ite _ _ _) (ite _ _ _));refine rel_ite ?_ ?_)
  all_goals first | ((unfold R;with_reducible refine ⟨sm_put ?_ _,rfl⟩);exact ⟨L,T,rfl,hev⟩) | ((unfold R;with_reducible refine ⟨sm_endComment ?_,rfl⟩);exact ⟨L,T,rfl,hev⟩) | ((unfold R;with_reducible refine ⟨sm_endInstruction ?_,rfl⟩);exact ⟨L,T,rfl,hev⟩) | ((unfold R;with_reducible refine ⟨sm_endInnermost ?_,rfl⟩);exact ⟨L,T,rfl,hev⟩) | exact ⟨⟨L,T,rfl,hev⟩,rfl⟩
theorem sm_lengthenAttrName {acc:List Ev} {s s' : St} (h:Sm acc s s') (x:Int):R acc (Mk.lengthenAttrName s x) (Mk.lengthenAttrName s' x):=by
  obtain ⟨L1,T1,h1,hev1⟩:=sm_put h x
  obtain ⟨L,T,rfl,hev⟩:=h
  unfold Mk.lengthenAttrName
  rw [h1]
  exact rel_ite (rel_ite ⟨⟨L1,T1,rfl,hev1⟩,rfl⟩ ⟨⟨L1,T1,rfl,hev1⟩,rfl⟩) ⟨⟨L,T,rfl,hev⟩,rfl⟩
theorem sm_readAttrName {acc:List Ev} {s s' : St} (h:Sm acc s s') (x:Int):R acc (Mk.readAttrName s x) (Mk.readAttrName s' x):=by
  obtain ⟨L,T,rfl,hev⟩:=h
  unfold Mk.readAttrName
  repeat' ((with_reducible show R _ (ite _ _ _) (ite _ _ _));refine rel_ite ?_ ?_)
  all_goals first | ((unfold R;with_reducible refine ⟨sm_put ?_ _,rfl⟩);exact ⟨L,T,rfl,hev⟩) | ((unfold R;with_reducible refine ⟨sm_endComment ?_,rfl⟩);exact ⟨L,T,rfl,hev⟩) | ((unfold R;with_reducible refine ⟨sm_endInstruction ?_,rfl⟩);exact ⟨L,T,rfl,hev⟩) | ((unfold R;with_reducible refine ⟨sm_endInnermost ?_,rfl⟩);exact ⟨L,T,rfl,hev⟩) | ((with_reducible refine sm_lengthenAttrName ?_ _);exact ⟨L,T,rfl,hev⟩) | ((with_reducible refine sm_readAttrSpace ?_ _);exact ⟨L,T,rfl,hev⟩) | exact ⟨⟨L,T,rfl,hev⟩,rfl⟩
theorem sm_readEquals {acc:List Ev} {s s' : St} (h:Sm acc s s') (x:Int):R acc (Mk.readEquals s x) (Mk.readEquals s' x):=by
  obtain ⟨L,T,rfl,hev⟩:=h
  unfold Mk.readEquals
  repeat' ((with_reducible show R _ (ite _ _ _) (ite _ _ _));refine rel_ite ?_ ?_)
  all_goals first | ((unfold R;with_reducible refine ⟨sm_put ?_ _,rfl⟩);exact ⟨L,T,rfl,hev⟩) | ((unfold R;with_reducible refine ⟨sm_endComment ?_,rfl⟩);exact ⟨L,T,rfl,hev⟩) | ((unfold R;with_reducible refine ⟨sm_endInstruction ?_,rfl⟩);exact ⟨L,T,rfl,hev⟩) | ((unfold R;with_reducible refine ⟨sm_endInnermost ?_,rfl⟩);exact ⟨L,T,rfl,hev⟩) | exact ⟨⟨L,T,rfl,hev⟩,rfl⟩
theorem sm_readValue {acc:List Ev} {s s' : St} (h:Sm acc s s') (x:Int):R acc (Mk.readValue s x) (Mk.readValue s' x):=by
  obtain ⟨L,T,rfl,hev⟩:=h
  unfold Mk.readValue
  repeat' ((with_reducible show R _ (ite _ _ _) (ite _ _ _));refine rel_ite ?_ ?_)
  all_goals first | ((unfold R;with_reducible refine ⟨sm_put ?_ _,rfl⟩);exact ⟨L,T,rfl,hev⟩) | ((unfold R;with_reducible refine ⟨sm_endComment ?_,rfl⟩);exact ⟨L,T,rfl,hev⟩) | ((unfold R;with_reducible refine ⟨sm_endInstruction ?_,rfl⟩);exact ⟨L,T,rfl,hev⟩) | ((unfold R;with_reducible refine ⟨sm_endInnermost ?_,rfl⟩);exact ⟨L,T,rfl,hev⟩) | ((with_reducible refine sm_readCharacter ?_ _);exact ⟨L,T,rfl,hev⟩) | exact ⟨⟨L,T,rfl,hev⟩,rfl⟩
theorem sm_readEndSpace {acc:List Ev} {s s' : St} (h:Sm acc s s') (x:Int):R acc (Mk.readEndSpace s x) (Mk.readEndSpace s' x):=by
  obtain ⟨L,T,rfl,hev⟩:=h
  unfold Mk.readEndSpace
  repeat' ((with_reducible show R _ (ite _ _ _) (ite _ _ _));refine rel_ite ?_ ?_)
  all_goals first | ((unfold R;with_reducible refine ⟨sm_put ?_ _,rfl⟩);exact ⟨L,T,rfl,hev⟩) | ((unfold R;with_reducible refine ⟨sm_endComment ?_,rfl⟩);exact ⟨L,T,rfl,hev⟩) | ((unfold R;with_reducible refine ⟨sm_endInstruction ?_,rfl⟩);exact ⟨L,T,rfl,hev⟩) | ((unfold R;with_reducible refine ⟨sm_endInnermost ?_,rfl⟩);exact ⟨L,T,rfl,hev⟩) | exact ⟨⟨L,T,rfl,hev⟩,rfl⟩
theorem sm_readEndName {acc:List Ev} {s s' : St} (h:Sm acc s s') (x:Int):R acc (Mk.readEndName s x) (Mk.readEndName s' x):=by
  obtain ⟨L,T,rfl,hev⟩:=h
  unfold Mk.readEndName
  repeat' ((with_reducible show R _ (ite _ _ _) (ite _ _ _));refine rel_ite ?_ ?_)
  all_goals first | ((unfold R;with_reducible refine ⟨sm_put ?_ _,rfl⟩);exact ⟨L,T,rfl,hev⟩) | ((unfold R;with_reducible refine ⟨sm_endComment ?_,rfl⟩);exact ⟨L,T,rfl,hev⟩) | ((unfold R;with_reducible refine ⟨sm_endInstruction ?_,rfl⟩);exact ⟨L,T,rfl,hev⟩) | ((unfold R;with_reducible refine ⟨sm_endInnermost ?_,rfl⟩);exact ⟨L,T,rfl,hev⟩) | ((with_reducible refine sm_readEndSpace ?_ _);exact ⟨L,T,rfl,hev⟩) | exact ⟨⟨L,T,rfl,hev⟩,rfl⟩
theorem sm_readStartTag {acc:List Ev} {s s' : St} (h:Sm acc s s') (x:Int):R acc (Mk.readStartTag s x) (Mk.readStartTag s' x):=by
  obtain ⟨L,T,rfl,hev⟩:=h
  have h' : Sm acc s { s with list:=L,text:=T }:=⟨L,T,rfl,hev⟩
  unfold Mk.readStartTag
  exact rel_ite (sm_readStartName h' x) (rel_ite (sm_readStartSpace h' x) (rel_ite (sm_readAttrName h' x) (rel_ite (sm_readAttrSpace h' x) (rel_ite (sm_readEquals h' x) (rel_ite (sm_readStartGap h' x) (sm_readSlash h' x))))))
theorem sm_readMark {acc:List Ev} {s s' : St} (h:Sm acc s s') (x:Int):R acc (Mk.readMark s x) (Mk.readMark s' x):=by
  obtain ⟨L,T,rfl,hev⟩:=h
  have h' : Sm acc s { s with list:=L,text:=T }:=⟨L,T,rfl,hev⟩
  unfold Mk.readMark
  exact rel_ite (sm_readLess h' x) (rel_ite (sm_readBang h' x) (rel_ite (sm_readDash h' x) (rel_ite (sm_readSectionMark h' x) (rel_ite (sm_readInstructionName h' x) (rel_ite (sm_readBareInstruction h' x) (rel_ite (sm_readInstructionSpace h' x) (rel_ite (sm_readEndName h' x) (rel_ite (sm_readEndSpace h' x) (sm_readStartTag h' x)))))))))
theorem sm_readByte {acc:List Ev} {s s' : St} (h:Sm acc s s') (x:Int):R acc (Mk.readByte s x) (Mk.readByte s' x):=by
  obtain ⟨L,T,rfl,hev⟩:=h
  have h' : Sm acc s { s with list:=L,text:=T }:=⟨L,T,rfl,hev⟩
  unfold Mk.readByte
  exact rel_ite (sm_readPart h' x) (rel_ite (sm_readReference h' x) (rel_ite (sm_readOutside h' x) (rel_ite (sm_readContent h' x) (rel_ite (sm_readSection h' x) (rel_ite (sm_readComment h' x) (rel_ite (sm_readInstruction h' x) (rel_ite (sm_readValue h' x) (sm_readMark h' x))))))))
theorem sm_movePlace {acc:List Ev} {s s' : St} (h:Sm acc s s') (x:Int):Sm acc (Mk.movePlace s x) (Mk.movePlace s' x):=by
  obtain ⟨L,T,rfl,hev⟩:=h
  cases h1:(x == 10)
  · cases h2:(s.pl == 0)
    · simp only [Mk.movePlace,h1,h2,Bool.false_eq_true,if_false];exact ⟨L,T,rfl,hev⟩
    · simp only [Mk.movePlace,h1,h2,Bool.false_eq_true,if_false,if_true];exact ⟨L,T,rfl,hev⟩
  · simp only [Mk.movePlace,h1,if_true];exact ⟨L,T,rfl,hev⟩
theorem sm_readOn {acc:List Ev} {s s' : St} (h:Sm acc s s') (x:Int):R acc (Mk.readOn s x) (Mk.readOn s' x):=by
  have h1:=sm_readByte h x
  unfold Mk.readOn
  rw [← h1.2]
  split
  · exact ⟨sm_movePlace h1.1 x,rfl⟩
  · exact h1
theorem sm_read {acc:List Ev} {s s' : St} (h:Sm acc s s') (x:Int):R acc (Mk.read s x) (Mk.read s' x):=by
  obtain ⟨L,T,rfl,hev⟩:=h
  unfold Mk.read
  repeat' ((with_reducible show R _ (ite _ _ _) (ite _ _ _));refine rel_ite ?_ ?_)
  all_goals first | ((with_reducible refine sm_readOn ?_ _);exact ⟨L,T,rfl,hev⟩) | exact ⟨⟨L,T,rfl,hev⟩,rfl⟩
theorem sm_feedByte {acc:List Ev} {s s' : St} (h:Sm acc s s') (x:UInt8):Sm acc (Mk.feedByte s x) (Mk.feedByte s' x):=by
  obtain ⟨L,T,rfl,hev⟩:=h
  unfold Mk.feedByte
  show Sm acc (if s.ended=0 then _ else _) (if s.ended=0 then _ else _)
  split
  · have h0:Sm acc { s with at_:=s.at_ + 1 } { s with at_:=s.at_ + 1,list:=L,text:=T }:=⟨L,T,rfl,hev⟩
    have h1:=sm_read h0 x.toNat
    obtain ⟨L1,T1,h2,hev1⟩:=h1.1
    refine ⟨L1,T1,?_,hev1⟩
    dsimp only at h2 h1 ⊢
    rw [h2,h1.2]
  · exact ⟨L,T,rfl,hev⟩
theorem sm_feedAll {acc:List Ev}:∀ (l:Bs) {s s' : St},Sm acc s s' → Sm acc (Mk.feedAll s l) (Mk.feedAll s' l)
  | [],_,_,h=>h
  | x :: r,_,_,h=>sm_feedAll r (sm_feedByte h x)
theorem sm_take {acc:List Ev} {s s' : St} (h:Sm acc s s'):Sm (join acc (out s'.list s'.text)) s (Mk.take s'):=by
  obtain ⟨L,T,rfl,hev⟩:=h
  refine ⟨[],[],?_,?_⟩
  · unfold Mk.take;rw [endText_set]
  · rw [hev];rfl
theorem sm_ended {acc:List Ev} {s s' : St} (h:Sm acc s s'):s'.ended=s.ended∧s'.at_=s.at_∧(Mk.close s').2=(Mk.close s).2:=by
  obtain ⟨L,T,rfl,hev⟩:=h
  refine ⟨rfl,rfl,?_⟩
  unfold Mk.close
  show (if s.ended=0 then (if Mk.isDocument s=true then _ else _) else _:St × Int).2=(if s.ended=0 then (if Mk.isDocument s=true then _ else _) else _:St × Int).2
  split
  · split <;> rfl
  · rfl
theorem feedAll_stuck:∀ (l:Bs) (s:St),s.ended ≠ 0→Mk.feedAll s l=s
  | [],s,_=>rfl
  | x :: r,s,h=>by
    have:Mk.feedByte s x=s:=by unfold Mk.feedByte;rw [if_neg h]
    show Mk.feedAll (Mk.feedByte s x) r=s
    rw [this]
    exact feedAll_stuck r s h
theorem sm_feed {acc:List Ev} {s s' : St} (h:Sm acc s s') (hl:s'.list=[]∧s'.text=[]) (l:Bs) :
    Sm (join acc (Mk.feed s' l).2.1) (Mk.feedAll s l) (Mk.feed s' l).1∧(Mk.feed s' l).2.2=(Mk.feedAll s l).ended∧(Mk.feed s' l).1.list=[]∧(Mk.feed s' l).1.text=[]:=by
  have he:=(sm_ended h).1
  unfold Mk.feed
  split
  · have h1:=sm_feedAll l h
    have h2:=sm_take h1
    have h3:=endText_out (Mk.feedAll s' l)
    refine ⟨?_,(sm_ended h1).1,rfl,h3.2⟩
    show Sm (join acc (Mk.endText (Mk.feedAll s' l)).list) _ _
    rw [h3.1]
    exact h2
  · rename_i hne
    have:Mk.feedAll s l=s:=feedAll_stuck l s (by rw [← he];exact hne)
    rw [this]
    exact ⟨h,he,hl.1,hl.2⟩
theorem runL_any (cuts:List Int):∀ (text:Bs) {acc:List Ev} {s s' : St} (err:Int),Sm acc s s' → s'.list=[]∧s'.text=[] →
    Sm (runL s' acc err text cuts).2.1 (Mk.feedAll s text) (runL s' acc err text cuts).1∧(runL s' acc err text cuts).2.2=(Mk.feedAll s text).ended∧(runL s' acc err text cuts).1.list=[]∧(runL s' acc err text cuts).1.text=[]:=by
  induction cuts with
  | nil =>
    intro text acc s s' err h hl
    exact sm_feed h hl text
  | cons c r ih =>
    intro text acc s s' err h hl
    have h1:=sm_feed h hl (text.take (pk c (text.length + 1)).toNat)
    have h2:=ih (text.drop (pk c (text.length + 1)).toNat) (Mk.feed s' (text.take (pk c (text.length + 1)).toNat)).2.2 h1.1 h1.2.2
    rw [← feedAll_append,List.take_append_drop] at h2
    exact h2
theorem sm_evs {acc:List Ev} {s s' : St} (h:Sm acc s s') (hl:s'.list=[]∧s'.text=[]):join [] (out s.list s.text)=acc:=by
  obtain ⟨L,T,rfl,hev⟩:=h
  obtain ⟨h1,h2⟩:=hl
  simp only at h1 h2
  subst h1;subst h2
  rw [hev];rfl
theorem runL_eq (d a t:Int) (n:Bool) (text:Bs) (cuts:List Int) :
    (runL (Mk.make_ d a t n) [] 0 text cuts).2.1=join [] (out (Mk.feedAll (Mk.make_ d a t n) text).list (Mk.feedAll (Mk.make_ d a t n) text).text)∧(runL (Mk.make_ d a t n) [] 0 text cuts).2.2=(Mk.feedAll (Mk.make_ d a t n) text).ended
    ∧ (runL (Mk.make_ d a t n) [] 0 text cuts).1.at_=(Mk.feedAll (Mk.make_ d a t n) text).at_∧(Mk.close (runL (Mk.make_ d a t n) [] 0 text cuts).1).2=(Mk.close (Mk.feedAll (Mk.make_ d a t n) text)).2:=by
  have h:=runL_any cuts text (acc:=[]) (s:=Mk.make_ d a t n) (s' := Mk.make_ d a t n) 0 ⟨[],[],rfl,rfl⟩ ⟨rfl,rfl⟩
  have h2:=sm_ended h.1
  exact ⟨(sm_evs h.1 h.2.2).symm,h.2.1,h2.2.1,h2.2.2⟩
theorem feedAll_told:∀ (l:Bs) (s:St),s.ended=0→((Mk.feedAll s l).ended=0∧(Mk.feedAll s l).at_=s.at_ + l.length)∨((Mk.feedAll s l).ended ≠ 0∧s.at_ + 1≤(Mk.feedAll s l).at_∧(Mk.feedAll s l).at_≤s.at_ + l.length)
  | [],s,h => .inl ⟨h,by show s.at_=_;simp⟩
  | x :: r,s,h=>by
    have h1:(Mk.feedByte s x).at_=s.at_ + 1:=by
      unfold Mk.feedByte
      rw [if_pos h]
      exact at_read _ _
    by_cases h2:(Mk.feedByte s x).ended=0
    · rcases feedAll_told r _ h2 with ⟨h3,h4⟩ | ⟨h3,h4,h5⟩
      · exact .inl ⟨h3,by show (Mk.feedAll (Mk.feedByte s x) r).at_=_;rw [h4,h1];simp;omega⟩
      · refine .inr ⟨h3,?_,?_⟩
        · show _≤(Mk.feedAll (Mk.feedByte s x) r).at_;omega
        · show (Mk.feedAll (Mk.feedByte s x) r).at_≤_;rw [h1] at h5;simp;omega
    · have h3:Mk.feedAll s (x :: r)=Mk.feedByte s x:=feedAll_stuck r _ h2
      rw [h3,h1]
      exact .inr ⟨h2,Int.le_refl _,by simp;omega⟩
end Go.Proofs.YtmgfijllcdadgabGreatDoor
