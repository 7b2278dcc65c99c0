/- Spc1, Spc2, Spc3, Spc4 -/
import Derived.Test.YtmgfijllcdadgabGreatDoorPCNest5
set_option linter.unusedVariables false
set_option linter.unusedSimpArgs false
namespace Go.Proofs.YtmgfijllcdadgabGreatDoor
open Mk (St Bs Ev Att)
def sn (b:List (Bs × Bs)) (c:List Nat) (l:List Ev) (s:St):St:={ s with on:=true,bnd:=b,cnt:=c,list:=l }
variable {d:List (Bs × Bs)} {a:List Nat} {t:List Ev}
theorem sn_put (s:St) (c:Int):Mk.put (sn d a t s) c=sn d a t (Mk.put s c):=by
  show (if Mk.inText s then _ else _)=sn d a t (if Mk.inText s then _ else _)
  split <;> rfl
theorem sn_putAll:∀ (l:Bs) (s:St),Mk.putAll (sn d a t s) l=sn d a t (Mk.putAll s l)
  | [],s=>rfl
  | x :: r,s=>by
    show Mk.putAll (Mk.put (sn d a t s) x.toNat) r=sn d a t (Mk.putAll (Mk.put s x.toNat) r)
    rw [sn_put,sn_putAll r]
theorem sn_goOn (s:St) (p:Int × Int):Mk.goOn (sn d a t s) p=sn d a t (Mk.goOn s p):=by
  unfold Mk.goOn
  split
  · exact sn_put { s with pc:=p.1,pl:=p.2 } p.1
  · rfl
theorem sn_readPart (s:St) (b:Int):Mk.readPart (sn d a t s) b=(sn d a t (Mk.readPart s b).1,(Mk.readPart s b).2):=by
  unfold Mk.readPart
  show (match Mk.nextPart s.pc s.pl b with | none=>_ | some p=>_)=_
  cases Mk.nextPart s.pc s.pl b with
  | none=>rfl
  | some p=>show (Mk.goOn (sn d a t s) p,(0:Int))=_;rw [sn_goOn]
theorem sn_readReference (s:St) (b:Int):Mk.readReference (sn d a t s) b=(sn d a t (Mk.readReference s b).1,(Mk.readReference s b).2):=by
  unfold Mk.readReference
  show (match Mk.refNext ⟨s.rp,s.rn,s.rc⟩ b with | none=>_ | some r=>_)=_
  cases Mk.refNext ⟨s.rp,s.rn,s.rc⟩ b with
  | none=>rfl
  | some r =>
    dsimp only
    split
    · rfl
    · show (Mk.put (sn d a t (Mk.setRef s r)) r.code,(0:Int))=_
      rw [sn_put]
theorem sn_readOutside (s:St) (b:Int):Mk.readOutside (sn d a t s) b=(sn d a t (Mk.readOutside s b).1,(Mk.readOutside s b).2):=by
  unfold Mk.readOutside
  split
  · rfl
  · split <;> rfl
theorem sn_readBang (s:St) (b:Int):Mk.readBang (sn d a t s) b=(sn d a t (Mk.readBang s b).1,(Mk.readBang s b).2):=by
  unfold Mk.readBang
  show (if _ then _ else if b=91∧0<s.opn.length then _ else _)=_
  split
  · rfl
  · split <;> rfl
theorem sn_readDash (s:St) (b:Int):Mk.readDash (sn d a t s) b=(sn d a t (Mk.readDash s b).1,(Mk.readDash s b).2):=by
  unfold Mk.readDash
  split <;> rfl
theorem sn_readSectionMark (s:St) (b:Int):Mk.readSectionMark (sn d a t s) b=(sn d a t (Mk.readSectionMark s b).1,(Mk.readSectionMark s b).2):=by
  unfold Mk.readSectionMark
  show (if 6≤s.matched∨Mk.sectionMark.getD s.matched.toNat 0 ≠ b then _ else if s.matched + 1=6 then _ else _)=_
  split
  · rfl
  · split <;> rfl
theorem sn_readAttrSpace (s:St) (b:Int):Mk.readAttrSpace (sn d a t s) b=(sn d a t (Mk.readAttrSpace s b).1,(Mk.readAttrSpace s b).2):=by
  unfold Mk.readAttrSpace
  split
  · rfl
  · split <;> rfl
theorem sn_readEquals (s:St) (b:Int):Mk.readEquals (sn d a t s) b=(sn d a t (Mk.readEquals s b).1,(Mk.readEquals s b).2):=by
  unfold Mk.readEquals
  split
  · rfl
  · split <;> rfl
theorem sn_readCharacter_in {s:St} (h:Mk.inText s=true) (b:Int):Mk.readCharacter (sn d a t s) b=(sn d a t (Mk.readCharacter s b).1,(Mk.readCharacter s b).2):=by
  unfold Mk.readCharacter
  have f1:Mk.fits s (s.held.length + 1)=true:=by unfold Mk.fits;rw [h];rfl
  have f2:Mk.fits (sn d a t s) ((sn d a t s).held.length + 1)=true:=by unfold Mk.fits;have:Mk.inText (sn d a t s)=true:=h;rw [this];rfl
  cases Mk.begin_ b with
  | none=>rfl
  | some p =>
    dsimp only
    rw [if_pos f1,if_pos f2]
    have e1:=sn_putAll (d:=d) (a:=a) (t:=t) s.held s
    have e2:=sn_goOn (d:=d) (a:=a) (t:=t) { Mk.putAll s s.held with held:=[] } p
    show (Mk.goOn { Mk.putAll (sn d a t s) s.held with held:=[] } p,(0:Int))=_
    rw [e1]
    show (Mk.goOn (sn d a t { Mk.putAll s s.held with held:=[] }) p,(0:Int))=_
    rw [e2]
theorem sn_readContent {s:St} (h:s.state=1) (b:Int):Mk.readContent (sn d a t s) b=(sn d a t (Mk.readContent s b).1,(Mk.readContent s b).2):=by
  have hin:∀ x:Int,Mk.inText { s with brackets:=x }=true:=fun x=>by show (s.state == 1 || s.state == 2)=true;rw [h];rfl
  unfold Mk.readContent
  split
  · rfl
  · split
    · rfl
    · split
      · show (if s.brackets == 2 then _ else _)=_
        split
        · rfl
        · exact sn_readCharacter_in (hin 0) b
      · split
        · show Mk.readCharacter (sn d a t { s with brackets:=if s.brackets == 0 then 1 else 2 }) b=_
          exact sn_readCharacter_in (hin _) b
        · exact sn_readCharacter_in (hin 0) b
theorem sn_readSection {s:St} (h:s.state=2) (b:Int):Mk.readSection (sn d a t s) b=(sn d a t (Mk.readSection s b).1,(Mk.readSection s b).2):=by
  have hin:Mk.inText s=true:=by show (s.state == 1 || s.state == 2)=true;rw [h];rfl
  unfold Mk.readSection
  show (if b=62∧s.held=[93,93] then _ else if b=93∧s.held=[93,93] then _ else _)=_
  split
  · rfl
  · split
    · rw [sn_put]
    · split
      · rfl
      · exact sn_readCharacter_in hin b
theorem sn_readCharacter (s:St) (b:Int):Mk.readCharacter (sn d a t s) b=(sn d a t (Mk.readCharacter s b).1,(Mk.readCharacter s b).2):=by
  unfold Mk.readCharacter
  cases Mk.begin_ b with
  | none=>rfl
  | some p =>
    dsimp only
    show (if Mk.fits s (s.held.length + 1) then (Mk.goOn { Mk.putAll (sn d a t s) s.held with held:=[] } p,(0:Int)) else (sn d a t s,7))=_
    split
    · rw [sn_putAll]
      show (Mk.goOn (sn d a t { Mk.putAll s s.held with held:=[] }) p,(0:Int))=_
      rw [sn_goOn]
    · rfl
theorem sn_lengthenName (s:St) (b:Int):Mk.lengthenName (sn d a t s) b=(sn d a t (Mk.lengthenName s b).1,(Mk.lengthenName s b).2):=by
  unfold Mk.lengthenName
  show (if Mk.fits s 1 then _ else _)=_
  split
  · rw [sn_put]
  · rfl
theorem sn_readLess (s:St) (b:Int):Mk.readLess (sn d a t s) b=(sn d a t (Mk.readLess s b).1,(Mk.readLess s b).2):=by
  unfold Mk.readLess Mk.beginStart
  show (if _ then _ else if _ then _ else if b=47∧0<s.opn.length then _ else if Mk.beginsName b && !s.over then (if s.od≤s.opn.length then _ else _) else _)=_
  split
  · rfl
  · split
    · rfl
    · split
      · rfl
      · split
        · split
          · rfl
          · show (Mk.put (sn d a t { s with state:=12 }) b,(0:Int))=_
            rw [sn_put]
        · rfl
theorem sn_readStartSpace_in {s:St} {b:Int} (hb:Mk.beginsName b=true):Mk.readStartSpace (sn d a t s) b=(sn d a t (Mk.readStartSpace s b).1,(Mk.readStartSpace s b).2):=by
  unfold Mk.readStartSpace
  have e1:∀ (x y:St × Int),(if (!Mk.beginsName b)=true then x else y)=y:=fun x y=>if_neg (by rw [hb];decide)
  rw [e1,e1]
  show (if s.oa≤s.attrs.length then _ else _)=_
  split
  · rfl
  · show (Mk.put (sn d a t { s with state:=14 }) b,(0:Int))=_
    rw [sn_put]
theorem sn_readAttrName (s:St) (b:Int):Mk.readAttrName (sn d a t s) b=(sn d a t (Mk.readAttrName s b).1,(Mk.readAttrName s b).2):=by
  unfold Mk.readAttrName Mk.lengthenAttrName
  rw [sn_put]
  show (if _ then (if Mk.fits s 1 then (if !Mk.fits (Mk.put s b) 1 && Mk.hasAttr (Mk.put s b) (Mk.put s b).token then _ else _) else _) else if _ then _ else if Mk.hasAttr s s.token then _ else _)=_
  split
  · split
    · split <;> rfl
    · rfl
  · split
    · rfl
    · split
      · rfl
      · exact sn_readAttrSpace { Mk.dropToken s with attr:=s.token } b
theorem sn_readValue (s:St) (b:Int):Mk.readValue (sn d a t s) b=(sn d a t (Mk.readValue s b).1,(Mk.readValue s b).2):=by
  unfold Mk.readValue
  show (if b == s.quote then _ else if b == 60 then _ else if b == 38 then (if Mk.fits s 1 then _ else _) else if _ then _ else _)=_
  split
  · rfl
  · split
    · rfl
    · split
      · split <;> rfl
      · split
        · exact sn_readCharacter s 32
        · exact sn_readCharacter s b
theorem sn_readComment {s:St} {b:Int} (hn:¬ (s.held=[45,45]∧b=62)):Mk.readComment (sn d a t s) b=(sn d a t (Mk.readComment s b).1,(Mk.readComment s b).2):=by
  unfold Mk.readComment
  rw [if_neg hn]
  show (if s.held=[45,45]∧b=62 then _ else if s.held=[45,45] then _ else if b=45 then _ else _)=_
  rw [if_neg hn]
  split
  · rfl
  · split
    · rfl
    · exact sn_readCharacter s b
theorem sn_readInstruction {s:St} {b:Int} (hn:¬ (b=62∧s.held=[63])):Mk.readInstruction (sn d a t s) b=(sn d a t (Mk.readInstruction s b).1,(Mk.readInstruction s b).2):=by
  unfold Mk.readInstruction
  rw [if_neg hn]
  show (if b=62∧s.held=[63] then _ else if b=63∧s.held=[63] then (if Mk.fits s 1 then _ else _) else if b=63 then _ else _)=_
  rw [if_neg hn]
  split
  · split
    · rw [sn_put]
    · rfl
  · split
    · rfl
    · exact sn_readCharacter s b
structure Sc where
  bnd:List (Bs × Bs)
  cnt:List Nat
def Sc.fst (c:Sc):Nat:=
  match c.cnt.getLast? with
  | none=>c.bnd.length
  | some n=>if c.bnd.length<n then c.bnd.length else c.bnd.length - n
def Sc.tag (c:Sc):List (Bs × Bs):=c.bnd.drop c.fst
def kBinds (l:List (Bs × Bs)):List Ev:=l.map fun p=>⟨6,p.1,[],p.2,[]⟩
def kUnbinds (l:List (Bs × Bs)):List Ev:=l.map fun p=>⟨7,p.1,[],[],[]⟩
def kStart (c:Sc) (n:Bs) (ats:List Att):Option (Sc × List Att):=
  if !Mk.areQualified n ats then none
  else if !(Mk.declareGo ats c.bnd 0).2.2 then none
  else if !Mk.isBound (Mk.declareGo ats c.bnd 0).1 (Mk.prefixOf n) then none
  else match Mk.resolveGo (Mk.declareGo ats c.bnd 0).1 ats [] with
    | none=>none
    | some l=>some (⟨(Mk.declareGo ats c.bnd 0).1,c.cnt ++ [(Mk.declareGo ats c.bnd 0).2.1]⟩,l)
def kTold (c:Sc) (n:Bs) (l:List Att):List Ev:=kBinds c.tag ++ [⟨1,n,Mk.valueOf c.bnd (Mk.prefixOf n),[],l⟩]
def kLeft (c:Sc):Sc:=⟨c.bnd.take c.fst,c.cnt.dropLast⟩
def kEnd (c:Sc) (n:Bs):List Ev:=⟨2,n,Mk.valueOf c.bnd (Mk.prefixOf n),[],[]⟩ :: kUnbinds c.tag.reverse
def kOne (c:Sc) (e:Ev):Option (Sc × List Ev):=
  if e.kind=1 then
    match kStart c e.name e.attrs with
    | none=>none
    | some (c', l)=>some (c', kTold c' e.name l)
  else if e.kind=2 then (if c.cnt=[] then none else some (kLeft c,kEnd c e.name))
  else if e.kind=5 then (if Mk.hasColon e.name then none else some (c,[e]))
  else some (c,[e])
def kRes (c:Sc) (acc:List Ev):List Ev→Sc × List Ev × Bool
  | []=>(c,acc,true)
  | e :: r=>match kOne c e with
    | none=>(c,acc,false)
    | some (c', m)=>kRes c' (acc ++ m) r
theorem kRes_app:∀ (l r:List Ev) (c:Sc) (acc:List Ev),kRes c acc (l ++ r)=if (kRes c acc l).2.2 then kRes (kRes c acc l).1 (kRes c acc l).2.1 r else kRes c acc l
  | [],r,c,acc=>rfl
  | e :: l,r,c,acc=>by
    have e1:kRes c acc (e :: l ++ r)=match kOne c e with | none=>(c,acc,false) | some (c', m)=>kRes c' (acc ++ m) (l ++ r):=rfl
    have e2:kRes c acc (e :: l)=match kOne c e with | none=>(c,acc,false) | some (c', m)=>kRes c' (acc ++ m) l:=rfl
    rw [e1,e2]
    cases kOne c e with
    | none=>rfl
    | some p=>exact kRes_app l r p.1 _
def Sc.zero:Sc:=⟨[(Mk.wXml,Mk.xmlSpace)],[]⟩
def KR (l:List Ev) (c:Sc) (m:List Ev):Prop:=kRes Sc.zero [] l=(c,m,true)
theorem KR.more {l m:List Ev} {c c' : Sc} {e:Ev} {x:List Ev} (h:KR l c m) (hk:kOne c e=some (c', x)):KR (l ++ [e]) c' (m ++ x):=by
  unfold KR at h ⊢
  rw [kRes_app,h]
  show (if true=true then kRes c m [e] else _)=_
  rw [if_pos rfl]
  show (match kOne c e with | none=>(c,m,false) | some (c', x)=>(c', m ++ x,true))=_
  rw [hk]
theorem KR.stop {l m r:List Ev} {c:Sc} {e:Ev} (h:KR l c m) (hk:kOne c e=none):kRes Sc.zero [] (l ++ e :: r)=(c,m,false):=by
  unfold KR at h
  rw [kRes_app,h]
  show (if true=true then kRes c m (e :: r) else _)=_
  rw [if_pos rfl]
  show (match kOne c e with | none=>(c,m,false) | some (c', x)=>kRes c' (m ++ x) r)=_
  rw [hk]
def wT (s:St):List Ev:=if s.text.length=0 then s.list else s.list ++ [⟨3,[],[],s.text,[]⟩]
theorem KR.text {s0 s1:St} {c:Sc} (h:KR s0.list c s1.list) (ht:s1.text=s0.text):KR (wT s0) c (wT s1):=by
  unfold wT
  rw [ht]
  split
  · exact h
  · exact h.more rfl
structure Nm (s0 s1:St) (c:Sc):Prop where
  eq:s1={ sn s1.bnd s1.cnt s1.list s0 with attrs:=s1.attrs }
  at_:s0.state ≠ 19→s1.attrs=s0.attrs∧s1.bnd=c.bnd∧s1.cnt=c.cnt
  re:KR s0.list c s1.list
  ln:c.cnt.length=s0.opn.length
  sl:s0.state=19→kStart c s0.name s0.attrs=some (⟨s1.bnd,s1.cnt⟩,s1.attrs)
theorem Nm.ai {s0 s1:St} {c:Sc} (h:Nm s0 s1 c) (hst:s0.state ≠ 19):s1=sn c.bnd c.cnt s1.list s0:=by
  have h1:=h.eq
  obtain ⟨e1,e2,e3⟩:=h.at_ hst
  rw [e1,e2,e3] at h1
  exact h1
theorem Nm.step {s0 s1:St} {c:Sc} (h:Nm s0 s1 c) (hst:s0.state ≠ 19) {z:St} (hz:z.state ≠ 19) (q:Qt s0 z):Nm z (sn c.bnd c.cnt s1.list z) c:=
  ⟨rfl,fun _=>⟨rfl,rfl,rfl⟩,by show KR z.list c s1.list;rw [q.li];exact h.re,by rw [q.op];exact h.ln,fun g=>absurd g hz⟩
theorem add_wT (s:St) (e:Ev):(Mk.add s e).list=wT s ++ [e]:=add_list s e
theorem st_put (s:St) (c:Int):(Mk.put s c).state=s.state∧(Mk.put s c).name=s.name:=by unfold Mk.put;split <;> exact ⟨rfl,rfl⟩
theorem st_putAll:∀ (l:Bs) (s:St),(Mk.putAll s l).state=s.state∧(Mk.putAll s l).name=s.name
  | [],s=>⟨rfl,rfl⟩
  | x :: r,s=>⟨(st_putAll r _).1.trans (st_put s _).1,(st_putAll r _).2.trans (st_put s _).2⟩
theorem st_goOn (s:St) (p:Int × Int):(Mk.goOn s p).state=s.state∧(Mk.goOn s p).name=s.name:=by
  unfold Mk.goOn
  split
  · exact st_put { s with pc:=p.1,pl:=p.2 } p.1
  · exact ⟨rfl,rfl⟩
theorem st_readCharacter (s:St) (b:Int):(Mk.readCharacter s b).1.state=s.state∧(Mk.readCharacter s b).1.name=s.name:=by
  unfold Mk.readCharacter
  split
  · exact ⟨rfl,rfl⟩
  · split
    · have h1:=st_goOn { Mk.putAll s s.held with held:=[] } (by assumption)
      have h2:=st_putAll s.held s
      exact ⟨h1.1.trans h2.1,h1.2.trans h2.2⟩
    · exact ⟨rfl,rfl⟩
theorem st_readPart (s:St) (b:Int):(Mk.readPart s b).1.state=s.state∧(Mk.readPart s b).1.name=s.name:=by
  unfold Mk.readPart
  split
  · exact ⟨rfl,rfl⟩
  · exact st_goOn s _
theorem st_readReference (s:St) (b:Int):(Mk.readReference s b).1.state=s.state∧(Mk.readReference s b).1.name=s.name:=by
  unfold Mk.readReference
  split
  · exact ⟨rfl,rfl⟩
  · split
    · exact ⟨rfl,rfl⟩
    · exact st_put (Mk.setRef s _) _
def Zk (s z:St):Prop:=z.state ≠ 19∧((9≤z.state∧z.state≤11)→(9≤s.state∧s.state≤11)∧z.name=s.name)
theorem Zk.stay {s z:St} (h:s.state ≠ 19) (e:z.state=s.state∧z.name=s.name):Zk s z:=⟨by rw [e.1];exact h,fun g=>⟨by rw [← e.1];exact g,e.2⟩⟩
theorem Zk.far {s z:St} (h:z.state ≠ 19∧¬ (9≤z.state∧z.state≤11)):Zk s z:=⟨h.1,fun g=>absurd g h.2⟩
theorem Zk.low {s z:St} (h:z.state≤8):Zk s z:=.far ⟨by omega,by omega⟩
theorem zk_readOutside {s:St} (h:s.state=0) (b:Int):Zk s (Mk.readOutside s b).1:=by
  unfold Mk.readOutside
  (repeat' split) <;> (apply Zk.low;dsimp only;omega)
theorem zk_readContent {s:St} (h:s.state=1) (b:Int):Zk s (Mk.readContent s b).1:=by
  unfold Mk.readContent Mk.setRef
  (repeat' split) <;> (apply Zk.low;simp only [st_readCharacter];omega)
theorem zk_readSection {s:St} (h:s.state=2) (b:Int):Zk s (Mk.readSection s b).1:=by
  unfold Mk.readSection
  (repeat' split) <;> (apply Zk.low;simp only [st_readCharacter,st_put];omega)
theorem zk_readLess {s:St} (h:s.state=3) (b:Int):(Mk.readLess s b).2=0→Zk s (Mk.readLess s b).1:=by
  intro he
  unfold Mk.readLess Mk.beginStart at he ⊢
  split at he
  · rename_i g;rw [if_pos g];exact .low (by show (4:Int)≤8;decide)
  · rename_i g;rw [if_neg g]
    split at he
    · rename_i g;rw [if_pos g];exact .low (by show (8:Int)≤8;decide)
    · rename_i g;rw [if_neg g]
      split at he
      · rename_i g;rw [if_pos g];exact .far (by show (20:Int) ≠ 19∧¬ ((9:Int)≤20∧(20:Int)≤11);decide)
      · rename_i g;rw [if_neg g]
        split at he
        · rename_i g;rw [if_pos g]
          split at he
          · simp at he
          · rename_i g;rw [if_neg g]
            refine .far ?_
            dsimp only
            rw [(st_put _ _).1]
            dsimp only
            omega
        · simp at he
theorem zk_readBang {s:St} (h:s.state=4) (b:Int):Zk s (Mk.readBang s b).1:=by
  unfold Mk.readBang
  (repeat' split) <;> (apply Zk.low;dsimp only;omega)
theorem zk_readDash {s:St} (h:s.state=5) (b:Int):Zk s (Mk.readDash s b).1:=by
  unfold Mk.readDash
  (repeat' split) <;> (apply Zk.low;dsimp only;omega)
theorem zk_readSectionMark {s:St} (h:s.state=6) (b:Int):Zk s (Mk.readSectionMark s b).1:=by
  unfold Mk.readSectionMark
  (repeat' split) <;> (apply Zk.low;dsimp only;omega)
theorem zk_readAttrSpace {s:St} (h:12≤s.state∧s.state≤18) (b:Int):Zk s (Mk.readAttrSpace s b).1:=by
  unfold Mk.readAttrSpace
  (repeat' split) <;> (apply Zk.far;dsimp only;omega)
theorem zk_readAttrName {s:St} (h:s.state=14) (b:Int):Zk s (Mk.readAttrName s b).1:=by
  unfold Mk.readAttrName Mk.lengthenAttrName
  split
  · (repeat' split) <;> (apply Zk.far;simp only [st_put];omega)
  · split
    · exact .far (by dsimp only;omega)
    · split
      · exact .far (by dsimp only;omega)
      · have:=zk_readAttrSpace (s:={ Mk.dropToken s with attr:=s.token }) (by show 12≤s.state∧s.state≤18;omega) b
        exact ⟨this.1,fun g=>by have:=this.2 g;have:9≤s.state∧s.state≤11:=this.1;omega⟩
theorem zk_readEquals {s:St} (h:s.state=16) (b:Int):Zk s (Mk.readEquals s b).1:=by
  unfold Mk.readEquals
  (repeat' split) <;> (apply Zk.far;dsimp only;omega)
theorem zk_readValue {s:St} (h:s.state=17) (b:Int):Zk s (Mk.readValue s b).1:=by
  unfold Mk.readValue Mk.endValue Mk.setRef
  (repeat' split) <;> (apply Zk.far;simp only [st_readCharacter];omega)
structure Nn (s0 s1:St) (c:Sc):Prop extends Nm s0 s1 c where
  ic:(9≤s0.state∧s0.state≤11)→Mk.hasColon s0.name=false
def Nt (r0 r1:St × Int) (bad:Prop):Prop:=(r0.2 ≠ 0→r1.2=r0.2)∧(r0.2=0→(r1.2=0∧∃ c,Nn r0.1 r1.1 c)∨(r1.2=8∧bad))
theorem Nn.same {s0 s1:St} {c:Sc} (h:Nn s0 s1 c) (hst:s0.state ≠ 19) {r0 r1:St × Int} {bad:Prop} (he:r1=(sn c.bnd c.cnt s1.list r0.1,r0.2)) (hz:r0.2=0→Zk s0 r0.1) (q:r0.2=0→Qt s0 r0.1):Nt r0 r1 bad:=by
  rw [he]
  refine ⟨fun _=>rfl,fun g => .inl ⟨g,c,h.toNm.step hst (hz g).1 (q g),fun k => ?_⟩⟩
  obtain ⟨k1,k2⟩:=(hz g).2 k
  rw [k2];exact h.ic k1
theorem sn_add (b:List (Bs × Bs)) (c:List Nat) (l:List Ev) (s:St) (e:Ev):Mk.add (sn b c l s) e=sn b c (wT (sn b c l s) ++ [e]) (Mk.add s e):=by
  unfold Mk.add Mk.endText wT
  by_cases h:s.text.length=0
  · have h' : (sn b c l s).text.length=0:=h
    simp only [if_pos h,if_pos h']
    rfl
  · have h' : ¬ (sn b c l s).text.length=0:=h
    simp only [if_neg h,if_neg h']
    rfl
theorem Nm.plain {s0 s1:St} {c:Sc} (h:Nm s0 s1 c) (hst:s0.state ≠ 19) {e:Ev} (hk:kOne c e=some (c,[e])) {f:St→St} (hf:∀ x:St,f x=Mk.resume { Mk.add (Mk.dropToken { x with held:=[] }) e with name:=(f x).name }) (hn:(f s1).name=(f s0).name) :
    Nm (f s0) (f s1) c:=by
  have h1:=h.ai hst
  have ht:s1.text=s0.text:=by rw [h1];rfl
  have e0:=hf s0
  have e1:=hf s1
  have ea:=sn_add c.bnd c.cnt s1.list (Mk.dropToken { s0 with held:=[] }) e
  have hl1:(f s1).list=wT s1 ++ [e]:=by
    rw [e1];exact add_wT (Mk.dropToken { s1 with held:=[] }) e
  have hl0:(f s0).list=wT s0 ++ [e]:=by
    rw [e0];exact add_wT (Mk.dropToken { s0 with held:=[] }) e
  have heq:f s1=sn c.bnd c.cnt (wT s1 ++ [e]) (f s0):=by
    rw [e1,hn]
    have:Mk.add (Mk.dropToken { s1 with held:=[] }) e=sn c.bnd c.cnt (wT s1 ++ [e]) (Mk.add (Mk.dropToken { s0 with held:=[] }) e):=by
      have h2:Mk.dropToken { s1 with held:=[] }=sn c.bnd c.cnt s1.list (Mk.dropToken { s0 with held:=[] }):=by
        conv=>lhs;rw [h1]
        rfl
      rw [h2,ea]
      have h3:wT (sn c.bnd c.cnt s1.list (Mk.dropToken { s0 with held:=[] }))=wT s1:=by
        unfold wT
        rw [ht]
        rfl
      rw [h3]
    rw [this]
    conv=>rhs;rw [e0]
    rfl
  have hst' : (f s0).state ≠ 19:=by
    rw [e0]
    show (if _ then (0:Int) else 1) ≠ 19
    split <;> decide
  have hop:(f s0).opn=s0.opn:=by
    rw [e0]
    show (Mk.add (Mk.dropToken { s0 with held:=[] }) e).opn=_
    rw [add_core]
    rfl
  refine ⟨?_,fun _ => ?_,?_,by rw [hop];exact h.ln,fun g=>absurd g hst'⟩
  · rw [heq];rfl
  · rw [heq];exact ⟨rfl,rfl,rfl⟩
  · rw [hl0,hl1];exact (h.re.text ht).more hk
theorem nt_readComment {s0 s1:St} {c:Sc} (h:Nn s0 s1 c) (hio:Io s0) (hst:s0.state=7) (b:Int) (bad:Prop):Nt (Mk.readComment s0 b) (Mk.readComment s1 b) bad:=by
  have h1:=h.ai (by omega)
  by_cases hn:s0.held=[45,45]∧b=62
  · have hn1:s1.held=[45,45]∧b=62:=by rw [h1];exact hn
    unfold Mk.readComment
    rw [if_pos hn,if_pos hn1]
    refine ⟨fun g=>absurd rfl g,fun _ => .inl ⟨rfl,c,?_⟩⟩
    have ht:s1.token=s0.token:=by rw [h1];rfl
    have:=h.toNm.plain (by omega) (e:=⟨4,[],[],s0.token,[]⟩) rfl (f:=fun x=>if x.token=s0.token then Mk.endComment x else Mk.resume { Mk.add (Mk.dropToken { x with held:=[] }) ⟨4,[],[],s0.token,[]⟩ with name:=x.name }) (fun x => ?_) ?_
    · dsimp only at this
      rw [if_pos rfl,if_pos ht] at this
      refine ⟨this,fun g => ?_⟩
      exfalso
      have g1:9≤(if (Mk.add (Mk.dropToken { s0 with held:=[] }) ⟨4,[],[],s0.token,[]⟩).opn.length=0 then (0:Int) else 1):=g.1
      split at g1 <;> omega
    · dsimp only
      split
      · rename_i g
        have:(Mk.endComment x).name=x.name:=by unfold Mk.endComment Mk.resume;rw [add_core];rfl
        rw [this]
        unfold Mk.endComment
        rw [g,add_core]
        rfl
      · rw [add_core];rfl
    · dsimp only
      rw [if_pos rfl,if_pos ht]
      show (Mk.add (Mk.dropToken { s1 with held:=[] }) ⟨4,[],[],s1.token,[]⟩).name=(Mk.add (Mk.dropToken { s0 with held:=[] }) ⟨4,[],[],s0.token,[]⟩).name
      rw [add_core,add_core (Mk.dropToken { s0 with held:=[] })]
      show s1.name=s0.name
      rw [h1];rfl
  · have e:=sn_readComment (d:=c.bnd) (a:=c.cnt) (t:=s1.list) hn
    rw [← h1] at e
    refine h.same (by omega) e (fun g => ?_) (fun g => ?_)
    · unfold Mk.readComment at g ⊢
      rw [if_neg hn] at g ⊢
      split
      · rename_i k;rw [if_pos k] at g;simp at g
      · split
        · exact .low (by show s0.state≤8;omega)
        · exact .stay (by omega) (st_readCharacter s0 b)
    · have ht:=tells_readComment hio hst b g
      generalize hz:(Mk.readComment s0 b).1=z at ht
      cases ht with
      | quiet q=>exact q
      | comm k =>
        exfalso
        unfold Mk.readComment at hz g
        rw [if_neg hn] at hz g
        split at hz
        · rename_i k;rw [if_pos k] at g;simp at g
        · have hs:(Mk.endComment s0).state ≠ 7:=by
            show (if _ then (0:Int) else 1) ≠ 7
            split <;> decide
          split at hz
          · apply hs;rw [← hz];exact hst
          · apply hs;rw [← hz,(st_readCharacter s0 b).1];exact hst
      | instr k=>omega
      | start k=>rcases k with ⟨k,_⟩ | ⟨k,_⟩ <;> omega
      | slash k=>omega
      | ends k=>omega
theorem nn_endInstruction {s0 s1:St} {c:Sc} (h:Nn s0 s1 c) (hst:s0.state=9∨s0.state=11):Nn (Mk.endInstruction s0) (Mk.endInstruction s1) c:=by
  have h1:=h.ai (by omega)
  have ht:s1.token=s0.token∧s1.name=s0.name:=by rw [h1];exact ⟨rfl,rfl⟩
  have hk:kOne c ⟨5,s0.name,[],s0.token,[]⟩=some (c,[⟨5,s0.name,[],s0.token,[]⟩]):=by
    unfold kOne
    rw [if_neg (show ¬ (5:Int)=1 by decide),if_neg (show ¬ (5:Int)=2 by decide),if_pos rfl,h.ic (by omega)]
    rfl
  have:=h.toNm.plain (by omega) hk (f:=fun x=>if x.token=s0.token∧x.name=s0.name then Mk.endInstruction x else Mk.resume { Mk.add (Mk.dropToken { x with held:=[] }) ⟨5,s0.name,[],s0.token,[]⟩ with name:=[] }) (fun x => ?_) ?_
  · dsimp only at this
    rw [if_pos ⟨rfl,rfl⟩,if_pos ht] at this
    refine ⟨this,fun g => ?_⟩
    exfalso
    have g1:9≤(if (Mk.add (Mk.dropToken { s0 with held:=[] }) ⟨5,s0.name,[],s0.token,[]⟩).opn.length=0 then (0:Int) else 1):=g.1
    split at g1 <;> omega
  · dsimp only
    split
    · rename_i g
      have e:(Mk.endInstruction x).name=[]:=rfl
      rw [e]
      unfold Mk.endInstruction
      rw [g.1,g.2]
    · rfl
  · dsimp only
    rw [if_pos ht,if_pos (show s0.token=s0.token∧s0.name=s0.name from ⟨rfl,rfl⟩)]
    rfl
theorem st_readInstruction {s:St} (h:s.state=11) {b:Int} (hn:¬ (b=62∧s.held=[63])):(Mk.readInstruction s b).1.state=11∧(Mk.readInstruction s b).1.name=s.name:=by
  unfold Mk.readInstruction
  rw [if_neg hn]
  split
  · split
    · exact ⟨(st_put s 63).1.trans h,(st_put s 63).2⟩
    · exact ⟨h,rfl⟩
  · split
    · exact ⟨h,rfl⟩
    · exact ⟨(st_readCharacter s b).1.trans h,(st_readCharacter s b).2⟩
theorem nt_readInstruction {s0 s1:St} {c:Sc} (h:Nn s0 s1 c) (hst:s0.state=11) (b:Int) (bad:Prop):Nt (Mk.readInstruction s0 b) (Mk.readInstruction s1 b) bad:=by
  have h1:=h.ai (by omega)
  have hio:Io s0:=fun g=>by omega
  by_cases hn:b=62∧s0.held=[63]
  · have hn1:b=62∧s1.held=[63]:=by rw [h1];exact hn
    unfold Mk.readInstruction
    rw [if_pos hn,if_pos hn1]
    exact ⟨fun g=>absurd rfl g,fun _ => .inl ⟨rfl,c,nn_endInstruction h (.inr hst)⟩⟩
  · have e:=sn_readInstruction (d:=c.bnd) (a:=c.cnt) (t:=s1.list) hn
    rw [← h1] at e
    have hs:=st_readInstruction hst hn
    refine h.same (by omega) e (fun g => .stay (by omega) ⟨by rw [hs.1,hst],hs.2⟩) (fun g => ?_)
    have ht:=(tells_readInstruction hio hst b g).1
    generalize hz:(Mk.readInstruction s0 b).1=z at ht hs
    cases ht with
    | quiet q=>exact q
    | comm k=>omega
    | instr k =>
      exfalso
      have:(Mk.endInstruction s0).state ≠ 11:=by
        show (if _ then (0:Int) else 1) ≠ 11
        split <;> decide
      exact this hs.1
    | start k=>rcases k with ⟨k,_⟩ | ⟨k,_⟩ <;> omega
    | slash k=>omega
    | ends k=>omega
theorem nt_readBareInstruction {s0 s1:St} {c:Sc} (h:Nn s0 s1 c) (hst:s0.state=9) (b:Int) (bad:Prop):Nt (Mk.readBareInstruction s0 b) (Mk.readBareInstruction s1 b) bad:=by
  unfold Mk.readBareInstruction
  split
  · exact ⟨fun g=>absurd rfl g,fun _ => .inl ⟨rfl,c,nn_endInstruction h (.inl hst)⟩⟩
  · exact ⟨fun _=>rfl,fun g=>by simp at g⟩
theorem nt_readInstructionSpace {s0 s1:St} {c:Sc} (h:Nn s0 s1 c) (hst:s0.state=10) (b:Int) (bad:Prop):Nt (Mk.readInstructionSpace s0 b) (Mk.readInstructionSpace s1 b) bad:=by
  have h1:=h.ai (by omega)
  unfold Mk.readInstructionSpace
  split
  · exact ⟨fun g=>absurd rfl g,fun _ => .inl ⟨rfl,c,h⟩⟩
  · have h2:Nn { s0 with state:=11 } (sn c.bnd c.cnt s1.list { s0 with state:=11 }) c:=⟨h.toNm.step (by omega) (z:={ s0 with state:=11 }) (by show (11:Int) ≠ 19;decide) (.of rfl rfl rfl rfl rfl rfl rfl),fun _=>h.ic (by omega)⟩
    have e:{ s1 with state:=11 }=sn c.bnd c.cnt s1.list { s0 with state:=11 }:=by
      conv=>lhs;rw [h1]
      rfl
    rw [e]
    exact nt_readInstruction h2 rfl b bad
theorem nt_readInstructionName {s0 s1:St} {c:Sc} (h:Nn s0 s1 c) (hon:s0.on=false) (hst:s0.state=8) (b:Int):Nt (Mk.readInstructionName s0 b) (Mk.readInstructionName s1 b) (s0.state=8∧Mk.hasColon s0.token=true∧(b=63∨Mk.isSpace b=true)∧(Mk.readInstructionName s0 b).1={ Mk.dropToken s0 with name:=s0.token,state:=if b == 63 then 9 else 10 }):=by
  have h1:=h.ai (by omega)
  have hio:Io s0:=fun g=>by omega
  have q:=qt_readInstructionName hio b
  have key:∀ (x:St × Int) (bad:Prop),Nt (Mk.readInstructionName s0 b) x bad→x=Mk.readInstructionName s1 b→Nt (Mk.readInstructionName s0 b) (Mk.readInstructionName s1 b) bad:=fun x bad hx e=>e ▸ hx
  by_cases g1:(s0.count == 0 && !Mk.beginsName b)=true
  · have e0:Mk.readInstructionName s0 b=(s0,3):=by unfold Mk.readInstructionName;rw [if_pos g1]
    have e1:Mk.readInstructionName s1 b=(s1,3):=by unfold Mk.readInstructionName;rw [if_pos (by rw [h1];exact g1)]
    rw [e0,e1]
    exact ⟨fun _=>rfl,fun g=>by simp at g⟩
  · have g1' : ¬ (s1.count == 0 && !Mk.beginsName b)=true:=by rw [h1];exact g1
    by_cases g2:Mk.inName b=true
    · have e0:Mk.readInstructionName s0 b=Mk.lengthenName s0 b:=by unfold Mk.readInstructionName;rw [if_neg g1,if_pos g2]
      have e1:Mk.readInstructionName s1 b=Mk.lengthenName s1 b:=by unfold Mk.readInstructionName;rw [if_neg g1', if_pos g2]
      rw [e0] at q
      rw [e0,e1]
      have e:=sn_lengthenName (d:=c.bnd) (a:=c.cnt) (t:=s1.list) s0 b
      rw [← h1] at e
      refine h.same (by omega) e (fun g => ?_) (fun _=>q)
      unfold Mk.lengthenName
      split
      · exact .stay (by omega) (st_put s0 b)
      · exact .stay (by omega) ⟨rfl,rfl⟩
    · by_cases g3:(Mk.isXML s0.token || b != 63 && !Mk.isSpace b)=true
      · have e0:Mk.readInstructionName s0 b=(s0,3):=by unfold Mk.readInstructionName;rw [if_neg g1,if_neg g2,if_pos g3]
        have e1:Mk.readInstructionName s1 b=(s1,3):=by unfold Mk.readInstructionName;rw [if_neg g1', if_neg g2,if_pos (by rw [h1];exact g3)]
        rw [e0,e1]
        exact ⟨fun _=>rfl,fun g=>by simp at g⟩
      · have g3' : ¬ (Mk.isXML s1.token || b != 63 && !Mk.isSpace b)=true:=by rw [h1];exact g3
        have e0:Mk.readInstructionName s0 b=({ Mk.dropToken s0 with name:=s0.token,state:=if b == 63 then 9 else 10 },0):=by unfold Mk.readInstructionName;rw [if_neg g1,if_neg g2,if_neg g3,hon];rfl
        have ho1:s1.on=true:=by rw [h1];rfl
        have ht:s1.token=s0.token:=by rw [h1];rfl
        have hb:b=63∨Mk.isSpace b=true:=by
          simp only [Bool.or_eq_true,Bool.and_eq_true,not_or,not_and] at g3
          by_cases k:b=63
          · exact .inl k
          · right
            have:=g3.2 (by simpa using k)
            simpa using this
        cases hc:Mk.hasColon s0.token
        · have e1:Mk.readInstructionName s1 b=({ Mk.dropToken s1 with name:=s1.token,state:=if b == 63 then 9 else 10 },0):=by
            unfold Mk.readInstructionName
            rw [if_neg g1', if_neg g2,if_neg g3', ho1,ht,hc];rfl
          rw [e0] at q
          rw [e0,e1]
          refine ⟨fun g=>absurd rfl g,fun _ => .inl ⟨rfl,c,?_⟩⟩
          have e2:{ Mk.dropToken s1 with name:=s1.token,state:=if b == 63 then 9 else 10 }=sn c.bnd c.cnt s1.list { Mk.dropToken s0 with name:=s0.token,state:=if b == 63 then 9 else 10 }:=by
            conv=>lhs;rw [h1]
            rfl
          dsimp only
          rw [e2]
          refine ⟨h.toNm.step (by omega) (z:={ Mk.dropToken s0 with name:=s0.token,state:=if b == 63 then 9 else 10 }) ?_ q,fun _=>hc⟩
          show (if b == 63 then (9:Int) else 10) ≠ 19
          split <;> decide
        · have e1:Mk.readInstructionName s1 b=(s1,8):=by
            unfold Mk.readInstructionName
            rw [if_neg g1', if_neg g2,if_neg g3', ho1,ht,hc];rfl
          rw [e0,e1]
          exact ⟨fun g=>absurd rfl g,fun _ => .inr ⟨rfl,hst,rfl,hb,rfl⟩⟩
theorem enter_k (x:St):(kStart ⟨x.bnd,x.cnt⟩ x.name x.attrs=none∧(Mk.enter x).2=none)∨∃ c' l,kStart ⟨x.bnd,x.cnt⟩ x.name x.attrs=some (c', l)∧Mk.enter x=({ x with bnd:=c'.bnd,cnt:=c'.cnt },some l)∧c'.cnt.length=x.cnt.length + 1:=by
  have hd:(Mk.declare x).2=(Mk.declareGo x.attrs x.bnd 0).2.2:=by unfold Mk.declare;dsimp only;split <;> rename_i g <;> simp [g]
  unfold kStart Mk.enter
  dsimp only
  split
  · rename_i g;exact .inl ⟨rfl,rfl⟩
  · rw [hd]
    split
    · exact .inl ⟨rfl,rfl⟩
    · rename_i g
      have g:(Mk.declareGo x.attrs x.bnd 0).2.2=true:=by simpa using g
      have e:(Mk.declare x).1={ x with bnd:=(Mk.declareGo x.attrs x.bnd 0).1,cnt:=x.cnt ++ [(Mk.declareGo x.attrs x.bnd 0).2.1] }:=by unfold Mk.declare;dsimp only;rw [if_pos g]
      rw [e]
      dsimp only
      split
      · exact .inl ⟨rfl,rfl⟩
      · cases hr:Mk.resolveGo (Mk.declareGo x.attrs x.bnd 0).1 x.attrs [] with
        | none=>exact .inl ⟨rfl,rfl⟩
        | some l=>exact .inr ⟨_,_,rfl,rfl,by simp⟩
theorem bindAll_add:∀ (l:List (Bs × Bs)) (s:St) (e:Ev),(Mk.add (Mk.bindAll s l) e).list=wT s ++ kBinds l ++ [e]
  | [],s,e=>by rw [show Mk.bindAll s []=s from rfl,add_wT];simp [kBinds]
  | p :: r,s,e=>by
    show (Mk.add (Mk.bindAll (Mk.add s ⟨6,p.1,[],p.2,[]⟩) r) e).list=_
    rw [bindAll_add r]
    have:wT (Mk.add s ⟨6,p.1,[],p.2,[]⟩)=wT s ++ [⟨6,p.1,[],p.2,[]⟩]:=by
      unfold wT
      rw [if_pos (by rw [add_text];rfl),add_wT]
      rfl
    rw [this]
    simp [kBinds]
theorem unbindAll_list:∀ (l:List (Bs × Bs)) (s:St),s.text=[]→(Mk.unbindAll s l).list=s.list ++ kUnbinds l∧(Mk.unbindAll s l).text=[]
  | [],s,h=>⟨by simp [kUnbinds,Mk.unbindAll],h⟩
  | p :: r,s,h=>by
    have h1:=unbindAll_list r (Mk.add s ⟨7,p.1,[],[],[]⟩) (add_text _ _)
    have h2:(Mk.add s ⟨7,p.1,[],[],[]⟩).list=s.list ++ [⟨7,p.1,[],[],[]⟩]:=by
      rw [add_wT]
      unfold wT
      rw [if_pos (by rw [h];rfl)]
    refine ⟨?_,h1.2⟩
    show (Mk.unbindAll (Mk.add s ⟨7,p.1,[],[],[]⟩) r).list=_
    rw [h1.1,h2]
    simp [kUnbinds]
theorem tellStart_list {s:St} (h:s.on=true):(Mk.tellStart s).list=wT s ++ kTold ⟨s.bnd,s.cnt⟩ s.name s.attrs∧(Mk.tellStart s).text=[]:=by
  have e:(Mk.tellStart s).list=(Mk.add (Mk.bindAll s (Mk.ofTag s)) ⟨1,s.name,Mk.spaceOf s s.name,[],s.attrs⟩).list:=rfl
  refine ⟨?_,add_text (Mk.bindAll s (Mk.ofTag s)) ⟨1,s.name,Mk.spaceOf s s.name,[],s.attrs⟩⟩
  rw [e,bindAll_add]
  unfold Mk.spaceOf kTold
  rw [h,if_pos rfl]
  rw [List.append_assoc]
  rfl
theorem tellStart_list0 {s:St} (h:s.cnt=[]) (ho:s.on=false):(Mk.tellStart s).list=wT s ++ [⟨1,s.name,[],[],s.attrs⟩]∧(Mk.tellStart s).text=[]:=by
  rw [tellStart_off h ho]
  exact ⟨add_wT s ⟨1,s.name,[],[],s.attrs⟩,add_text s ⟨1,s.name,[],[],s.attrs⟩⟩
theorem tellEnd_list1 {s:St} (h:s.on=true) (n:Bs):(Mk.tellEnd s n).list=wT s ++ kEnd ⟨s.bnd,s.cnt⟩ n∧(Mk.tellEnd s n).text=[]∧(Mk.tellEnd s n).bnd=(kLeft ⟨s.bnd,s.cnt⟩).bnd∧(Mk.tellEnd s n).cnt=(kLeft ⟨s.bnd,s.cnt⟩).cnt:=by
  have e0:=add_core s ⟨2,n,Mk.spaceOf s n,[],[]⟩
  have et:Mk.ofTag (Mk.add s ⟨2,n,Mk.spaceOf s n,[],[]⟩)=Sc.tag ⟨s.bnd,s.cnt⟩:=by rw [e0];rfl
  have h1:=unbindAll_list (Mk.ofTag (Mk.add s ⟨2,n,Mk.spaceOf s n,[],[]⟩)).reverse (Mk.add s ⟨2,n,Mk.spaceOf s n,[],[]⟩) (add_text _ _)
  have h2:=unbindAll_core (Mk.ofTag (Mk.add s ⟨2,n,Mk.spaceOf s n,[],[]⟩)).reverse (Mk.add s ⟨2,n,Mk.spaceOf s n,[],[]⟩)
  have hsp:Mk.spaceOf s n=Mk.valueOf s.bnd (Mk.prefixOf n):=by unfold Mk.spaceOf;rw [h,if_pos rfl]
  have e1:(Mk.tellEnd s n).list=(Mk.unbindAll (Mk.add s ⟨2,n,Mk.spaceOf s n,[],[]⟩) (Mk.ofTag (Mk.add s ⟨2,n,Mk.spaceOf s n,[],[]⟩)).reverse).list:=rfl
  have e2:(Mk.tellEnd s n).text=(Mk.unbindAll (Mk.add s ⟨2,n,Mk.spaceOf s n,[],[]⟩) (Mk.ofTag (Mk.add s ⟨2,n,Mk.spaceOf s n,[],[]⟩)).reverse).text:=rfl
  refine ⟨?_,by rw [e2];exact h1.2,?_,?_⟩
  · rw [e1,h1.1,et,add_wT,hsp]
    simp [kEnd]
  · unfold Mk.tellEnd Mk.tellUnbinds Mk.leave Mk.first
    rw [h2,e0]
    rfl
  · unfold Mk.tellEnd Mk.tellUnbinds Mk.leave Mk.first
    rw [h2,e0]
    rfl
end Go.Proofs.YtmgfijllcdadgabGreatDoor
