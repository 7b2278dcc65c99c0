/- Wr5, Blt1, Blt2, Blt3 -/
import Derived.Test.YtmgfijllcdadgabGreatDoorPCWr2
set_option linter.unusedVariables false
set_option linter.unusedSimpArgs false
namespace Go.Proofs.YtmgfijllcdadgabGreatDoor
open Mk (St Bs Ev Att)
theorem lift_names {d a t:Int} (d1:1≤d) (t1:8≤t) (a1:0≤a) (a2:a≤32) (D:Bs) {E0 E:List Ev} {c:Sc} (h0:(Mk.feedAll (Mk.make_ d a t false) D).ended=0) (hs:(Mk.feedAll (Mk.make_ d a t false) D).state=0) (hw:wT (Mk.feedAll (Mk.make_ d a t false) D)=E0) (hk:kRes Sc.zero [] E0=(c,E,true)) :
    (Mk.feedAll (Mk.make_ d a t true) D).ended=0∧wT (Mk.feedAll (Mk.make_ d a t true) D)=E∧(Mk.close (Mk.feedAll (Mk.make_ d a t true) D)).2=(Mk.close (Mk.feedAll (Mk.make_ d a t false) D)).2:=by
  by_cases h8:(Mk.feedAll (Mk.make_ d a t true) D).ended=8
  · exfalso
    obtain ⟨p,x,q,c', hD,_,_,_,_,hb⟩:=spaces_bad d a t d1 t1 a1 a2 D h8
    have e:p ++ [x] ++ q=D:=by rw [hD];simp
    have hb:=hb q (by rw [e];exact h0) (by rw [e];exact hs)
    rw [e] at hb
    obtain ⟨hW,hv,h1,H1⟩:=tl_feedAll D (w_make d a t false d1 t1 a2) (v_make d a t t1 a1) (tl_make d a t d1 t1 a1) rfl h0
    have htx:(Mk.feedAll (Mk.make_ d a t false) D).text=[]:=by
      cases hc:(Mk.feedAll (Mk.make_ d a t false) D).text with
      | nil=>rfl
      | cons y r=>exact absurd (hW.o0 hs) (H1.tx (by rw [hc];simp))
    unfold wT at hw
    rw [htx] at hw
    have hw:(Mk.feedAll (Mk.make_ d a t false) D).list=E0:=hw
    rw [hw,hk] at hb
    cases (Prod.mk.inj (Prod.mk.inj hb).2).2
  · obtain ⟨e1,_,e3,c', hkr,_,_⟩:=spaces_ok d a t d1 t1 a1 a2 D h8
    refine ⟨e1.trans h0,?_,e3⟩
    unfold KR at hkr
    rw [hw,hk] at hkr
    exact ((Prod.mk.inj (Prod.mk.inj hkr).2).1).symm
def normA (ats:List Att):List Att:=ats.filter (fun y=>Mk.isDecl y.name) ++ ats.filter (fun y => !Mk.isDecl y.name)
def normE (e:Ev):Ev:=if e.kind=1 then { e with attrs:=normA e.attrs } else e
theorem filter_perm {α:Type} (p:α→Bool):∀ l:List α,(l.filter p ++ l.filter (fun y => !p y)).Perm l
  | [] => .refl _
  | x :: r=>by
    have ih:=filter_perm p r
    cases h:p x
    · rw [List.filter_cons_of_neg (by simp [h]),List.filter_cons_of_pos (by simp [h])]
      exact List.perm_middle.trans (ih.cons x)
    · rw [List.filter_cons_of_pos h,List.filter_cons_of_neg (by simp [h])]
      exact ih.cons x
theorem normA_perm (ats:List Att):(normA ats).Perm ats:=filter_perm _ ats
theorem good_norm {d a t:Int} {o o1:List Bs} {ov ov1 pt:Bool} {e:Ev} (h:GoodE d a t o ov pt e o1 ov1):GoodE d a t o ov pt (normE e) o1 ov1:=by
  cases h with
  | start n ats h1 h2 h3 h4 h5 h6 =>
    have hp:=normA_perm ats
    exact .start n (normA ats) h1 h2 h3 (by rw [hp.length_eq];exact h4) (fun y hy=>h5 y (hp.mem_iff.1 hy)) ((hp.map _).nodup_iff.2 h6)
  | fin o' n h1 h2=>exact .fin o1 n h1 h2
  | txt val h1 h2 h3 h4=>exact .txt val h1 h2 h3 h4
  | comm val h1=>exact .comm val h1
  | pi n val h1 h2 h3=>exact .pi n val h1 h2 h3
theorem normE_kind (e:Ev):(normE e).kind=e.kind:=by unfold normE;split <;> rfl
theorem goodL_norm {d a t:Int} {o o1:List Bs} {ov ov1 pt:Bool} {l:List Ev} (h:GoodL d a t o ov pt l o1 ov1):GoodL d a t o ov pt (l.map normE) o1 ov1:=by
  induction h with
  | nil o ov pt=>exact .nil o ov pt
  | cons h r ih=>exact .cons (good_norm h) (by rw [normE_kind];exact ih)
theorem dg_cons (y:Att) (r:List Att) (b:List (Bs × Bs)) (c:Nat):Mk.declareGo (y :: r) b c=if !Mk.isDecl y.name then Mk.declareGo r b c else if !Mk.isGood (Mk.declared y.name) y.val then (b,c,false) else Mk.declareGo r (b ++ [(Mk.declared y.name,y.val)]) (c + 1):=rfl
theorem rg_cons (b:List (Bs × Bs)) (y:Att) (r acc:List Att):Mk.resolveGo b (y :: r) acc=if Mk.isDecl y.name then Mk.resolveGo b r acc else if !Mk.isBound b (Mk.prefixOf y.name) || Mk.hasLocal acc (Mk.withSpace b y) then none else Mk.resolveGo b r (acc ++ [Mk.withSpace b y]):=rfl
theorem dg_no {y:Att} (h:Mk.isDecl y.name=false) (r:List Att) (b:List (Bs × Bs)) (c:Nat):Mk.declareGo (y :: r) b c=Mk.declareGo r b c:=by rw [dg_cons,h];rfl
theorem dg_yes {y:Att} (h:Mk.isDecl y.name=true) (r:List Att) (b:List (Bs × Bs)) (c:Nat):Mk.declareGo (y :: r) b c=if !Mk.isGood (Mk.declared y.name) y.val then (b,c,false) else Mk.declareGo r (b ++ [(Mk.declared y.name,y.val)]) (c + 1):=by rw [dg_cons,h];rfl
theorem rg_yes {y:Att} (h:Mk.isDecl y.name=true) (b:List (Bs × Bs)) (r acc:List Att):Mk.resolveGo b (y :: r) acc=Mk.resolveGo b r acc:=by rw [rg_cons,h];rfl
theorem rg_no {y:Att} (h:Mk.isDecl y.name=false) (b:List (Bs × Bs)) (r acc:List Att):Mk.resolveGo b (y :: r) acc=if !Mk.isBound b (Mk.prefixOf y.name) || Mk.hasLocal acc (Mk.withSpace b y) then none else Mk.resolveGo b r (acc ++ [Mk.withSpace b y]):=by rw [rg_cons,h];rfl
theorem declareGo_skip:∀ (l:List Att) (b:List (Bs × Bs)) (c:Nat),(∀ y ∈ l,Mk.isDecl y.name=false)→Mk.declareGo l b c=(b,c,true)
  | [],b,c,_=>rfl
  | y :: r,b,c,h=>by
    unfold Mk.declareGo
    rw [if_pos (by rw [h y (by simp)];rfl)]
    exact declareGo_skip r b c (fun z hz=>h z (List.mem_cons_of_mem _ hz))
theorem declareGo_filter (m:List Att) (hm:∀ y ∈ m,Mk.isDecl y.name=false):∀ (l:List Att) (b:List (Bs × Bs)) (c:Nat),Mk.declareGo (l.filter (fun y=>Mk.isDecl y.name) ++ m) b c=Mk.declareGo l b c
  | [],b,c=>declareGo_skip m b c hm
  | y :: r,b,c=>by
    cases h:Mk.isDecl y.name
    · rw [List.filter_cons_of_neg (by simp [h]),dg_no h]
      exact declareGo_filter m hm r b c
    · rw [List.filter_cons_of_pos (by simp [h]),List.cons_append,dg_yes h,dg_yes h]
      split
      · rfl
      · exact declareGo_filter m hm r _ _
theorem resolveGo_skip (b:List (Bs × Bs)):∀ (l m:List Att) (acc:List Att),(∀ y ∈ l,Mk.isDecl y.name=true)→Mk.resolveGo b (l ++ m) acc=Mk.resolveGo b m acc
  | [],m,acc,_=>rfl
  | y :: r,m,acc,h=>by
    rw [List.cons_append,rg_cons,if_pos (h y (by simp))]
    exact resolveGo_skip b r m acc (fun z hz=>h z (List.mem_cons_of_mem _ hz))
theorem resolveGo_filter (b:List (Bs × Bs)):∀ (l acc:List Att),Mk.resolveGo b (l.filter (fun y => !Mk.isDecl y.name)) acc=Mk.resolveGo b l acc
  | [],acc=>rfl
  | y :: r,acc=>by
    cases h:Mk.isDecl y.name
    · rw [List.filter_cons_of_pos (by simp [h]),rg_no h,rg_no h]
      split
      · rfl
      · exact resolveGo_filter b r _
    · rw [List.filter_cons_of_neg (by simp [h]),rg_cons,if_pos h]
      exact resolveGo_filter b r acc
theorem all_norm (p:Att→Bool) (ats:List Att):(normA ats).all p=ats.all p:=by
  rw [Bool.eq_iff_iff,List.all_eq_true,List.all_eq_true]
  have hp:=normA_perm ats
  exact ⟨fun h x hx=>h x (hp.mem_iff.2 hx),fun h x hx=>h x (hp.mem_iff.1 hx)⟩
theorem kStart_norm (c:Sc) (n:Bs) (ats:List Att):kStart c n (normA ats)=kStart c n ats:=by
  have e1:Mk.areQualified n (normA ats)=Mk.areQualified n ats:=by unfold Mk.areQualified;rw [all_norm]
  have e2:∀ b k,Mk.declareGo (normA ats) b k=Mk.declareGo ats b k:=fun b k=>declareGo_filter _ (fun y hy=>by have:=(List.mem_filter.1 hy).2;simpa using this) ats b k
  have e3:∀ b,Mk.resolveGo b (normA ats) []=Mk.resolveGo b ats []:=fun b=>by
    unfold normA
    rw [resolveGo_skip b _ _ [] (fun y hy=>(List.mem_filter.1 hy).2),resolveGo_filter]
  unfold kStart
  rw [e1,e2,e3]
theorem kOne_norm (c:Sc) (e:Ev):kOne c (normE e)=kOne c e:=by
  unfold normE
  split
  · rename_i h
    unfold kOne
    rw [if_pos h,if_pos h]
    show (match kStart c e.name (normA e.attrs) with | none=>none | some (c', l)=>some (c', kTold c' e.name l))=_
    rw [kStart_norm]
    rfl
  · rfl
theorem kRes_norm:∀ (l:List Ev) (c:Sc) (acc:List Ev),kRes c acc (l.map normE)=kRes c acc l
  | [],c,acc=>rfl
  | e :: r,c,acc=>by
    show (match kOne c (normE e) with | none=>(c,acc,false) | some (c', m)=>kRes c' (acc ++ m) (r.map normE))=(match kOne c e with | none=>(c,acc,false) | some (c', m)=>kRes c' (acc ++ m) r)
    rw [kOne_norm]
    cases kOne c e with
    | none=>rfl
    | some p=>exact kRes_norm r _ _
def decls (ats:List Att):List (Bs × Bs):=(ats.filter (fun y=>Mk.isDecl y.name)).map fun y=>(Mk.declared y.name,y.val)
theorem declareGo_ok:∀ (ats:List Att) (b:List (Bs × Bs)) (k:Nat),(Mk.declareGo ats b k).2.2=true→(Mk.declareGo ats b k).1=b ++ decls ats∧(Mk.declareGo ats b k).2.1=k + (decls ats).length
  | [],b,k,_=>by simp [Mk.declareGo,decls]
  | y :: r,b,k,h=>by
    cases hd:Mk.isDecl y.name
    · rw [dg_no hd] at h ⊢
      have:=declareGo_ok r b k h
      have e:decls (y :: r)=decls r:=by unfold decls;rw [List.filter_cons_of_neg (by simp [hd])]
      rw [e];exact this
    · rw [dg_yes hd] at h ⊢
      split at h
      · cases h
      · rename_i hg
        rw [if_neg hg]
        have:=declareGo_ok r _ _ h
        have e:decls (y :: r)=(Mk.declared y.name,y.val) :: decls r:=by unfold decls;rw [List.filter_cons_of_pos (by simp [hd])];rfl
        rw [this.1,this.2,e]
        simp
        omega
theorem resolveGo_ok (b:List (Bs × Bs)):∀ (ats acc l:List Att),Mk.resolveGo b ats acc=some l→l.map (fun y=>(y.name,y.val))=acc.map (fun y=>(y.name,y.val)) ++ (ats.filter (fun y => !Mk.isDecl y.name)).map (fun y=>(y.name,y.val))
  | [],acc,l,h=>by cases h;simp
  | y :: r,acc,l,h=>by
    cases hd:Mk.isDecl y.name
    · rw [rg_no hd] at h
      split at h
      · cases h
      · rw [resolveGo_ok b r _ l h,List.filter_cons_of_pos (by simp [hd])]
        unfold Mk.withSpace
        split <;> simp
    · rw [rg_yes hd] at h
      rw [resolveGo_ok b r acc l h,List.filter_cons_of_neg (by simp [hd])]
theorem declN_back {n:Bs} (hq:Mk.isQualified n=true) (hd:Mk.isDecl n=true):declN (Mk.declared n)=n:=by
  unfold Mk.isDecl at hd
  unfold Mk.declared
  by_cases hx:n == Mk.wXmlns
  · rw [if_pos hx]
    exact (by simpa using hx:n=Mk.wXmlns).symm
  · rw [if_neg hx]
    have hp:Mk.prefixOf n=Mk.wXmlns:=by simpa [hx] using hd
    have hc:Mk.hasColon n=true:=by
      cases h:Mk.hasColon n
      · unfold Mk.prefixOf at hp;rw [h] at hp;cases hp
      · rfl
    have hl:Mk.localOf n ≠ []:=by
      unfold Mk.isQualified at hq
      rw [hc] at hq
      intro k
      rw [k] at hq
      simp at hq
    unfold declN
    rw [if_neg hl]
    unfold Mk.prefixOf Mk.localOf at *
    rw [hc] at hp ⊢
    rw [if_pos rfl] at hp ⊢
    rw [← hp]
    have hlt:Mk.colonAt n<n.length:=by unfold Mk.hasColon at hc;simpa using hc
    have hcol:n[Mk.colonAt n]? = some 58:=by
      unfold Mk.colonAt at hlt ⊢
      have key:∀ (m:Bs),(m.takeWhile (· != 58)).length<m.length→m[(m.takeWhile (· != 58)).length]? = some 58:=by
        intro m
        induction m with
        | nil=>intro h;cases h
        | cons x r ih =>
          intro h
          cases hx:(x != 58)
          · rw [List.takeWhile_cons_of_neg (by simp [hx])]
            show some x=some 58
            have:x=58:=by simpa using hx
            rw [this]
          · have e:(x :: r).takeWhile (fun x=>x != 58)=x :: r.takeWhile (fun x=>x != 58):=by simp only [List.takeWhile_cons,hx,if_true]
            rw [e] at h ⊢
            rw [List.length_cons,List.getElem?_cons_succ]
            exact ih (by simpa using h)
      exact key n hlt
    have e:n.drop (Mk.colonAt n)=58 :: n.drop (Mk.colonAt n + 1):=by
      rw [List.drop_eq_getElem_cons hlt]
      congr 1
      have:=List.getElem?_eq_getElem hlt
      rw [this] at hcol
      exact Option.some.inj hcol
    rw [List.append_assoc]
    show n.take _ ++ ([58] ++ n.drop _)=n
    rw [show [58] ++ n.drop (Mk.colonAt n + 1)=n.drop (Mk.colonAt n) from e.symm]
    exact List.take_append_drop _ _
theorem tag_new (c:Sc) (ds:List (Bs × Bs)):Sc.tag ⟨c.bnd ++ ds,c.cnt ++ [ds.length]⟩=ds:=by
  unfold Sc.tag Sc.fst
  have e:(c.cnt ++ [ds.length]).getLast? = some ds.length:=by simp
  simp only [e]
  rw [if_neg (by rw [List.length_append];omega)]
  rw [List.length_append,Nat.add_sub_cancel,List.drop_append_of_le_length (Nat.le_refl _),List.drop_length]
  rfl
theorem wGo_binds:∀ (l:List (Bs × Bs)) (bs r:List Ev),wGo bs (kBinds l ++ r)=wGo (bs ++ kBinds l) r
  | [],bs,r=>by simp [kBinds]
  | p :: l,bs,r=>by
    show wGo bs (⟨6,p.1,[],p.2,[]⟩ :: (kBinds l ++ r))=_
    have e:wGo bs (⟨6,p.1,[],p.2,[]⟩ :: (kBinds l ++ r))=wGo (bs ++ [⟨6,p.1,[],p.2,[]⟩]) (kBinds l ++ r):=rfl
    rw [e,wGo_binds l]
    simp [kBinds]
theorem wGo_unbinds:∀ (l:List (Bs × Bs)) (r:List Ev),wGo [] (kUnbinds l ++ r)=wGo [] r
  | [],r=>rfl
  | p :: l,r=>by
    show wGo [] (⟨7,p.1,[],[],[]⟩ :: (kUnbinds l ++ r))=_
    have e:wGo [] (⟨7,p.1,[],[],[]⟩ :: (kUnbinds l ++ r))=[] ++ wGo [] (kUnbinds l ++ r):=rfl
    rw [e,List.nil_append,wGo_unbinds l]
theorem flat_pairs (f:Bs→Bs→Bs) (l:List Att):l.flatMap (fun y=>f y.name y.val)=(l.map (fun y=>(y.name,y.val))).flatMap (fun p=>f p.1 p.2):=by
  induction l with
  | nil=>rfl
  | cons y r ih=>simp only [List.flatMap_cons,List.map_cons,ih]
theorem wGo_one {d a t:Int} {o o1:List Bs} {ov ov1 pt:Bool} {e:Ev} (h:GoodE d a t o ov pt e o1 ov1) {c c' : Sc} {m:List Ev} (hk:kOne c e=some (c', m)) (r:List Ev):wGo [] (m ++ r)=wEv (normE e) ++ wGo [] r:=by
  cases h with
  | start n ats h1 h2 h3 h4 h5 h6 =>
    have hk:(match kStart c n ats with | none=>none | some (c', l)=>some (c', kTold c' n l))=some (c', m):=hk
    cases hs:kStart c n ats with
    | none=>rw [hs] at hk;cases hk
    | some p =>
      obtain ⟨c2,l⟩:=p
      rw [hs] at hk
      cases hk
      unfold kStart at hs
      split at hs
      · cases hs
      · rename_i hq
        split at hs
        · cases hs
        · rename_i hdg
          split at hs
          · cases hs
          · cases hr:Mk.resolveGo (Mk.declareGo ats c.bnd 0).1 ats [] with
            | none=>rw [hr] at hs;cases hs
            | some l2 =>
              rw [hr] at hs
              cases hs
              obtain ⟨d1,d2⟩:=declareGo_ok ats c.bnd 0 (by simpa using hdg)
              have htag:Sc.tag ⟨(Mk.declareGo ats c.bnd 0).1,c.cnt ++ [(Mk.declareGo ats c.bnd 0).2.1]⟩=decls ats:=by
                rw [d1,d2,Nat.zero_add];exact tag_new c _
              have hrk:=resolveGo_ok _ ats [] l hr
              have hq:Mk.areQualified n ats=true:=by simpa using hq
              unfold kTold
              rw [htag,List.append_assoc,wGo_binds,List.nil_append]
              have e1:wGo (kBinds (decls ats)) ([⟨1,n,Mk.valueOf (Mk.declareGo ats c.bnd 0).1 (Mk.prefixOf n),[],l⟩] ++ r)=wStart ⟨1,n,Mk.valueOf (Mk.declareGo ats c.bnd 0).1 (Mk.prefixOf n),[],l⟩ (kBinds (decls ats)) ++ wGo [] r:=rfl
              rw [e1]
              congr 1
              show 60 :: n ++ (kBinds (decls ats)).flatMap (fun b=>wAttr (declN b.name) b.val) ++ l.flatMap (fun y=>wAttr y.name y.val) ++ [62]=60 :: n ++ [] ++ (normA ats).flatMap (fun y=>wAttr y.name y.val) ++ [62]
              have e2:(kBinds (decls ats)).flatMap (fun b=>wAttr (declN b.name) b.val)=(ats.filter (fun y=>Mk.isDecl y.name)).flatMap (fun y=>wAttr y.name y.val):=by
                have hqa:∀ y ∈ ats.filter (fun y=>Mk.isDecl y.name),Mk.isQualified y.name=true∧Mk.isDecl y.name=true:=fun y hy=>by
                  unfold Mk.areQualified at hq
                  rw [Bool.and_eq_true] at hq
                  exact ⟨List.all_eq_true.1 hq.1 y (List.mem_filter.1 hy).1,(List.mem_filter.1 hy).2⟩
                unfold decls kBinds
                generalize ats.filter (fun y=>Mk.isDecl y.name)=fs at hqa
                induction fs with
                | nil=>rfl
                | cons y fs ih =>
                  simp only [List.map_cons,List.flatMap_cons]
                  rw [declN_back (hqa y (by simp)).1 (hqa y (by simp)).2,ih (fun z hz=>hqa z (List.mem_cons_of_mem _ hz))]
              have e3:l.flatMap (fun y=>wAttr y.name y.val)=(ats.filter (fun y => !Mk.isDecl y.name)).flatMap (fun y=>wAttr y.name y.val):=by
                rw [flat_pairs wAttr l,flat_pairs wAttr (ats.filter _),hrk]
                rfl
              rw [e2,e3]
              unfold normA
              rw [List.flatMap_append]
              simp
  | fin o' n h1 h2 =>
    have hk:(if c.cnt=[] then none else some (kLeft c,kEnd c n))=some (c', m):=hk
    split at hk
    · cases hk
    · cases hk
      unfold kEnd
      have e1:wGo [] (⟨2,n,Mk.valueOf c.bnd (Mk.prefixOf n),[],[]⟩ :: kUnbinds c.tag.reverse ++ r)=wOther ⟨2,n,Mk.valueOf c.bnd (Mk.prefixOf n),[],[]⟩ ++ wGo [] (kUnbinds c.tag.reverse ++ r):=rfl
      rw [e1,wGo_unbinds]
      rfl
  | txt val h1 h2 h3 h4 =>
    have hk:some (c,[(⟨3,[],[],val,[]⟩:Ev)])=some (c', m):=hk
    cases hk
    rfl
  | comm val h1 =>
    have hk:some (c,[(⟨4,[],[],val,[]⟩:Ev)])=some (c', m):=hk
    cases hk
    rfl
  | pi n val h1 h2 h3 =>
    have hk:(if Mk.hasColon n then none else some (c,[(⟨5,n,[],val,[]⟩:Ev)]))=some (c', m):=hk
    split at hk
    · cases hk
    · cases hk
      rfl
theorem wGo_res {d a t:Int} {o o1:List Bs} {ov ov1 pt:Bool} {l:List Ev} (h:GoodL d a t o ov pt l o1 ov1):∀ {c c' : Sc} {acc m:List Ev},kRes c acc l=(c', m,true)→∃ x,m=acc ++ x∧wGo [] x=(l.map normE).flatMap wEv:=by
  induction h with
  | nil o ov pt=>intro c c' acc m hk;cases hk;exact ⟨[],by simp,rfl⟩
  | @cons o o1 o2 ov ov1 ov2 pt e l he r ih =>
    intro c c' acc m hk
    have hk:(match kOne c e with | none=>(c,acc,false) | some (c', m)=>kRes c' (acc ++ m) l)=(c', m,true):=hk
    cases hm:kOne c e with
    | none=>rw [hm] at hk;cases hk
    | some p =>
      obtain ⟨c1,m1⟩:=p
      rw [hm] at hk
      obtain ⟨x,e1,e2⟩:=ih hk
      refine ⟨m1 ++ x,by rw [e1];simp,?_⟩
      rw [wGo_one he hm,e2]
      rfl
theorem write_names {d a t:Int} (d1:1≤d) (t1:8≤t) (a1:0≤a) (a2:a≤32) {l E:List Ev} {o1:List Bs} {ov1:Bool} {c:Sc} (h:GoodL d a t [] false false l o1 ov1) (hk:kRes Sc.zero [] l=(c,E,true)) :
    (wAll E=(l.map normE).flatMap wEv)∧(o1=[]→(Mk.feedAll (Mk.make_ d a t true) (wAll E)).ended=0∧wT (Mk.feedAll (Mk.make_ d a t true) (wAll E))=E∧((Mk.close (Mk.feedAll (Mk.make_ d a t true) (wAll E))).2=if ov1 then 0 else 9))∧(o1 ≠ []→¬ ((Mk.feedAll (Mk.make_ d a t true) (wAll E)).ended=0∧(Mk.close (Mk.feedAll (Mk.make_ d a t true) (wAll E))).2=0)):=by
  obtain ⟨x,e1,e2⟩:=wGo_res h hk
  have e1:E=x:=by simpa using e1
  subst e1
  have hg:=goodL_norm h
  obtain ⟨w1,w2,w3,w4,w5⟩:=write_read hg
  have e2:wAll E=(l.map normE).flatMap wEv:=e2
  refine ⟨e2,fun ho => ?_,fun ho => ?_⟩
  · rw [e2]
    have hs:(Mk.feedAll (Mk.make_ d a t false) ((l.map normE).flatMap wEv)).state=0:=by rw [w5,ho];rfl
    obtain ⟨q1,q2,q3⟩:=lift_names d1 t1 a1 a2 _ w1 hs w2 (by rw [kRes_norm];exact hk)
    refine ⟨q1,q2,?_⟩
    rw [q3]
    unfold Mk.close Mk.isDocument
    rw [if_pos w1,w4,hs]
    cases ov1 <;> rfl
  · rw [e2]
    rintro ⟨q1,q2⟩
    obtain ⟨_,_,q3,_⟩:=spaces_ok d a t d1 t1 a1 a2 _ (by rw [q1];decide)
    rw [q2] at q3
    unfold Mk.close Mk.isDocument at q3
    have hs:(Mk.feedAll (Mk.make_ d a t false) ((l.map normE).flatMap wEv)).state=1:=by rw [w5,if_neg (fun k=>ho (List.length_eq_zero_iff.1 k))]
    rw [if_pos w1,hs] at q3
    simp at q3
def bTags:List Bs:=[[97],[98,45,99],[95,100],[112,58,97],[113,58,101,46,49],[90]]
def bValC:List (List Int):=[[120],[60,38,62,34,39],[93,93,62],[13],[13,10],[32,9,10],[233,55295],[1114111,65533],[38,108,116,59],[45,45,93,93]]
def bVal (k:Nat):Bs:=(bValC.getD k []).flatMap Mk.encode
def bComC:List (List Int):=[[],[99],[97,45,98],[32,45,32],[60,38,62,93,93,62],[10,9],[8364,63,62]]
def bCom (k:Nat):Bs:=(bComC.getD k []).flatMap Mk.encode
def bTgt:List Bs:=[[116],[120,109,108,120],[95],[120]]
def bDatC:List (List Int):=[[],[100,32],[63,32,63],[60,38,62],[120,62,63],[233],[93,93,62]]
def bDat (k:Nat):Bs:=(bDatC.getD k []).flatMap Mk.encode
def nP:Bs:=[120,109,108,110,115,58,112]
def nQ:Bs:=[120,109,108,110,115,58,113]
def nK:Bs:=[107]
def nPK:Bs:=[112,58,107]
def nXL:Bs:=[120,109,108,58,108]
structure Bld where
  at_:Nat
  l:List Ev
  o:List Bs
def bN (code:Bs) (a n:Nat):Nat:=if a<code.length then (code.getD a 0).toNat % n else 0
def bA (code:Bs) (a:Nat):Nat:=if a<code.length then a + 1 else a
def bAside (code:Bs) (s:Bld):Bld:=
  if bN code s.at_ 2=0 then ⟨bA code (bA code s.at_),s.l ++ [⟨4,[],[],bCom (bN code (bA code s.at_) 7),[]⟩],s.o⟩
  else ⟨bA code (bA code (bA code s.at_)),s.l ++ [⟨5,bTgt.getD (bN code (bA code s.at_) 4) [],[],bDat (bN code (bA code (bA code s.at_)) 7),[]⟩],s.o⟩
def bDecl (k:Nat):List Att:=
  if k=1 then [⟨nP,[],[119]⟩] else if k=2 then [⟨Mk.wXmlns,[],[117]⟩,⟨nQ,[],[117]⟩] else if k=3 then [⟨Mk.wXmlns,[],[]⟩] else []
def bOuter:List Att:=[⟨nP,[],[117]⟩,⟨nQ,[],[118]⟩]
def bAtts (k v1 v2:Nat):List Att:=
  (if 0<k then [⟨nK,[],bVal v1⟩] else []) ++ (if 1<k then [⟨nPK,[],bVal v2 ++ bVal v2⟩] else []) ++ (if 2<k then [⟨nXL,[],[]⟩] else [])
def bRestA (code:Bs) (a:Nat):List Att:=bAtts (bN code a 4) (bN code (bA code a) 10) (bN code (bA code (bA code a)) 10)
def bRestP (code:Bs) (a:Nat):Nat:=if bN code a 4=0 then bA code a else if bN code a 4=1 then bA code (bA code a) else bA code (bA code (bA code a))
def bStart (code:Bs) (s:Bld):Bld:=
  let n:=bTags.getD (bN code s.at_ 6) []
  if s.o.length=0 then ⟨bRestP code (bA code s.at_),s.l ++ [⟨1,n,[],[],bOuter ++ bRestA code (bA code s.at_)⟩],s.o ++ [n]⟩
  else ⟨bRestP code (bA code (bA code s.at_)),s.l ++ [⟨1,n,[],[],bDecl (bN code (bA code s.at_) 6) ++ bRestA code (bA code (bA code s.at_))⟩],s.o ++ [n]⟩
def bEnd (s:Bld):Bld:=⟨s.at_,s.l ++ [⟨2,s.o.getLastD [],[],[],[]⟩],s.o.dropLast⟩
def lastK (l:List Ev):Int:=match l.getLast? with | none=>0 | some e=>e.kind
def bStep (code:Bs) (s:Bld):Bld:=
  let k:=bN code s.at_ 6
  let s1:Bld:=⟨bA code s.at_,s.l,s.o⟩
  if k<2∧s.o.length<9 then bStart code s1
  else if k=2∧1<s.o.length then bEnd s1
  else if k=3 then bAside code s1
  else if 3<k∧lastK s.l ≠ 3 then ⟨bA code (bA code s1.at_),s.l ++ [⟨3,[],[],bVal (bN code s1.at_ 10) ++ bVal (bN code (bA code s1.at_) 10),[]⟩],s.o⟩
  else s1
def bLoop (code:Bs):Nat→Bld→Bld
  | 0,s=>s
  | n + 1,s=>if s.at_<code.length then bLoop code n (bStep code s) else s
def bEnds:Nat→Bld→Bld
  | 0,s=>s
  | n + 1,s=>bEnds n (bEnd s)
def bAsides (code:Bs):Nat→Bld→Bld
  | 0,s=>s
  | n + 1,s=>bAsides code n (bAside code s)
def bOpen (code:Bs):Bld:=
  let s0:Bld:=bAsides code (bN code 0 3) ⟨bA code 0,[],[]⟩
  bLoop code code.length (bStart code s0)
def bAll (code:Bs):Bld:=
  let s:=bOpen code
  bAside code (bEnds s.o.length s)
def ptL (pt:Bool) (l:List Ev):Bool:=match l.getLast? with | none=>pt | some e=>decide (e.kind=3)
theorem GoodL.snoc {d a t:Int} {o o1 o2:List Bs} {ov ov1 ov2 pt:Bool} {l:List Ev} {e:Ev} (h:GoodL d a t o ov pt l o1 ov1) (g:GoodE d a t o1 ov1 (ptL pt l) e o2 ov2):GoodL d a t o ov pt (l ++ [e]) o2 ov2:=by
  induction h with
  | nil o ov pt=>exact .cons g (.nil _ _ _)
  | @cons o o1 o2' ov ov1 ov2' pt e' l he r ih =>
    refine .cons he (ih ?_)
    have e1:ptL pt (e' :: l)=ptL (decide (e'.kind=3)) l:=by
      unfold ptL
      rw [List.getLast?_cons]
      cases l.getLast? <;> rfl
    rw [e1] at g
    exact g
theorem tag_ok (k:Nat) (h:k<6):NameOk 1024 (bTags.getD k []):=by
  have:k=0∨k=1∨k=2∨k=3∨k=4∨k=5:=by omega
  rcases this with rfl | rfl | rfl | rfl | rfl | rfl
  all_goals exact ⟨_,_,rfl,by decide,by decide,by decide⟩
theorem tgt_ok (k:Nat) (h:k<4):NameOk 1024 (bTgt.getD k [])∧Mk.isXML (bTgt.getD k [])=false∧Mk.hasColon (bTgt.getD k [])=false:=by
  have:k=0∨k=1∨k=2∨k=3:=by omega
  rcases this with rfl | rfl | rfl | rfl
  all_goals exact ⟨⟨_,_,rfl,by decide,by decide,by decide⟩,by decide,by decide⟩
theorem val_all:∀ k<10,((bValC.getD k []).all fun c=>Mk.isChar c)=true∧(bValC.getD k []).length≤5∧bValC.getD k [] ≠ []:=by decide
theorem val_ok (k:Nat) (h:k<10):∃ cs:List Int,bVal k=cs.flatMap Mk.encode∧(∀ c ∈ cs,Mk.isChar c=true)∧cs.length≤5∧cs ≠ []:=
  ⟨bValC.getD k [],rfl,fun c hc=>List.all_eq_true.1 (val_all k h).1 c hc,(val_all k h).2⟩
theorem val_nil (k:Nat) (h:k<10):bVal k ≠ []:=by
  have key:∀ k<10,(bVal k).length ≠ 0:=by decide
  intro e
  exact key k h (by rw [e];rfl)
theorem com_all:∀ k<7,((bComC.getD k []).all fun c=>Mk.isChar c && c != 13)=true∧(bComC.getD k []).length≤6∧cmOk false (bComC.getD k [])=true:=by decide
theorem com_ok (k:Nat) (h:k<7):CommOk 1024 (bCom k):=by
  obtain ⟨h1,h2,h3⟩:=com_all k h
  refine ⟨bComC.getD k [],rfl,fun c hc => ?_,by omega,h3⟩
  have:=List.all_eq_true.1 h1 c hc
  simpa using this
theorem dat_all:∀ k<7,((bDatC.getD k []).all fun c=>Mk.isChar c && c != 13)=true∧(bDatC.getD k []).length≤6∧inOk false (bDatC.getD k [])=true∧Mk.isSpace ((bDatC.getD k []).headD 0)=false:=by decide
theorem dat_ok (k:Nat) (h:k<7):InstrOk 1024 (bDat k):=by
  obtain ⟨h1,h2,h3,h4⟩:=dat_all k h
  refine ⟨bDatC.getD k [],rfl,fun c hc => ?_,by omega,h3,fun c r e => ?_⟩
  · have:=List.all_eq_true.1 h1 c hc
    simpa using this
  · rw [e] at h4;exact h4
theorem bN_lt (code:Bs) (a n:Nat) (h:0<n):bN code a n<n:=by
  unfold bN
  split
  · exact Nat.mod_lt _ h
  · exact h
theorem chars_two {k j:Nat} (hk:k<10) (hj:j<10):∃ cs:List Int,bVal k ++ bVal j=cs.flatMap Mk.encode∧(∀ c ∈ cs,Mk.isChar c=true)∧cs.length≤10:=by
  obtain ⟨c1,e1,h1,l1,_⟩:=val_ok k hk
  obtain ⟨c2,e2,h2,l2,_⟩:=val_ok j hj
  refine ⟨c1 ++ c2,by rw [e1,e2,List.flatMap_append],fun c hc => ?_,by rw [List.length_append];omega⟩
  rcases List.mem_append.1 hc with hc | hc
  · exact h1 c hc
  · exact h2 c hc
theorem name_lit {n:Bs} (h:(match n with | []=>false | x :: r=>Mk.beginsName (x.toNat:Int) && r.all (fun y=>Mk.inName (y.toNat:Int)) && decide (n.length≤1024))=true):NameOk 1024 n:=by
  cases n with
  | nil=>cases h
  | cons x r =>
    simp only [Bool.and_eq_true,decide_eq_true_eq,List.all_eq_true] at h
    exact ⟨x,r,rfl,h.1.1,h.1.2,by have:=h.2;omega⟩
theorem chars_lit (cs:List Int) (h:(cs.all (fun c=>Mk.isChar c) && decide (cs.length≤1024))=true):CharsOk 1024 (cs.flatMap Mk.encode):=by
  simp only [Bool.and_eq_true,decide_eq_true_eq,List.all_eq_true] at h
  exact ⟨cs,rfl,h.1,by have:=h.2;omega⟩
theorem atts_ok {k v1 v2:Nat} (h1:v1<10) (h2:v2<10):∀ y ∈ bAtts k v1 v2,AttOk 1024 y:=by
  intro y hy
  unfold bAtts at hy
  rw [List.mem_append,List.mem_append] at hy
  rcases hy with (hy | hy) | hy
  · split at hy
    · cases List.mem_singleton.1 hy
      obtain ⟨cs,e,hc,hl,_⟩:=val_ok v1 h1
      exact ⟨name_lit rfl,⟨cs,e,hc,by omega⟩,rfl⟩
    · cases hy
  · split at hy
    · cases List.mem_singleton.1 hy
      obtain ⟨cs,e,hc,hl⟩:=chars_two h2 h2
      exact ⟨name_lit rfl,⟨cs,e,hc,by omega⟩,rfl⟩
    · cases hy
  · split at hy
    · cases List.mem_singleton.1 hy
      exact ⟨name_lit rfl,chars_lit [] rfl,rfl⟩
    · cases hy
theorem decl_ok (k:Nat):∀ y ∈ bDecl k,AttOk 1024 y:=by
  intro y hy
  unfold bDecl at hy
  split at hy
  · cases List.mem_singleton.1 hy
    exact ⟨name_lit rfl,chars_lit [119] rfl,rfl⟩
  · split at hy
    · rcases List.mem_cons.1 hy with rfl | hy
      · exact ⟨name_lit rfl,chars_lit [117] rfl,rfl⟩
      · cases List.mem_singleton.1 hy
        exact ⟨name_lit rfl,chars_lit [117] rfl,rfl⟩
    · split at hy
      · cases List.mem_singleton.1 hy
        exact ⟨name_lit rfl,chars_lit [] rfl,rfl⟩
      · cases hy
theorem outer_ok:∀ y ∈ bOuter,AttOk 1024 y:=by
  intro y hy
  unfold bOuter at hy
  rcases List.mem_cons.1 hy with rfl | hy
  · exact ⟨name_lit rfl,chars_lit [117] rfl,rfl⟩
  · cases List.mem_singleton.1 hy
    exact ⟨name_lit rfl,chars_lit [118] rfl,rfl⟩
def attN (k:Nat):List Bs:=(if 0<k then [nK] else []) ++ (if 1<k then [nPK] else []) ++ (if 2<k then [nXL] else [])
theorem atts_names (k v1 v2:Nat):Names (bAtts k v1 v2)=attN k:=by
  unfold Names bAtts attN
  rw [List.map_append,List.map_append]
  (repeat' split) <;> rfl
theorem decl_names:∀ k<6, ∀ j<4,(Names (bDecl k) ++ attN j).Nodup:=by decide
theorem outer_names:∀ j<4,(Names bOuter ++ attN j).Nodup:=by decide
theorem atts_len (k v1 v2:Nat):(bAtts k v1 v2).length≤3:=by
  unfold bAtts
  rw [List.length_append,List.length_append]
  (repeat' split) <;> simp
theorem decl_len (k:Nat):(bDecl k).length≤2:=by
  unfold bDecl
  (repeat' split) <;> simp
theorem start_good {o:List Bs} {pt:Bool} (ho:o.length<64) (n:Bs) (hn:NameOk 1024 n) (ds:List Att) (hds:∀ y ∈ ds,AttOk 1024 y) (hdl:ds.length≤2) {k v1 v2:Nat} (h1:v1<10) (h2:v2<10) (hnd:(Names ds ++ attN k).Nodup):GoodE 64 32 1024 o false pt ⟨1,n,[],[],ds ++ bAtts k v1 v2⟩ (o ++ [n]) false:=by
  have hl:=atts_len k v1 v2
  refine .start n _ rfl (by omega) hn (by rw [List.length_append];omega) (fun y hy => ?_) ?_
  · rcases List.mem_append.1 hy with hy | hy
    · exact hds y hy
    · exact atts_ok h1 h2 y hy
  · have:Names (ds ++ bAtts k v1 v2)=Names ds ++ attN k:=by rw [← atts_names k v1 v2];exact List.map_append
    rw [this];exact hnd
structure BGood (s:Bld) (ov:Bool):Prop where
  g:GoodL 64 32 1024 [] false false s.l s.o ov
  nm:∀ n ∈ s.o, ∀ x ∈ n,Mk.inName (x.toNat:Int)=true
theorem BGood.aside {code:Bs} {s:Bld} {ov:Bool} (h:BGood s ov):BGood (bAside code s) ov:=by
  unfold bAside
  split
  · exact ⟨h.g.snoc (.comm _ (com_ok _ (bN_lt _ _ _ (by decide)))),h.nm⟩
  · obtain ⟨h1,h2,_⟩:=tgt_ok (bN code (bA code s.at_) 4) (bN_lt _ _ _ (by decide))
    exact ⟨h.g.snoc (.pi _ _ h1 h2 (dat_ok _ (bN_lt _ _ _ (by decide)))),h.nm⟩
theorem BGood.start {code:Bs} {s:Bld} (h:BGood s false) (ho:s.o.length<64):BGood (bStart code s) false:=by
  have hn:=tag_ok (bN code s.at_ 6) (bN_lt _ _ _ (by decide))
  have hnm:∀ n ∈ s.o ++ [bTags.getD (bN code s.at_ 6) []], ∀ x ∈ n,Mk.inName (x.toNat:Int)=true:=fun n hn' => by
    rcases List.mem_append.1 hn' with q | q
    · exact h.nm n q
    · rw [List.mem_singleton.1 q];exact hn.all
  unfold bStart
  dsimp only
  split
  · exact ⟨h.g.snoc (start_good ho _ hn bOuter outer_ok (by decide) (bN_lt _ _ _ (by decide)) (bN_lt _ _ _ (by decide)) (outer_names _ (bN_lt _ _ _ (by decide)))),hnm⟩
  · exact ⟨h.g.snoc (start_good ho _ hn (bDecl _) (decl_ok _) (decl_len _) (bN_lt _ _ _ (by decide)) (bN_lt _ _ _ (by decide)) (decl_names _ (bN_lt _ _ _ (by decide)) _ (bN_lt _ _ _ (by decide)))),hnm⟩
theorem BGood.fin {s:Bld} {ov:Bool} (h:BGood s ov) (ho:s.o ≠ []):BGood (bEnd s) (decide (s.o.dropLast.length=0)):=by
  have e:s.o=s.o.dropLast ++ [s.o.getLastD []]:=by
    have:=List.dropLast_concat_getLast ho
    rw [List.getLastD_eq_getLast?,List.getLast?_eq_some_getLast ho]
    exact this.symm
  refine ⟨h.g.snoc (.fin s.o.dropLast _ e (h.nm _ ?_)),fun n hn=>h.nm n (List.dropLast_subset _ hn)⟩
  rw [e]
  simp
theorem ptL_last (l:List Ev) (h:lastK l ≠ 3):ptL false l=false:=by
  unfold lastK at h
  unfold ptL
  cases he:l.getLast? with
  | none=>rfl
  | some e=>rw [he] at h;simpa using h
theorem txt_good {k j:Nat} (hk:k<10) (hj:j<10):∃ cs:List Int,bVal k ++ bVal j=cs.flatMap Mk.encode∧∀ c ∈ cs,Mk.isChar c=true:=by
  obtain ⟨cs,h1,h2,_⟩:=chars_two hk hj
  exact ⟨cs,h1,h2⟩
def xB:Bs × Bs:=(Mk.wXml,Mk.xmlSpace)
def bp:Bs:=[112]
def bq:Bs:=[113]
structure Lvs (c:Sc) (lv:List (List (Bs × Bs))):Prop where
  b:c.bnd=xB :: lv.flatten
  n:c.cnt=lv.map List.length
  v:∀ m ∈ lv, ∀ y ∈ m,y.1=[]∨y.2 ≠ []
  h:lv ≠ []→∃ r,lv=[(bp,[117]),(bq,[118])] :: r
theorem valueOf_ne (p:Bs) (hp:p ≠ []):∀ (l:List (Bs × Bs)) (acc:Bs),(∀ y ∈ l,y.1=[]∨y.2 ≠ [])→(acc ≠ []∨∃ y ∈ l,y.1=p)→l.foldl (fun acc x=>if x.1 == p then x.2 else acc) acc ≠ []
  | [],acc,_,h=>by
    rcases h with h | ⟨y,hy,_⟩
    · exact h
    · cases hy
  | y :: r,acc,hv,h=>by
    rw [List.foldl_cons]
    refine valueOf_ne p hp r _ (fun z hz=>hv z (List.mem_cons_of_mem _ hz)) ?_
    by_cases e:y.1=p
    · left
      rw [if_pos (by simpa using e)]
      rcases hv y (by simp) with k | k
      · exact absurd (e.symm.trans k) hp
      · exact k
    · rw [if_neg (by simpa using e)]
      rcases h with h | ⟨z,hz,k⟩
      · exact .inl h
      · rcases List.mem_cons.1 hz with rfl | hz
        · exact absurd k e
        · exact .inr ⟨z,hz,k⟩
theorem Lvs.bound {c:Sc} {lv:List (List (Bs × Bs))} (L:Lvs c lv) (hl:lv ≠ []) (p:Bs) (hp:p=bp∨p=bq∨p=Mk.wXml):Mk.valueOf c.bnd p ≠ []∧Mk.isBound c.bnd p=true:=by
  have hne:p ≠ []:=by rcases hp with rfl | rfl | rfl <;> decide
  obtain ⟨r,e⟩:=L.h hl
  have h1:Mk.valueOf c.bnd p ≠ []:=by
    unfold Mk.valueOf
    refine valueOf_ne p hne _ _ ?_ (.inr ?_)
    · rw [L.b]
      intro y hy
      rcases List.mem_cons.1 hy with rfl | hy
      · exact .inr (by decide)
      · obtain ⟨m,hm,hy⟩:=List.mem_flatten.1 hy
        exact L.v m hm y hy
    · rw [L.b,e]
      rcases hp with rfl | rfl | rfl
      · exact ⟨(bp,[117]),by simp,rfl⟩
      · exact ⟨(bq,[118]),by simp,rfl⟩
      · exact ⟨xB,by simp,rfl⟩
  refine ⟨h1,?_⟩
  unfold Mk.isBound
  simp [h1]
theorem kLeft_lv {c:Sc} {lv:List (List (Bs × Bs))} (L:Lvs c lv) (hl:lv ≠ []):Lvs (kLeft c) lv.dropLast:=by
  obtain ⟨ini,lst,rfl⟩:∃ ini lst,lv=ini ++ [lst]:=⟨lv.dropLast,lv.getLast hl,(List.dropLast_concat_getLast hl).symm⟩
  have hc:c.cnt=ini.map List.length ++ [lst.length]:=by rw [L.n,List.map_append];rfl
  have hf:c.fst=(xB :: ini.flatten).length:=by
    unfold Sc.fst
    have e:c.cnt.getLast? = some lst.length:=by rw [hc];simp
    have eb:c.bnd.length=(xB :: ini.flatten).length + lst.length:=by
      rw [L.b]
      simp
      omega
    simp only [e]
    rw [if_neg (by omega),eb]
    omega
  refine ⟨?_,?_,?_,?_⟩
  · show c.bnd.take c.fst=_
    rw [hf,L.b]
    have:xB :: (ini ++ [lst]).flatten=(xB :: ini.flatten) ++ lst:=by simp
    rw [this,List.take_left]
    simp
  · show c.cnt.dropLast=_
    rw [hc]
    simp
  · intro m hm
    exact L.v m (by have : m ∈ ini := by simpa using hm
                    simp [this])
  · intro hne
    obtain ⟨r,e⟩:=L.h hl
    have hne:ini ≠ []:=by simpa using hne
    cases ini with
    | nil=>exact absurd rfl hne
    | cons x i =>
      rw [List.cons_append] at e
      obtain ⟨e1,e2⟩:=List.cons.inj e
      rw [e1]
      exact ⟨i,by rw [List.dropLast_concat]⟩
def dP (k:Nat):List (Bs × Bs):=if k=1 then [(bp,[119])] else if k=2 then [([],[117]),(bq,[117])] else if k=3 then [([],[])] else []
def oP:List (Bs × Bs):=[(bp,[117]),(bq,[118])]
theorem decl_go (k:Nat) (b:List (Bs × Bs)) (n:Nat):Mk.declareGo (bDecl k) b n=(b ++ dP k,n + (dP k).length,true):=by
  unfold bDecl dP
  split
  · rfl
  · split
    · show (b ++ [([],[117])] ++ [(bq,[117])],n + 1 + 1,true)=_
      simp
    · split
      · rfl
      · show (b,n,true)=(b ++ [],n + 0,true)
        simp
theorem outer_go (b:List (Bs × Bs)) (n:Nat):Mk.declareGo bOuter b n=(b ++ oP,n + oP.length,true):=by
  show (b ++ [(bp,[117])] ++ [(bq,[118])],n + 1 + 1,true)=_
  simp [oP]
theorem declareGo_app (m:List Att) (hm:∀ y ∈ m,Mk.isDecl y.name=false):∀ (l:List Att) (b:List (Bs × Bs)) (c:Nat),Mk.declareGo (l ++ m) b c=Mk.declareGo l b c
  | [],b,c=>declareGo_skip m b c hm
  | y :: r,b,c=>by
    cases h:Mk.isDecl y.name
    · rw [List.cons_append,dg_no h,dg_no h]
      exact declareGo_app m hm r b c
    · rw [List.cons_append,dg_yes h,dg_yes h]
      split
      · rfl
      · exact declareGo_app m hm r _ _
theorem atts_nodecl (k v1 v2:Nat):∀ y ∈ bAtts k v1 v2,Mk.isDecl y.name=false∧Mk.isQualified y.name=true:=by
  intro y hy
  unfold bAtts at hy
  rw [List.mem_append,List.mem_append] at hy
  rcases hy with (hy | hy) | hy
  all_goals
    split at hy
    · cases List.mem_singleton.1 hy
      exact ⟨by rfl,by rfl⟩
    · cases hy
theorem decl_decl (k:Nat):∀ y ∈ bDecl k,Mk.isDecl y.name=true∧Mk.isQualified y.name=true:=by
  intro y hy
  unfold bDecl at hy
  split at hy
  · cases List.mem_singleton.1 hy
    exact ⟨by rfl,by rfl⟩
  · split at hy
    · rcases List.mem_cons.1 hy with rfl | hy
      · exact ⟨by rfl,by rfl⟩
      · cases List.mem_singleton.1 hy
        exact ⟨by rfl,by rfl⟩
    · split at hy
      · cases List.mem_singleton.1 hy
        exact ⟨by rfl,by rfl⟩
      · cases hy
theorem outer_decl:∀ y ∈ bOuter,Mk.isDecl y.name=true∧Mk.isQualified y.name=true:=by
  intro y hy
  unfold bOuter at hy
  rcases List.mem_cons.1 hy with rfl | hy
  · exact ⟨by rfl,by rfl⟩
  · cases List.mem_singleton.1 hy
    exact ⟨by rfl,by rfl⟩
theorem res_atts (b:List (Bs × Bs)) (hp:Mk.valueOf b bp ≠ []) (hx:Mk.valueOf b Mk.wXml ≠ []) (k v1 v2:Nat):∃ l,Mk.resolveGo b (bAtts k v1 v2) []=some l:=by
  have b1:Mk.isBound b bp=true:=by unfold Mk.isBound;simp [hp]
  have b2:Mk.isBound b Mk.wXml=true:=by unfold Mk.isBound;simp [hx]
  have n1:Mk.isDecl (⟨nK,[],bVal v1⟩:Att).name=false:=by rfl
  have n2:Mk.isDecl (⟨nPK,[],bVal v2 ++ bVal v2⟩:Att).name=false:=by rfl
  have n3:Mk.isDecl (⟨nXL,[],[]⟩:Att).name=false:=by rfl
  have p1:Mk.prefixOf nK=[]:=by rfl
  have p2:Mk.prefixOf nPK=bp:=by rfl
  have p3:Mk.prefixOf nXL=Mk.wXml:=by rfl
  have q1:Mk.isBound b []=true:=by rfl
  have w1:Mk.withSpace b ⟨nK,[],bVal v1⟩=⟨nK,[],bVal v1⟩:=by rfl
  have w2:Mk.withSpace b ⟨nPK,[],bVal v2 ++ bVal v2⟩=⟨nPK,Mk.valueOf b bp,bVal v2 ++ bVal v2⟩:=by rfl
  have w3:Mk.withSpace b ⟨nXL,[],[]⟩=⟨nXL,Mk.valueOf b Mk.wXml,[]⟩:=by rfl
  have h2:Mk.hasLocal ([] ++ [⟨nK,[],bVal v1⟩]) ⟨nPK,Mk.valueOf b bp,bVal v2 ++ bVal v2⟩=false:=by
    unfold Mk.hasLocal
    simp
    intro e
    exact absurd e hp
  have h3:Mk.hasLocal ([] ++ [⟨nK,[],bVal v1⟩] ++ [⟨nPK,Mk.valueOf b bp,bVal v2 ++ bVal v2⟩]) ⟨nXL,Mk.valueOf b Mk.wXml,[]⟩=false:=by
    have l1:Mk.localOf nK=[107]:=by rfl
    have l2:Mk.localOf nPK=[107]:=by rfl
    have l3:Mk.localOf nXL=[108]:=by rfl
    unfold Mk.hasLocal
    simp [l1,l2,l3]
  have s1:∀ r,Mk.resolveGo b (⟨nK,[],bVal v1⟩ :: r) []=Mk.resolveGo b r ([] ++ [⟨nK,[],bVal v1⟩]):=fun r=>by
    rw [rg_no n1,w1]
    show (if !Mk.isBound b (Mk.prefixOf nK) || false then _ else _)=_
    rw [p1,q1]
    rfl
  have s2:∀ r,Mk.resolveGo b (⟨nPK,[],bVal v2 ++ bVal v2⟩ :: r) ([] ++ [⟨nK,[],bVal v1⟩])=Mk.resolveGo b r ([] ++ [⟨nK,[],bVal v1⟩] ++ [⟨nPK,Mk.valueOf b bp,bVal v2 ++ bVal v2⟩]):=fun r=>by
    rw [rg_no n2,w2,h2]
    show (if !Mk.isBound b (Mk.prefixOf nPK) || false then _ else _)=_
    rw [p2,b1]
    rfl
  have s3:Mk.resolveGo b [⟨nXL,[],[]⟩] ([] ++ [⟨nK,[],bVal v1⟩] ++ [⟨nPK,Mk.valueOf b bp,bVal v2 ++ bVal v2⟩])=some ([] ++ [⟨nK,[],bVal v1⟩] ++ [⟨nPK,Mk.valueOf b bp,bVal v2 ++ bVal v2⟩] ++ [⟨nXL,Mk.valueOf b Mk.wXml,[]⟩]):=by
    rw [rg_no n3,w3,h3]
    show (if !Mk.isBound b (Mk.prefixOf nXL) || false then _ else _)=_
    rw [p3,b2]
    rfl
  unfold bAtts
  by_cases k0:0<k
  · by_cases k1:1<k
    · by_cases k2:2<k
      · rw [if_pos k0,if_pos k1,if_pos k2]
        show ∃ l,Mk.resolveGo b (_ :: (_ :: [_])) []=some l
        rw [s1,s2,s3]
        exact ⟨_,rfl⟩
      · rw [if_pos k0,if_pos k1,if_neg k2]
        show ∃ l,Mk.resolveGo b (_ :: (_ :: [])) []=some l
        rw [s1,s2]
        exact ⟨_,rfl⟩
    · rw [if_pos k0,if_neg k1,if_neg (by omega)]
      show ∃ l,Mk.resolveGo b (_ :: []) []=some l
      rw [s1]
      exact ⟨_,rfl⟩
  · rw [if_neg k0,if_neg (by omega),if_neg (by omega)]
    exact ⟨_,rfl⟩
theorem tag_pre (k:Nat) (h:k<6):Mk.isQualified (bTags.getD k [])=true∧(Mk.prefixOf (bTags.getD k [])=[]∨Mk.prefixOf (bTags.getD k [])=bp∨Mk.prefixOf (bTags.getD k [])=bq):=by
  have:k=0∨k=1∨k=2∨k=3∨k=4∨k=5:=by omega
  rcases this with rfl | rfl | rfl | rfl | rfl | rfl
  · exact ⟨by rfl,.inl (by rfl)⟩
  · exact ⟨by rfl,.inl (by rfl)⟩
  · exact ⟨by rfl,.inl (by rfl)⟩
  · exact ⟨by rfl,.inr (.inl (by rfl))⟩
  · exact ⟨by rfl,.inr (.inr (by rfl))⟩
  · exact ⟨by rfl,.inl (by rfl)⟩
theorem kStart_lv {c:Sc} {lv:List (List (Bs × Bs))} (L:Lvs c lv) (k:Nat) (hk:k<6) (ds:List Att) (ps:List (Bs × Bs)) (hds:∀ y ∈ ds,Mk.isDecl y.name=true∧Mk.isQualified y.name=true) (hgo:∀ b n,Mk.declareGo ds b n=(b ++ ps,n + ps.length,true)) (hps:∀ y ∈ ps,y.1=[]∨y.2 ≠ []) (hlv:lv=[]→ps=oP) (j v1 v2:Nat) :
    ∃ c' m,kOne c ⟨1,bTags.getD k [],[],[],ds ++ bAtts j v1 v2⟩=some (c', m)∧Lvs c' (lv ++ [ps]):=by
  have hna:∀ y ∈ bAtts j v1 v2,Mk.isDecl y.name=false:=fun y hy=>(atts_nodecl j v1 v2 y hy).1
  have e1:Mk.declareGo (ds ++ bAtts j v1 v2) c.bnd 0=(c.bnd ++ ps,ps.length,true):=by
    rw [declareGo_app _ hna,hgo,Nat.zero_add]
  have L2:Lvs ⟨c.bnd ++ ps,c.cnt ++ [ps.length]⟩ (lv ++ [ps]):=by
    refine ⟨?_,?_,?_,?_⟩
    · show c.bnd ++ ps=_
      rw [L.b];simp
    · show c.cnt ++ [ps.length]=_
      rw [L.n];simp
    · intro m hm
      rcases List.mem_append.1 hm with hm | hm
      · exact L.v m hm
      · rw [List.mem_singleton.1 hm];exact hps
    · intro _
      cases lv with
      | nil=>rw [hlv rfl];exact ⟨[],rfl⟩
      | cons x i =>
        obtain ⟨r,e⟩:=L.h (by simp)
        rw [e]
        exact ⟨r ++ [ps],rfl⟩
  have hne:lv ++ [ps] ≠ []:=by simp
  obtain ⟨vp,bpB⟩:=L2.bound hne bp (.inl rfl)
  obtain ⟨vq,bqB⟩:=L2.bound hne bq (.inr (.inl rfl))
  obtain ⟨vx,bxB⟩:=L2.bound hne Mk.wXml (.inr (.inr rfl))
  obtain ⟨l,hl⟩:=res_atts (c.bnd ++ ps) vp vx j v1 v2
  obtain ⟨t1,t2⟩:=tag_pre k hk
  have hq:Mk.areQualified (bTags.getD k []) (ds ++ bAtts j v1 v2)=true:=by
    unfold Mk.areQualified
    rw [t1,Bool.and_true,List.all_eq_true]
    intro y hy
    rcases List.mem_append.1 hy with hy | hy
    · exact (hds y hy).2
    · exact (atts_nodecl j v1 v2 y hy).2
  have hb:Mk.isBound (c.bnd ++ ps) (Mk.prefixOf (bTags.getD k []))=true:=by
    rcases t2 with e | e | e
    · rw [e];rfl
    · rw [e];exact bpB
    · rw [e];exact bqB
  have hr:Mk.resolveGo (c.bnd ++ ps) (ds ++ bAtts j v1 v2) []=some l:=by
    rw [resolveGo_skip _ _ _ _ (fun y hy=>(hds y hy).1)];exact hl
  have hks:kStart c (bTags.getD k []) (ds ++ bAtts j v1 v2)=some (⟨c.bnd ++ ps,c.cnt ++ [ps.length]⟩,l):=by
    unfold kStart
    rw [hq,e1]
    simp only [Bool.not_true,hb,hr]
    rfl
  refine ⟨_,kTold ⟨c.bnd ++ ps,c.cnt ++ [ps.length]⟩ (bTags.getD k []) l,?_,L2⟩
  show (match kStart c (bTags.getD k []) (ds ++ bAtts j v1 v2) with | none=>none | some (c', l)=>some (c', kTold c' (bTags.getD k []) l))=_
  rw [hks]
structure BOk (s:Bld) (ov:Bool) (c:Sc) (E:List Ev) (lv:List (List (Bs × Bs))):Prop where
  g:BGood s ov
  k:KR s.l c E
  ls:Lvs c lv
  n:lv.length=s.o.length
def BIs (s:Bld) (ov:Bool):Prop := ∃ c E lv,BOk s ov c E lv
theorem BIs.aside {code:Bs} {s:Bld} {ov:Bool} (h:BIs s ov):BIs (bAside code s) ov:=by
  obtain ⟨c,E,lv,h⟩:=h
  have hg:=h.g.aside (code:=code)
  unfold bAside at hg ⊢
  split
  · rename_i q
    rw [if_pos q] at hg
    exact ⟨c,_,lv,hg,h.k.more rfl,h.ls,h.n⟩
  · rename_i q
    rw [if_neg q] at hg
    have hc:=(tgt_ok (bN code (bA code s.at_) 4) (bN_lt _ _ _ (by decide))).2.2
    refine ⟨c,_,lv,hg,h.k.more (c' := c) (x:=[⟨5,bTgt.getD (bN code (bA code s.at_) 4) [],[],bDat (bN code (bA code (bA code s.at_)) 7),[]⟩]) ?_,h.ls,h.n⟩
    show (if Mk.hasColon (bTgt.getD (bN code (bA code s.at_) 4) []) then none else _)=_
    rw [hc]
    rfl
theorem dP_ok (k:Nat):∀ y ∈ dP k,y.1=[]∨y.2 ≠ []:=by
  intro y hy
  unfold dP at hy
  split at hy
  · cases List.mem_singleton.1 hy;exact .inr (by simp)
  · split at hy
    · rcases List.mem_cons.1 hy with rfl | hy
      · exact .inl rfl
      · cases List.mem_singleton.1 hy;exact .inr (by simp)
    · split at hy
      · cases List.mem_singleton.1 hy;exact .inl rfl
      · cases hy
theorem BIs.start {code:Bs} {s:Bld} (h:BIs s false) (ho:s.o.length<64):BIs (bStart code s) false:=by
  obtain ⟨c,E,lv,h⟩:=h
  have hg:=h.g.start (code:=code) ho
  unfold bStart at hg ⊢
  dsimp only at hg ⊢
  split
  · rename_i q
    rw [if_pos q] at hg
    have hlv:lv=[]:=List.length_eq_zero_iff.1 (h.n.trans q)
    obtain ⟨c', m,hk,L⟩:=kStart_lv h.ls _ (bN_lt code s.at_ 6 (by decide)) bOuter oP outer_decl outer_go (by unfold oP;intro y hy;rcases List.mem_cons.1 hy with rfl | hy;exact .inr (by simp);cases List.mem_singleton.1 hy;exact .inr (by simp)) (fun _=>rfl) (bN code (bA code s.at_) 4) (bN code (bA code (bA code s.at_)) 10) (bN code (bA code (bA code (bA code s.at_))) 10)
    exact ⟨c', _,_,hg,h.k.more hk,L,by simp [h.n]⟩
  · rename_i q
    rw [if_neg q] at hg
    have hlv:lv ≠ []:=fun e=>q (by rw [← h.n,e];rfl)
    obtain ⟨c', m,hk,L⟩:=kStart_lv h.ls _ (bN_lt code s.at_ 6 (by decide)) (bDecl (bN code (bA code s.at_) 6)) (dP (bN code (bA code s.at_) 6)) (decl_decl _) (decl_go _) (dP_ok _) (fun e=>absurd e hlv) (bN code (bA code (bA code s.at_)) 4) (bN code (bA code (bA code (bA code s.at_))) 10) (bN code (bA code (bA code (bA code (bA code s.at_)))) 10)
    exact ⟨c', _,_,hg,h.k.more hk,L,by simp [h.n]⟩
theorem BIs.fin {s:Bld} {ov:Bool} (h:BIs s ov) (ho:s.o ≠ []):BIs (bEnd s) (decide (s.o.dropLast.length=0)):=by
  obtain ⟨c,E,lv,h⟩:=h
  have hlv:lv ≠ []:=fun e=>ho (List.length_eq_zero_iff.1 (by rw [← h.n,e];rfl))
  refine ⟨kLeft c,_,lv.dropLast,h.g.fin ho,h.k.more (c' := kLeft c) (x:=kEnd c (s.o.getLastD [])) ?_,kLeft_lv h.ls hlv,?_⟩
  · show (if c.cnt=[] then none else some (kLeft c,kEnd c (s.o.getLastD [])))=_
    rw [if_neg]
    intro e
    rw [h.ls.n] at e
    exact hlv (List.map_eq_nil_iff.1 e)
  · show lv.dropLast.length=s.o.dropLast.length
    simp [h.n]
theorem BIs.at {s:Bld} {ov:Bool} (h:BIs s ov) (a:Nat):BIs ⟨a,s.l,s.o⟩ ov:=by
  obtain ⟨c,E,lv,h⟩:=h
  exact ⟨c,E,lv,⟨h.g.g,h.g.nm⟩,h.k,h.ls,h.n⟩
theorem bStart_o (code:Bs) (s:Bld):(bStart code s).o.length=s.o.length + 1:=by
  unfold bStart
  dsimp only
  split <;> simp
theorem BIs.step {code:Bs} {s:Bld} (h:BIs s false) (h1:1≤s.o.length) (h2:s.o.length≤9):BIs (bStep code s) false∧1≤(bStep code s).o.length∧(bStep code s).o.length≤9:=by
  have h' := h.at (bA code s.at_)
  unfold bStep
  dsimp only
  split
  · rename_i q
    exact ⟨h'.start (by show s.o.length<64;omega),by rw [bStart_o];show 1≤s.o.length + 1;omega,by rw [bStart_o];show s.o.length + 1≤9;omega⟩
  · split
    · rename_i _ q
      have hn:s.o ≠ []:=fun e=>by rw [e] at h1;cases h1
      have:=h'.fin hn
      have e:decide (s.o.dropLast.length=0)=false:=by simp;omega
      rw [e] at this
      exact ⟨this,by show 1≤s.o.dropLast.length;simp;omega,by show s.o.dropLast.length≤9;simp;omega⟩
    · split
      · refine ⟨h'.aside,?_,?_⟩
        · unfold bAside;split <;> exact h1
        · unfold bAside;split <;> exact h2
      · split
        · rename_i _ _ _ q
          obtain ⟨c,E,lv,h'⟩:=h'
          refine ⟨⟨c,_,lv,⟨h'.g.g.snoc (.txt _ (fun e=>by have e:s.o=[]:=e;rw [e] at h1;cases h1) (ptL_last s.l q.2) ?_ (txt_good (bN_lt _ _ _ (by decide)) (bN_lt _ _ _ (by decide)))),h'.g.nm⟩,h'.k.more rfl,h'.ls,h'.n⟩,h1,h2⟩
          intro e
          exact val_nil _ (bN_lt code _ 10 (by decide)) (List.append_eq_nil_iff.1 e).1
        · exact ⟨h', h1,h2⟩
theorem BIs.loop {code:Bs}:∀ (n:Nat) {s:Bld},BIs s false→1≤s.o.length→s.o.length≤9→BIs (bLoop code n s) false∧1≤(bLoop code n s).o.length∧(bLoop code n s).o.length≤9
  | 0,s,h,h1,h2=>⟨h,h1,h2⟩
  | n + 1,s,h,h1,h2=>by
    unfold bLoop
    split
    · obtain ⟨g,g1,g2⟩:=h.step (code:=code) h1 h2
      exact BIs.loop n g g1 g2
    · exact ⟨h,h1,h2⟩
theorem BIs.asides {code:Bs}:∀ (n:Nat) {s:Bld} {ov:Bool},BIs s ov→BIs (bAsides code n s) ov∧(bAsides code n s).o=s.o
  | 0,s,ov,h=>⟨h,rfl⟩
  | n + 1,s,ov,h=>by
    have g:=BIs.asides (code:=code) n (h.aside (code:=code))
    refine ⟨g.1,g.2.trans ?_⟩
    unfold bAside
    split <;> rfl
theorem bis_zero (a:Nat):BIs ⟨a,[],[]⟩ false:=
  ⟨Sc.zero,[],[],⟨⟨.nil _ _ _,fun n hn=>by cases hn⟩,rfl,⟨rfl,rfl,fun m hm=>(by cases hm),fun e=>absurd rfl e⟩,rfl⟩⟩
theorem bis_open (code:Bs):BIs (bOpen code) false∧1≤(bOpen code).o.length∧(bOpen code).o.length≤9:=by
  unfold bOpen
  dsimp only
  obtain ⟨g,e⟩:=BIs.asides (code:=code) (bN code 0 3) (bis_zero (bA code 0))
  have e:(bAsides code (bN code 0 3) ⟨bA code 0,[],[]⟩).o=[]:=e
  refine BIs.loop _ (g.start (by rw [e];decide)) ?_ ?_
  · rw [bStart_o];omega
  · rw [bStart_o,e];decide
theorem bis_ends:∀ (n:Nat) {s:Bld} {ov:Bool},BIs s ov→s.o.length=n→(n=0→ov=true)→BIs (bEnds n s) true∧(bEnds n s).o=[]
  | 0,s,ov,h,hn,hov=>by
    rw [hov rfl] at h
    exact ⟨h,List.length_eq_zero_iff.1 hn⟩
  | n + 1,s,ov,h,hn,_=>by
    have ho:s.o ≠ []:=fun e=>by rw [e] at hn;cases hn
    have g:=h.fin ho
    have hl:(bEnd s).o.length=n:=by show s.o.dropLast.length=n;simp;omega
    refine bis_ends n g hl (fun e => ?_)
    have:s.o.dropLast.length=0:=by simp;omega
    simp [this]
theorem bis_all (code:Bs):BIs (bAll code) true∧(bAll code).o=[]:=by
  unfold bAll
  dsimp only
  obtain ⟨g,g1,_⟩:=bis_open code
  obtain ⟨e,e2⟩:=bis_ends _ g rfl (fun k=>by omega)
  refine ⟨e.aside,?_⟩
  unfold bAside
  split <;> exact e2
theorem bEnds_back:∀ (n:Nat) (s:Bld),bEnds (n + 1) s=bEnd (bEnds n s)
  | 0,s=>rfl
  | n + 1,s=>bEnds_back n (bEnd s)
theorem bis_ends1:∀ (n:Nat) {s:Bld},BIs s false→s.o.length=n + 1→BIs (bEnds n s) false∧(bEnds n s).o.length=1
  | 0,s,h,hn=>⟨h,hn⟩
  | n + 1,s,h,hn=>by
    have ho:s.o ≠ []:=fun e=>by rw [e] at hn;cases hn
    have g:=h.fin ho
    have hl:s.o.dropLast.length=n + 1:=by simp;omega
    rw [show decide (s.o.dropLast.length=0)=false by rw [hl];rfl] at g
    exact bis_ends1 n g hl
theorem built_parts (code:Bs):∃ s1 n a,BIs s1 false∧s1.o=[n]∧(bAll code).l=s1.l ++ [⟨2,n,[],[],[]⟩,a]∧(a.kind=4∨a.kind=5):=by
  obtain ⟨g,g1,_⟩:=bis_open code
  obtain ⟨m,hm⟩:∃ m,(bOpen code).o.length=m + 1:=⟨(bOpen code).o.length - 1,by omega⟩
  obtain ⟨h1,h2⟩:=bis_ends1 m g hm
  generalize hs1:bEnds m (bOpen code)=s1 at h1 h2
  obtain ⟨n,hn⟩:∃ n,s1.o=[n]:=by
    cases hc:s1.o with
    | nil=>rw [hc] at h2;cases h2
    | cons x r =>
      cases r with
      | nil=>exact ⟨x,rfl⟩
      | cons y r=>rw [hc] at h2;cases h2
  have e:(bAll code).l=(bAside code (bEnd s1)).l:=by
    show (bAside code (bEnds (bOpen code).o.length (bOpen code))).l=_
    rw [hm,bEnds_back,hs1]
  have e2:(bEnd s1).l=s1.l ++ [⟨2,n,[],[],[]⟩]:=by show s1.l ++ [⟨2,s1.o.getLastD [],[],[],[]⟩]=_;rw [hn];rfl
  unfold bAside at e
  split at e
  · exact ⟨s1,n,_,h1,hn,by rw [e,e2];simp;rfl,.inl rfl⟩
  · exact ⟨s1,n,_,h1,hn,by rw [e,e2];simp;rfl,.inr rfl⟩
theorem either_len (b:UInt8) (r:Bs) (h:r.length≤6):(either b r).length≤6:=by
  unfold either
  split
  · simp
  · exact h
theorem refT_len (b:UInt8):(refT b).length≤6:=by
  unfold refT
  (repeat' split) <;> simp
theorem refV_len (b:UInt8):(refV b).length≤6:=by
  unfold refV
  (repeat' split) <;> first | exact refT_len b | simp
theorem wText_len (v:Bs):(wText v).length≤6 * v.length:=by
  induction v with
  | nil=>simp [wText]
  | cons x r ih =>
    have e:wText (x :: r)=either x (refT x) ++ wText r:=rfl
    have:=either_len x (refT x) (refT_len x)
    rw [e,List.length_append,List.length_cons]
    omega
theorem wVal_len (v:Bs):(wVal v).length≤6 * v.length:=by
  induction v with
  | nil=>simp [wVal]
  | cons x r ih =>
    have e:wVal (x :: r)=either x (refV x) ++ wVal r:=rfl
    have:=either_len x (refV x) (refV_len x)
    rw [e,List.length_append,List.length_cons]
    omega
def attSz:List Att→Nat
  | []=>0
  | y :: r=>(4 + y.name.length + 6 * y.val.length) + attSz r
def evSz (e:Ev):Nat:=8 + e.name.length + 6 * e.val.length + attSz e.attrs
theorem attSz_app (l m:List Att):attSz (l ++ m)=attSz l + attSz m:=by
  induction l with
  | nil=>simp [attSz]
  | cons y r ih=>simp only [List.cons_append,attSz,ih];omega
theorem wAtts_len (l:List Att):(wAtts l).length≤attSz l:=by
  induction l with
  | nil=>simp [wAtts,attSz]
  | cons y r ih =>
    have e:wAtts (y :: r)=wAttr y.name y.val ++ wAtts r:=rfl
    have h1:(wAttr y.name y.val).length≤4 + y.name.length + 6 * y.val.length:=by
      have:=wVal_len y.val
      unfold wAttr
      simp
      omega
    rw [e,List.length_append]
    unfold attSz
    omega
theorem wEv_len (e:Ev):(wEv e).length≤evSz e:=by
  unfold wEv wStart wOther evSz
  have h1:=wAtts_len e.attrs
  have h2:=wText_len e.val
  unfold wAtts at h1
  (repeat' split) <;> (try simp only [List.length_append,List.length_cons,List.length_nil,List.flatMap_nil,List.nil_append]) <;> omega
theorem normE_sz (e:Ev):evSz (normE e)=evSz e:=by
  unfold normE
  split
  · unfold evSz
    show 8 + e.name.length + 6 * e.val.length + attSz (normA e.attrs)=_
    have key:∀ {l m:List Att},l.Perm m→attSz l=attSz m:=by
      intro l m h
      induction h with
      | nil=>rfl
      | cons x _ ih=>simp only [attSz,ih]
      | swap x y l=>simp only [attSz];omega
      | trans _ _ h1 h2=>exact h1.trans h2
    rw [key (normA_perm e.attrs)]
  · rfl
def sumSz (l:List Ev):Nat:=(l.map evSz).sum
theorem wl_len (l:List Ev):(l.flatMap wEv).length≤sumSz l:=by
  induction l with
  | nil=>simp [sumSz]
  | cons e r ih =>
    have:=wEv_len e
    rw [List.flatMap_cons,List.length_append]
    unfold sumSz at *
    rw [List.map_cons,List.sum_cons]
    omega
theorem norm_len (l:List Ev):((l.map normE).flatMap wEv).length≤sumSz l:=by
  have:=wl_len (l.map normE)
  have e:sumSz (l.map normE)=sumSz l:=by
    unfold sumSz
    rw [List.map_map]
    congr 1
    exact List.map_congr_left fun e _=>normE_sz e
  omega
theorem sumSz_app (l m:List Ev):sumSz (l ++ m)=sumSz l + sumSz m:=by unfold sumSz;rw [List.map_append,List.sum_append]
theorem bVal_len (k:Nat):(bVal k).length≤20:=by
  by_cases h:k<10
  · have key:∀ k<10,(bVal k).length≤20:=by decide
    exact key k h
  · have:bValC.getD k []=[]:=by
      rw [List.getD_eq_getElem?_getD,List.getElem?_eq_none (by show 10≤k;omega)];rfl
    unfold bVal
    rw [this]
    simp
theorem bAtts_sz (k v1 v2:Nat):attSz (bAtts k v1 v2)≤500:=by
  have h1:=bVal_len v1
  have h2:=bVal_len v2
  unfold bAtts
  rw [attSz_app,attSz_app]
  have e1:attSz (if 0<k then [⟨nK,[],bVal v1⟩] else [])≤4 + 1 + 6 * 20:=by
    split
    · show (4 + 1 + 6 * (bVal v1).length) + 0≤_
      omega
    · simp [attSz]
  have e2:attSz (if 1<k then [⟨nPK,[],bVal v2 ++ bVal v2⟩] else [])≤4 + 3 + 6 * 40:=by
    split
    · show (4 + 3 + 6 * (bVal v2 ++ bVal v2).length) + 0≤_
      rw [List.length_append]
      omega
    · simp [attSz]
  have e3:attSz (if 2<k then [⟨nXL,[],[]⟩] else [])≤4 + 5:=by
    split
    · show (4 + 5 + 6 * 0) + 0≤_
      omega
    · simp [attSz]
  omega
theorem tag_len (k:Nat) (h:k<6):(bTags.getD k []).length≤5:=by
  have key:∀ k<6,(bTags.getD k []).length≤5:=by decide
  exact key k h
theorem tgt_len (k:Nat) (h:k<4):(bTgt.getD k []).length≤5:=by
  have key:∀ k<4,(bTgt.getD k []).length≤5:=by decide
  exact key k h
theorem com_len (k:Nat) (h:k<7):(bCom k).length≤10:=by
  have key:∀ k<7,(bCom k).length≤10:=by decide
  exact key k h
theorem dat_len (k:Nat) (h:k<7):(bDat k).length≤10:=by
  have key:∀ k<7,(bDat k).length≤10:=by decide
  exact key k h
structure BSz (s:Bld) (n:Nat):Prop where
  l:s.l.length≤n
  z:sumSz s.l≤700 * n
  o:∀ m ∈ s.o,m.length≤5
theorem BSz.more {s:Bld} {n:Nat} (h:BSz s n) {e:Ev} (he:evSz e≤700) (a:Nat) (o:List Bs) (ho:∀ m ∈ o,m.length≤5):BSz ⟨a,s.l ++ [e],o⟩ (n + 1):=by
  refine ⟨by show (s.l ++ [e]).length≤_;have:=h.l;simp;omega,?_,ho⟩
  show sumSz (s.l ++ [e])≤_
  rw [sumSz_app]
  have:=h.z
  have e1:sumSz [e]=evSz e:=by simp [sumSz]
  omega
theorem BSz.aside {code:Bs} {s:Bld} {n:Nat} (h:BSz s n):BSz (bAside code s) (n + 1):=by
  unfold bAside
  split
  · refine h.more ?_ _ _ h.o
    have:=com_len (bN code (bA code s.at_) 7) (bN_lt _ _ _ (by decide))
    show 8 + 0 + 6 * (bCom _).length + 0≤700
    omega
  · refine h.more ?_ _ _ h.o
    have:=dat_len (bN code (bA code (bA code s.at_)) 7) (bN_lt _ _ _ (by decide))
    have:=tgt_len (bN code (bA code s.at_) 4) (bN_lt _ _ _ (by decide))
    show 8 + (bTgt.getD _ []).length + 6 * (bDat _).length + 0≤700
    omega
theorem decl_sz:∀ k<6,attSz (bDecl k)≤60:=by decide
theorem BSz.start {code:Bs} {s:Bld} {n:Nat} (h:BSz s n):BSz (bStart code s) (n + 1):=by
  have ht:=tag_len (bN code s.at_ 6) (bN_lt _ _ _ (by decide))
  have ho:∀ m ∈ s.o ++ [bTags.getD (bN code s.at_ 6) []],m.length≤5:=fun m hm=>by
    rcases List.mem_append.1 hm with q | q
    · exact h.o m q
    · rw [List.mem_singleton.1 q];exact ht
  unfold bStart
  dsimp only
  split
  · refine h.more ?_ _ _ ho
    have:=bAtts_sz (bN code (bA code s.at_) 4) (bN code (bA code (bA code s.at_)) 10) (bN code (bA code (bA code (bA code s.at_))) 10)
    show 8 + (bTags.getD _ []).length + 6 * 0 + attSz (bOuter ++ bRestA code _)≤700
    rw [attSz_app]
    have e:attSz bOuter≤60:=by decide
    unfold bRestA
    omega
  · refine h.more ?_ _ _ ho
    have:=bAtts_sz (bN code (bA code (bA code s.at_)) 4) (bN code (bA code (bA code (bA code s.at_))) 10) (bN code (bA code (bA code (bA code (bA code s.at_)))) 10)
    show 8 + (bTags.getD _ []).length + 6 * 0 + attSz (bDecl _ ++ bRestA code _)≤700
    rw [attSz_app]
    have e:=decl_sz (bN code (bA code s.at_) 6) (bN_lt _ _ _ (by decide))
    unfold bRestA
    omega
theorem BSz.fin {s:Bld} {n:Nat} (h:BSz s n):BSz (bEnd s) (n + 1):=by
  refine h.more ?_ _ _ (fun m hm=>h.o m (List.dropLast_subset _ hm))
  show 8 + (s.o.getLastD []).length + 6 * 0 + 0≤700
  have:(s.o.getLastD []).length≤5:=by
    cases hc:s.o with
    | nil=>simp
    | cons x r =>
      rw [← hc]
      refine h.o _ ?_
      rw [List.getLastD_eq_getLast?,List.getLast?_eq_some_getLast (by rw [hc];simp)]
      exact List.getLast_mem _
  omega
theorem BSz.mono {s:Bld} {n m:Nat} (h:BSz s n) (hm:n≤m):BSz s m:=⟨by have:=h.l;omega,by have:=h.z;omega,h.o⟩
theorem BSz.step {code:Bs} {s:Bld} {n:Nat} (h:BSz s n):BSz (bStep code s) (n + 1):=by
  have h' : BSz ⟨bA code s.at_,s.l,s.o⟩ n:=⟨h.l,h.z,h.o⟩
  unfold bStep
  dsimp only
  split
  · exact h'.start
  · split
    · exact h'.fin
    · split
      · exact h'.aside
      · split
        · refine h'.more ?_ _ _ h.o
          have h1:=bVal_len (bN code (bA code s.at_) 10)
          have h2:=bVal_len (bN code (bA code (bA code s.at_)) 10)
          show 8 + 0 + 6 * (bVal _ ++ bVal _).length + 0≤700
          rw [List.length_append]
          omega
        · exact h'.mono (by omega)
theorem BSz.loop {code:Bs}:∀ (k:Nat) {s:Bld} {n:Nat},BSz s n→BSz (bLoop code k s) (n + k)
  | 0,s,n,h=>h
  | k + 1,s,n,h=>by
    unfold bLoop
    split
    · exact (BSz.loop k (h.step (code:=code))).mono (by omega)
    · exact h.mono (by omega)
theorem BSz.asides {code:Bs}:∀ (k:Nat) {s:Bld} {n:Nat},BSz s n→BSz (bAsides code k s) (n + k)
  | 0,s,n,h=>h
  | k + 1,s,n,h=>(BSz.asides k (h.aside (code:=code))).mono (by omega)
theorem BSz.ends:∀ (k:Nat) {s:Bld} {n:Nat},BSz s n→BSz (bEnds k s) (n + k)
  | 0,s,n,h=>h
  | k + 1,s,n,h=>(BSz.ends k h.fin).mono (by omega)
theorem built_sz (code:Bs) (hc:code.length≤200):(bAll code).l.length≤214∧sumSz (bAll code).l≤149800:=by
  have h0:BSz ⟨bA code 0,[],[]⟩ 0:=⟨Nat.le_refl _,Nat.le_refl _,fun m hm=>by cases hm⟩
  have hb:=bN_lt code 0 3 (by decide)
  have h1:=((BSz.asides (code:=code) (bN code 0 3) h0).start (code:=code))
  have h2:=BSz.loop (code:=code) code.length h1
  have ho:=(bis_open code).2.2
  have h3:=(BSz.ends (bOpen code).o.length h2).aside (code:=code)
  have h4:BSz (bAll code) 214:=h3.mono (by omega)
  exact ⟨h4.l,by have:=h4.z;omega⟩
end Go.Proofs.YtmgfijllcdadgabGreatDoor
