/- Blt4, BndA, BuG, BuH -/
import Derived.Test.YtmgfijllcdadgabGreatDoorPCWr5
import Derived.Test.YtmgfijllcdadgabGreatDoorPCBuE
import Derived.Test.YtmgfijllcdadgabGreatDoorPCWrong
import Derived.Test.YtmgfijllcdadgabGreatDoorPCSkG
import Derived.Test.YtmgfijllcdadgabGreatDoorPCSkJ
set_option linter.unusedVariables false
set_option linter.unusedSimpArgs false
namespace Go.Proofs.YtmgfijllcdadgabGreatDoor
open Mk (St Bs Ev Att)
theorem wGo_plain {d a t:Int} {o o1:List Bs} {ov ov1 pt:Bool} {l:List Ev} (h:GoodL d a t o ov pt l o1 ov1):wGo [] l=l.flatMap wEv:=by
  induction h with
  | nil o ov pt=>rfl
  | @cons o o1 o2 ov ov1 ov2 pt e l he r ih =>
    rw [List.flatMap_cons, ← ih]
    cases he with
    | start n ats h1 h2 h3 h4 h5 h6=>rfl
    | fin o' n h1 h2=>rfl
    | txt val h1 h2 h3 h4=>rfl
    | comm val h1=>rfl
    | pi n val h1 h2 h3=>rfl
def SmX (K:Nat) (x:Ev):Prop:=x.name.length≤K∧x.val.length≤K∧x.attrs.length≤K∧∀ y ∈ x.attrs,y.name.length≤K∧y.val.length≤K
theorem attSz_ge:∀ (l:List Att),l.length≤attSz l∧∀ y ∈ l,y.name.length≤attSz l∧y.val.length≤attSz l
  | []=>⟨Nat.le_refl _,fun y hy=>by cases hy⟩
  | x :: r=>by
    have h:=attSz_ge r
    refine ⟨by unfold attSz;rw [List.length_cons];omega,fun y hy => ?_⟩
    unfold attSz
    rcases List.mem_cons.1 hy with rfl | hy
    · exact ⟨by omega,by omega⟩
    · have:=h.2 y hy
      exact ⟨by omega,by omega⟩
theorem evSz_small {K:Nat} {x:Ev} (h:evSz x≤K):SmX K x:=by
  unfold evSz at h
  have q:=attSz_ge x.attrs
  exact ⟨by omega,by omega,by omega,fun y hy=>by have:=q.2 y hy;exact ⟨by omega,by omega⟩⟩
theorem sum_ge {l:List Ev} {x:Ev} (hx:x ∈ l):evSz x≤sumSz l:=by
  induction l with
  | nil=>cases hx
  | cons y r ih =>
    have e:sumSz (y :: r)=evSz y + sumSz r:=by simp [sumSz]
    rw [e]
    rcases List.mem_cons.1 hx with rfl | hx
    · omega
    · have:=ih hx;omega
def totA (l:List Ev):Nat:=(l.map fun x=>x.attrs.length).sum
def SmB (K:Nat) (b:List (Bs × Bs)):Prop := ∀ y ∈ b,y.1.length≤K∧y.2.length≤K
theorem declared_len (n:Bs):(Mk.declared n).length≤n.length:=by
  unfold Mk.declared Mk.localOf
  (repeat' split) <;> simp
theorem decls_small {K:Nat} {ats:List Att} (h:∀ y ∈ ats,y.name.length≤K∧y.val.length≤K):SmB K (decls ats)∧(decls ats).length≤ats.length:=by
  refine ⟨fun y hy => ?_,by unfold decls;rw [List.length_map];exact List.length_filter_le _ _⟩
  unfold decls at hy
  obtain ⟨x,hx,rfl⟩:=List.mem_map.1 hy
  have:=h x (List.mem_filter.1 hx).1
  exact ⟨Nat.le_trans (declared_len _) this.1,this.2⟩
theorem kOne_small {K:Nat} {c c' : Sc} {e:Ev} {m:List Ev} (h:kOne c e=some (c', m)) (he:SmX K e) (hb:SmB K c.bnd):(∀ x ∈ m,SmX K x)∧SmB K c'.bnd∧m.length + c'.bnd.length≤c.bnd.length + 1 + 2 * e.attrs.length:=by
  unfold kOne at h
  split at h
  · cases hs:kStart c e.name e.attrs with
    | none=>rw [hs] at h;cases h
    | some p =>
      obtain ⟨c2,l⟩:=p
      rw [hs] at h
      cases h
      unfold kStart at hs
      split at hs
      · cases hs
      · split at hs
        · cases hs
        · rename_i hdg
          split at hs
          · cases hs
          · cases hr:Mk.resolveGo (Mk.declareGo e.attrs c.bnd 0).1 e.attrs [] with
            | none=>rw [hr] at hs;cases hs
            | some l2 =>
              rw [hr] at hs
              cases hs
              obtain ⟨d1,d2⟩:=declareGo_ok e.attrs c.bnd 0 (by simpa using hdg)
              have htag:Sc.tag ⟨(Mk.declareGo e.attrs c.bnd 0).1,c.cnt ++ [(Mk.declareGo e.attrs c.bnd 0).2.1]⟩=decls e.attrs:=by
                rw [d1,d2,Nat.zero_add];exact tag_new c _
              have hrk:=resolveGo_ok _ e.attrs [] l hr
              obtain ⟨q1,q2⟩:=decls_small he.2.2.2
              have hll:l.length≤e.attrs.length:=by
                have:=congrArg List.length hrk
                simp only [List.length_map,List.map_nil,List.nil_append] at this
                rw [this];exact List.length_filter_le _ _
              refine ⟨fun x hx => ?_,?_,?_⟩
              · unfold kTold at hx
                rw [htag] at hx
                rcases List.mem_append.1 hx with hx | hx
                · obtain ⟨y,hy,rfl⟩:=List.mem_map.1 hx
                  have:=q1 y hy
                  exact ⟨this.1,this.2,Nat.zero_le _,fun z hz=>by cases hz⟩
                · rw [List.mem_singleton.1 hx]
                  refine ⟨he.1,Nat.zero_le _,Nat.le_trans hll he.2.2.1,fun y hy => ?_⟩
                  have hm:(y.name,y.val) ∈ l.map (fun y=>(y.name,y.val)):=List.mem_map_of_mem hy
                  rw [hrk] at hm
                  simp only [List.map_nil,List.nil_append] at hm
                  obtain ⟨z,hz,hzy⟩:=List.mem_map.1 hm
                  have hz2:=he.2.2.2 z (List.mem_filter.1 hz).1
                  injection hzy with h1 h2
                  rw [← h1, ← h2]
                  exact hz2
              · show SmB K (Mk.declareGo e.attrs c.bnd 0).1
                rw [d1]
                intro y hy
                rcases List.mem_append.1 hy with hy | hy
                · exact hb y hy
                · exact q1 y hy
              · show (kTold _ _ _).length + (Mk.declareGo e.attrs c.bnd 0).1.length≤_
                unfold kTold
                rw [htag,d1]
                simp [kBinds]
                omega
  · split at h
    · split at h
      · cases h
      · cases h
        have hf:c.fst≤c.bnd.length:=by
          unfold Sc.fst
          split
          · exact Nat.le_refl _
          · split <;> omega
        refine ⟨fun x hx => ?_,fun y hy=>hb y (List.mem_of_mem_take hy),?_⟩
        · unfold kEnd at hx
          rcases List.mem_cons.1 hx with rfl | hx
          · exact ⟨he.1,Nat.zero_le _,Nat.zero_le _,fun z hz=>by cases hz⟩
          · obtain ⟨y,hy,rfl⟩:=List.mem_map.1 hx
            have:=hb y (List.mem_of_mem_drop (List.mem_reverse.1 hy))
            exact ⟨this.1,Nat.zero_le _,Nat.zero_le _,fun z hz=>by cases hz⟩
        · show (kEnd c e.name).length + (c.bnd.take c.fst).length≤_
          unfold kEnd kUnbinds Sc.tag
          simp
          omega
    · split at h
      · split at h
        · cases h
        · cases h
          exact ⟨fun x hx=>by rw [List.mem_singleton.1 hx];exact he,hb,by simp;omega⟩
      · cases h
        exact ⟨fun x hx=>by rw [List.mem_singleton.1 hx];exact he,hb,by simp;omega⟩
theorem kRes_small {K:Nat}:∀ (l:List Ev) {c c' : Sc} {acc m:List Ev},kRes c acc l=(c', m,true)→(∀ x ∈ l,SmX K x)→SmB K c.bnd→(∀ x ∈ acc,SmX K x)→(∀ x ∈ m,SmX K x)∧m.length + c'.bnd.length≤acc.length + c.bnd.length + l.length + 2 * totA l
  | [],c,c', acc,m,h,_,_,ha=>by cases h;exact ⟨ha,by simp⟩
  | e :: r,c,c', acc,m,h,hl,hb,ha=>by
    have h:(match kOne c e with | none=>(c,acc,false) | some (c', m)=>kRes c' (acc ++ m) r)=(c', m,true):=h
    cases hk:kOne c e with
    | none=>rw [hk] at h;cases h
    | some p =>
      obtain ⟨c1,m1⟩:=p
      rw [hk] at h
      obtain ⟨q1,q2,q3⟩:=kOne_small hk (hl e (by simp)) hb
      obtain ⟨r1,r2⟩:=kRes_small r h (fun x hx=>hl x (List.mem_cons_of_mem _ hx)) q2 (fun x hx=>by rcases List.mem_append.1 hx with hx | hx;exact ha x hx;exact q1 x hx)
      refine ⟨r1,?_⟩
      have e1:totA (e :: r)=e.attrs.length + totA r:=by simp [totA]
      rw [List.length_append] at r2
      rw [e1,List.length_cons]
      omega
theorem good_totA {d t:Int} {o o1:List Bs} {ov ov1 pt:Bool} {l:List Ev} (h:GoodL d 32 t o ov pt l o1 ov1):totA l≤32 * l.length:=by
  induction h with
  | nil o ov pt=>simp [totA]
  | @cons o o1 o2 ov ov1 ov2 pt e l he r ih =>
    have e1:totA (e :: l)=e.attrs.length + totA l:=by simp [totA]
    have:e.attrs.length≤32:=by
      cases he with
      | start n ats h1 h2 h3 h4 h5 h6=>dsimp only;omega
      | _=>simp
    rw [e1,List.length_cons]
    omega
structure Ret (nm:Bool) (E:List Ev):Prop where
  en:(Mk.feedAll (Mk.make_ 64 32 1024 nm) (wAll E)).ended=0
  cl:(Mk.close (Mk.feedAll (Mk.make_ 64 32 1024 nm) (wAll E))).2=0
  ev:wT (Mk.feedAll (Mk.make_ 64 32 1024 nm) (wAll E))=E
  ad:Adj false E
structure Sml (E:List Ev):Prop where
  n:E.length≤20000
  x:∀ x ∈ E,SmX 150000 x
  d:(wAll E).length≤150000
  p:0<(wAll E).length
def NoDoc (nm:Bool) (E:List Ev):Prop := ¬ ((Mk.feedAll (Mk.make_ 64 32 1024 nm) (wAll E)).ended=0∧(Mk.close (Mk.feedAll (Mk.make_ 64 32 1024 nm) (wAll E))).2=0)
theorem close_doc {s:St} (h0:s.ended=0) (hs:s.state=0) (ho:s.over=true):(Mk.close s).2=0:=by
  unfold Mk.close Mk.isDocument
  rw [if_pos h0,hs,ho]
  rfl
theorem close_not {s:St} (h0:s.ended=0) (hs:s.state=1):(Mk.close s).2=9:=by
  unfold Mk.close Mk.isDocument
  rw [if_pos h0,hs]
  simp
theorem ret_plain {l:List Ev} (h:GoodL 64 32 1024 [] false false l [] true):Ret false l:=by
  obtain ⟨w1,w2,w3,w4,w5⟩:=write_read h
  have e:wAll l=l.flatMap wEv:=wGo_plain h
  obtain ⟨hw,hv,h1,H1⟩:=tl_feedAll (l.flatMap wEv) (w_make 64 32 1024 false (by decide) (by decide) (by decide)) (v_make 64 32 1024 (by decide) (by decide)) (tl_make 64 32 1024 (by decide) (by decide) (by decide)) rfl w1
  have ha:=wT_adj rfl H1
  rw [w2] at ha
  exact ⟨by rw [e];exact w1,by rw [e];exact close_doc w1 w5 w4,by rw [e];exact w2,ha⟩
theorem no_plain {l:List Ev} {n:Bs} {ov:Bool} (h:GoodL 64 32 1024 [] false false l [n] ov):NoDoc false l:=by
  obtain ⟨w1,w2,w3,w4,w5⟩:=write_read h
  have e:wAll l=l.flatMap wEv:=wGo_plain h
  unfold NoDoc
  rw [e]
  rintro ⟨q1,q2⟩
  rw [close_not w1 w5] at q2
  cases q2
theorem ret_names {l E:List Ev} {c:Sc} (h:GoodL 64 32 1024 [] false false l [] true) (hk:KR l c E):Ret true E:=by
  obtain ⟨e,q1,_⟩:=write_names (by decide) (by decide) (by decide) (by decide) h hk
  obtain ⟨r1,r2,r3⟩:=q1 rfl
  obtain ⟨_,_,_,c', _,_,ha⟩:=spaces_ok 64 32 1024 (by decide) (by decide) (by decide) (by decide) (wAll E) (by rw [r1];decide)
  rw [r2] at ha
  exact ⟨r1,r3,r2,ha⟩
theorem no_names {l E:List Ev} {c:Sc} {n:Bs} {ov:Bool} (h:GoodL 64 32 1024 [] false false l [n] ov) (hk:KR l c E):NoDoc true E:=
  (write_names (by decide) (by decide) (by decide) (by decide) h hk).2.2 (by simp)
theorem sml_plain {l:List Ev} {o:List Bs} {ov:Bool} (h:GoodL 64 32 1024 [] false false l o ov) (hl:l.length≤214) (hz:sumSz l≤149800) (hne:l ≠ []):Sml l:=by
  have e:wAll l=l.flatMap wEv:=wGo_plain h
  refine ⟨by omega,fun x hx=>evSz_small (Nat.le_trans (sum_ge hx) (by omega)),by rw [e];have:=wl_len l;omega,?_⟩
  rw [e]
  apply Nat.pos_of_ne_zero
  intro k
  obtain ⟨_,w2,_⟩:=write_read h
  rw [List.length_eq_zero_iff.1 k] at w2
  exact hne w2.symm
theorem sml_names {l E:List Ev} {c:Sc} {o:List Bs} {ov:Bool} (h:GoodL 64 32 1024 [] false false l o ov) (hk:KR l c E) (hl:l.length≤214) (hz:sumSz l≤149800) (hne:l ≠ []):Sml E:=by
  obtain ⟨e,_⟩:=write_names (by decide) (by decide) (by decide) (by decide) h hk
  have hs:=kRes_small (K:=150000) l hk (fun x hx=>evSz_small (Nat.le_trans (sum_ge hx) (by omega))) (by intro y hy;cases List.mem_singleton.1 hy;exact ⟨by decide,by decide⟩) (fun x hx=>by cases hx)
  have ht:=good_totA h
  refine ⟨?_,hs.1,by rw [e];have:=norm_len l;omega,?_⟩
  · have:=hs.2
    have e1:Sc.zero.bnd.length=1:=rfl
    simp only [List.length_nil] at this
    omega
  · rw [e]
    apply Nat.pos_of_ne_zero
    intro k
    obtain ⟨_,w2,_⟩:=write_read (goodL_norm h)
    rw [List.length_eq_zero_iff.1 k] at w2
    have:l.map normE=[]:=w2.symm
    exact hne (List.map_eq_nil_iff.1 this)
theorem built_facts (code:Bs) (hc:code.length≤200):∃ l1 n a E1 E c,(bAll code).l=l1 ++ [⟨2,n,[],[],[]⟩,a]∧(a.kind=4∨a.kind=5)∧l1 ≠ []∧Ret false (bAll code).l∧Sml (bAll code).l∧NoDoc false l1∧Sml l1
    ∧ kRes Sc.zero [] (bAll code).l=(c,E,true)∧Ret true E∧Sml E∧NoDoc true E1∧Sml E1∧E1 ≠ []∧∃ sp us,E=E1 ++ [⟨2,n,sp,[],[]⟩] ++ us ++ [a]∧∀ x ∈ us,x.kind=7:=by
  obtain ⟨s1,n,a,⟨c1,E1,lv1,h1⟩,ho,hl,ha⟩:=built_parts code
  obtain ⟨⟨c,E,lv,h⟩,hoe⟩:=bis_all code
  obtain ⟨z1,z2⟩:=built_sz code hc
  have hg:=h.g.g
  rw [hoe] at hg
  have hg1:=h1.g.g
  rw [ho] at hg1
  have hne1:s1.l ≠ []:=fun e=>by
    rw [e] at hg1
    cases hg1
  have hl1:s1.l.length≤214:=by rw [hl] at z1;simp at z1;omega
  have hz1:sumSz s1.l≤149800:=by rw [hl,sumSz_app] at z2;omega
  have hk:=h.k
  have hk2:=h.k
  unfold KR at hk2
  rw [hl,kRes_app] at hk2
  have hk1:kRes Sc.zero [] s1.l=(c1,E1,true):=h1.k
  rw [hk1] at hk2
  have hk2:kRes c1 E1 [⟨2,n,[],[],[]⟩,a]=(c,E,true):=hk2
  have hlv:lv1 ≠ []:=fun e=>by have:=h1.n;rw [e,ho] at this;cases this
  have hcn:c1.cnt ≠ []:=fun e=>by rw [h1.ls.n] at e;exact hlv (List.map_eq_nil_iff.1 e)
  have hstep:kRes c1 E1 [⟨2,n,[],[],[]⟩,a]=kRes (kLeft c1) (E1 ++ kEnd c1 n) [a]:=by
    show (match kOne c1 ⟨2,n,[],[],[]⟩ with | none=>(c1,E1,false) | some (c', m)=>kRes c' (E1 ++ m) [a])=_
    have:kOne c1 ⟨2,n,[],[],[]⟩=some (kLeft c1,kEnd c1 n):=by
      show (if c1.cnt=[] then none else some (kLeft c1,kEnd c1 n))=_
      rw [if_neg hcn]
    rw [this]
  rw [hstep] at hk2
  have hE:E=E1 ++ kEnd c1 n ++ [a]:=by
    have hk3:(match kOne (kLeft c1) a with | none=>(kLeft c1,E1 ++ kEnd c1 n,false) | some (c', m)=>kRes c' (E1 ++ kEnd c1 n ++ m) [])=(c,E,true):=hk2
    have ha2:∀ x,kOne (kLeft c1) a=some x→x.2=[a]:=fun x hx=>by
      unfold kOne at hx
      rw [if_neg (by rcases ha with q | q <;> rw [q] <;> decide),if_neg (by rcases ha with q | q <;> rw [q] <;> decide)] at hx
      split at hx
      · split at hx
        · cases hx
        · cases hx;rfl
      · cases hx;rfl
    cases hko:kOne (kLeft c1) a with
    | none=>rw [hko] at hk3;cases hk3
    | some x =>
      rw [hko] at hk3
      have:=ha2 x hko
      obtain ⟨c9,m9⟩:=x
      dsimp only at this
      subst this
      cases hk3
      rfl
  have hneE:E1 ≠ []:=fun e=>by
    obtain ⟨x,hx,hw⟩:=wGo_res hg1 hk1
    have hx:E1=x:=by simpa using hx
    have hp:=(sml_names hg1 h1.k hl1 hz1 hne1).p
    rw [e] at hp
    exact absurd hp (by decide)
  have hneL:(bAll code).l ≠ []:=fun e=>by rw [hl] at e;simp at e
  refine ⟨s1.l,n,a,E1,E,c,hl,ha,hne1,ret_plain hg,sml_plain hg z1 z2 hneL,no_plain hg1,sml_plain hg1 hl1 hz1 hne1,hk,ret_names hg hk,sml_names hg hk z1 z2 hneL,no_names hg1 h1.k,sml_names hg1 h1.k hl1 hz1 hne1,hneE,Mk.valueOf c1.bnd (Mk.prefixOf n),kUnbinds c1.tag.reverse,?_,fun x hx => ?_⟩
  · rw [hE]
    unfold kEnd
    simp
  · obtain ⟨y,_,rfl⟩:=List.mem_map.1 hx
    rfl
open Go.RowKit
theorem wide_any (n:Bool) (w:World) :
    Calls Tryz.prog 19 #[.bool n] w fun e w' => e = .returned (.agg #[.int .i64 64,.int .i64 32,.int .i64 1024,.bool n])∧Below w.heap.size w w' := by
  go_enter Tryz.func19,Tryz.ntmps19
  go_wp2
  exact bodyPost_ret (v:=.agg #[.int .i64 64,.int .i64 32,.int .i64 1024,.bool n]) (by simp [results,Tryz.results19,go_sem]) rfl ⟨rfl,by repeat (first | exact Below.refl _ _ | refine Below.alloc ?_ (by simp <;> omega) _)⟩
theorem Got.pre {w:World} {a:Option Addr} {c:Nat} {l:List Ev} {fp:List Nat} (h:Got w (.slice a l.length c) l fp) (k:Nat) (hk:k≤l.length):Got w (.slice a k c) (l.take k) fp:=by
  obtain ⟨es,h1,h2,h3,h4,h5⟩:=h.ex
  have hel:es.length=l.length:=by rw [← h1];simp
  have hob:(Value.slice a k c).ownBlock=(Value.slice a l.length c).ownBlock:=by cases a <;> rfl
  refine ⟨es.take k,by rw [List.map_take,h1],?_,fun p hp=>h3 p (List.mem_of_mem_take hp),fun q hq=>h4 q (by rw [← hob];exact hq),fun q hq => ?_⟩
  · have hlk:(l.take k).length=k:=by rw [List.length_take];omega
    rw [hlk]
    have hev:evsRow (es.take k)=(evsRow es).take (k * 5):=by
      have key:∀ (m:List (Ev × Value)) (n:Nat),evsRow (m.take n)=(evsRow m).take (n * 5):=by
        intro m
        induction m with
        | nil=>intro n;simp [evsRow]
        | cons y r ih =>
          intro n
          cases n with
          | zero=>simp [evsRow]
          | succ n =>
            have e1:evsRow (y :: r)=evCells y.1 y.2 ++ evsRow r:=rfl
            have e2:evsRow ((y :: r).take (n + 1))=evCells y.1 y.2 ++ evsRow (r.take n):=rfl
            have hx:(evCells y.1 y.2).length=5:=rfl
            have hx2:(evCells y.1 y.2).take ((n + 1) * 5)=evCells y.1 y.2:=List.take_of_length_le (by rw [hx];omega)
            rw [e1,e2,ih n,List.take_append,hx2,hx,show (n + 1) * 5 - 5=n * 5 by omega]
      exact key es k
    rcases h2.2 with ⟨q1,q2⟩ | ⟨g,cap,cur,q1,q2,q3,q4,q5,q6,q7⟩
    · injection q1 with q1 _ q3
      have:k=0:=by omega
      subst this
      refine ⟨by rw [hev];simp,.inl ⟨by rw [q1,q3],rfl⟩⟩
    · injection q1 with q1 _ q8
      refine ⟨?_,.inr ⟨g,cap,cur,by rw [q1,q8],q2,q3,by omega,q5,q6,?_⟩⟩
      · rw [hev,List.length_take,h2.1]
        omega
      · rw [hev, ← q7,List.take_take]
        congr 1
        omega
  · obtain ⟨r,hr,hrk⟩:=List.mem_filterMap.1 hq
    obtain ⟨x,hx,rfl⟩:=List.mem_map.1 hr
    have:=h5 q (List.mem_filterMap.2 ⟨evRow x,List.mem_map_of_mem (List.mem_of_mem_take hx),hrk⟩)
    exact ⟨this.1,by rw [hob];exact this.2⟩
theorem Sml.sm {E:List Ev} (h:Sml E):SmE E:=
  ⟨by have:=h.n;omega,fun x hx=>by have q:=h.x x hx;exact ⟨by have:=q.1;omega,by have:=q.2.1;omega,fun _=>by have:=q.2.1;omega,by have:=q.2.2.1;omega,fun y hy=>by have:=q.2.2.2 y hy;exact ⟨by omega,by omega⟩⟩⟩
set_option maxHeartbeats 2000000 in
set_option maxRecDepth 100000 in
theorem returns_any (nm:Bool) {w:World} {v:Value} {l:List Ev} {fp:List Nat} (hg:Got w v l fp) (hfp:∀ k ∈ fp,k<w.heap.size) (hR:Ret nm l) (hS:Sml l) (cuts:List Int) (ca:Option Addr) (cc:Nat) (hC:cuts.length≤1000000000000000)
    (hcut:∀ j (hj:j<cuts.length), ∃ cg co,ca=some ⟨cg,co,none⟩∧cg<w.heap.size∧w.cell? ⟨cg,co + j,none⟩=some (.int .i64 cuts[j])) (hi64:∀ c ∈ cuts,I64 c) (hG:Gl w) (hn:6<w.heap.size) :
    Calls Tryz.prog 25 #[.agg #[.int .i64 64,.int .i64 32,.int .i64 1024,.bool nm],v,.slice ca cuts.length cc] w fun e w' => e = .returned (.bool true)∧Below w.heap.size w w' := by
  have HX:=hide (fun W hb=>run_any 64 32 1024 nm (by decide) (by decide) (by decide) (by decide) (by decide) (by decide) (wAll l) cuts ca cc (by have:=hS.d;omega) hC W (fun j hj=>by
    obtain ⟨cg,co,q1,q2,q3⟩:=hcut j hj
    have hb:Below w.heap.size w W:=hb
    exact ⟨cg,co,q1,by have:=hb.size;omega,by rw [← q3];simp only [World.cell?];rw [hb.block cg q2]⟩) hi64 (hG.below hn hb) (by have:=(show Below w.heap.size w W from hb).size;omega))
  have q:=runL_eq 64 32 1024 nm (wAll l) cuts
  have hev:join [] (out (Mk.feedAll (Mk.make_ 64 32 1024 nm) (wAll l)).list (Mk.feedAll (Mk.make_ 64 32 1024 nm) (wAll l)).text)=l:=by
    have ha:Adj false (wT (Mk.feedAll (Mk.make_ 64 32 1024 nm) (wAll l))):=by rw [hR.ev];exact hR.ad
    exact (evs_wT ha).trans hR.ev
  rw [q.1,q.2.1,q.2.2.1,q.2.2.2,hev,hR.en,hR.cl] at HX
  have hbA:Below w.heap.size w (w.alloc (.cells #[.int .i64 64,.int .i64 32,.int .i64 1024,.bool nm] 25)):=(Below.refl _ _).alloc (Nat.le_refl _) _
  have hgA:Got (w.alloc (.cells #[.int .i64 64,.int .i64 32,.int .i64 1024,.bool nm] 25)) v l fp:=hg.keep fun k hk=>hbA.block k (hfp k hk)
  have HW:=hide (write_yes (d:=64) (a:=32) (t:=1024) (nm:=nm) hgA (fun k hk=>by have:=hfp k hk;simp;omega) (by decide) (by decide) (by decide) (by decide) (by decide) (by decide) hS.sm (by have:=hS.d;omega) hS.p (hG.below hn hbA) (by simp;omega) hR.en hR.cl hR.ev)
  have HG:=hide (And.intro hg hfp)
  have HBA:=hide hbA
  obtain ⟨va,vc,rfl⟩:=hg.slice
  have hx0:=heap_alloc_new w (.cells #[.int .i64 64,.int .i64 32,.int .i64 1024,.bool nm] 25)
  have HX0:=hide hx0
  have e0:((0:Int) != 0)=false:=rfl
  generalize (Mk.feedAll (Mk.make_ 64 32 1024 nm) (wAll l)).at_=at_ at *
  generalize (runL (Mk.make_ 64 32 1024 nm) [] 0 (wAll l) cuts)=R1 at *
  generalize wAll l=D at *
  clear hg hfp hR hS hcut hi64 hG q hev hbA hgA hx0
  go_enter Tryz.func25,Tryz.ntmps25
  go_wp2_with fail
  refine (unhide HW).mono ?_
  rintro e w1 ⟨xa,xc,rfl,hrow,hb1⟩
  have hb01:=(unhide HBA).trans (hb1.mono (by simp))
  have hcv:=conv_row hrow
  have hx1:=(hb1.block w.heap.size (by simp)).trans (unhide HX0)
  have hc1:∀ j,w1.cell? ⟨w.heap.size,j,none⟩=[.int .i64 64,.int .i64 32,.int .i64 1024,.bool nm][j]? := fun j=>by simp [World.cell?,hx1]
  have hl1:w.heap.size<w1.heap.size:=(Array.getElem?_eq_some_iff.1 hx1).1
  have HR1:=hide (unhide HX w1 hb01)
  have HB1:=hide hb01
  clear hrow hb1 hb01 hx1 HW HX HX0 HBA
  go_wp2_with fail
  refine (unhide HR1).mono ?_
  rintro e w2 ⟨v2,fp2,q2,rfl,hg2,hf2,hb2,hp2⟩
  obtain ⟨x2,c2,rfl⟩:=hg2.slice
  have hst2:=lay_out w2 (.slice x2 l.length c2) 0 0 at_ q2 ⟨_,_,_,rfl⟩
  have hb02:=(unhide HB1).trans (hb2.mono (unhide HB1).size)
  obtain ⟨W2,hW2⟩:∃ W2,W2=w2.alloc (.cells (outCells (.slice x2 l.length c2) 0 0 at_ q2) 38 (0,0)):=⟨_,rfl⟩
  rw [← hW2] at hst2
  have hs02:=hb02.size
  have hbW:Below w.heap.size w W2:=by rw [hW2];exact hb02.alloc (by omega) _
  have hxW:W2.heap[w2.heap.size]? = some (.cells (outCells (.slice x2 l.length c2) 0 0 at_ q2) 38 (0,0)):=by rw [hW2];exact heap_alloc_new w2 _
  have hgW:Got W2 (.slice x2 l.length c2) l fp2:=hg2.keep fun k hk=>by rw [hW2];exact Below.heap_alloc _ _ _ (hf2 k hk).2
  have hfW:∀ k ∈ fp2,k<W2.heap.size:=fun k hk=>by have:=(hf2 k hk).2;rw [hW2];simp;omega
  have hlW:w2.heap.size<W2.heap.size:=(Array.getElem?_eq_some_iff.1 hxW).1
  have hcW:∀ j,W2.cell? ⟨w2.heap.size,j,none⟩=[.slice x2 l.length c2,.int .i64 0,.int .i64 0,.int .i64 at_,.int .i64 q2.ln,.int .i64 q2.co,.slice q2.oa q2.on q2.oc][j]? := fun j=>by simp [World.cell?,hxW,outCells]
  have HFN:=hide (fun w=>fine_yes (.slice x2 l.length c2) at_ q2 ⟨_,_,_,rfl⟩ w)
  have HKW:=hide (And.intro hbW (And.intro hxW (And.intro hgW hfW)))
  clear hW2 hg2 hf2 hb2 hp2 hb02 hbW hxW hgW hfW HR1 HB1 hc1 hcv
  go_wp2_with fail
  refine (unhide HFN _).mono ?_
  rintro e w3 ⟨rfl,hb3⟩
  have hK:=unhide HKW
  have hx3:=(hb3.block _ hlW).trans hK.2.1
  have hc3:∀ j,w3.cell? ⟨w2.heap.size,j,none⟩=[.slice x2 l.length c2,.int .i64 0,.int .i64 0,.int .i64 at_,.int .i64 q2.ln,.int .i64 q2.co,.slice q2.oa q2.on q2.oc][j]? := fun j=>by simp [World.cell?,hx3,outCells]
  have hl3:w2.heap.size<w3.heap.size:=(Array.getElem?_eq_some_iff.1 hx3).1
  have hg3:Got w3 (.slice x2 l.length c2) l fp2:=hK.2.2.1.keep fun k hk=>hb3.block k (hK.2.2.2 k hk)
  have hb03:=hK.1.trans (hb3.mono hK.1.size)
  have hgv:Got w3 (.slice va l.length vc) l fp:=(unhide HG).1.keep fun k hk=>hb03.block k ((unhide HG).2 k hk)
  have HSE:=hide (sameEvents_eq hg3 hgv)
  have HB3:=hide hb03
  clear hb3 hx3 hg3 hgv hb03 hK HKW HFN HG hcW
  go_wp2_with fail
  refine (unhide HSE).mono ?_
  rintro e w4 ⟨rfl,m,rfl⟩
  clear HSE
  go_wp2
  go_ret
  exact ⟨rfl,(unhide HB3).trans ⟨rfl,rfl,rfl,Nat.le_of_eq (by rw [heap_drewN]),fun _ _=>by rw [heap_drewN]⟩⟩
structure LastE (E P:List Ev):Prop where
  lt:P.length<E.length
  pos:0<P.length
  pre:E.take P.length=P
  two:∀ h:P.length<E.length,E[P.length].kind=2
  oth:∀ i,P.length<i→∀ h:i<E.length,E[i].kind ≠ 2
theorem last_of {E P:List Ev} {e:Ev} {R:List Ev} (h:E=P ++ [e] ++ R) (hp:P ≠ []) (he:e.kind=2) (hr:∀ x ∈ R,x.kind ≠ 2):LastE E P:=by
  subst h
  refine ⟨by simp,List.length_pos_iff.2 hp,by simp,fun h => ?_,fun i hi h => ?_⟩
  · have:(P ++ [e] ++ R)[P.length]=e:=by simp
    rw [this];exact he
  · have hl:P.length + 1≤i:=hi
    have:(P ++ [e] ++ R)[i]=R[i - (P.length + 1)]'(by simp at h;omega):=by
      rw [List.getElem_append_right (by simp;omega)]
      simp
    rw [this]
    exact hr _ (List.getElem_mem _)
set_option maxHeartbeats 4000000 in
set_option maxRecDepth 100000 in
theorem Built_false (code0:Bs) (hc0:code0.length≤9223372036854775807) (cuts:List Int) (ca:Option Addr) (cc:Nat) (hC:cuts.length≤1000000000000000) (w:World)
    (hcut:∀ j (hj:j<cuts.length), ∃ cg co,ca=some ⟨cg,co,none⟩∧cg<w.heap.size∧w.cell? ⟨cg,co + j,none⟩=some (.int .i64 cuts[j])) (hi64:∀ c ∈ cuts,I64 c) (hT:GlB w) (hG:Gl w) (hn:6<w.heap.size) :
    Calls Tryz.prog 8 #[.bool false,.string ⟨code0.toArray⟩,.slice ca cuts.length cc] w fun e w' => e = .returned (.bool true)∧Below w.heap.size w w' := by
  obtain ⟨l1,n,a,E1,EN,c,hl,hak,hl1,r1,z1,n1,y1,hkr,r2,z2,n2,y2,hE1,sp,us,hEN,hus⟩:=built_facts (code0.take 200) (by rw [List.length_take];omega)
  have HBU:=hide (built_any code0 w hT hn hc0)
  generalize (bAll (code0.take 200)).l=l at *
  have HL:Hid (LastE l l1):=last_of (show l=l1 ++ [⟨2,n,[],[],[]⟩] ++ [a] by rw [hl];simp) hl1 rfl (fun x hx=>by
    rw [List.mem_singleton.1 hx];rcases hak with q | q <;> rw [q] <;> decide)
  have HFC:=hide (And.intro r1 (And.intro z1 (And.intro n1 y1)))
  clear hkr hl hak hl1 r1 z1 n1 y1 r2 z2 n2 y2 hE1 hEN hus
  generalize l=E at *
  generalize l1=P at *
  have HCU:Hid (∀ W,Below w.heap.size w W→∀ j (hj:j<cuts.length), ∃ cg co,ca=some ⟨cg,co,none⟩∧cg<W.heap.size∧W.cell? ⟨cg,co + j,none⟩=some (.int .i64 cuts[j])):=fun W hb j hj=>by
    obtain ⟨cg,co,q1,q2,q3⟩:=hcut j hj
    exact ⟨cg,co,q1,by have:=hb.size;omega,by rw [← q3];simp only [World.cell?];rw [hb.block cg q2]⟩
  have HI:=hide hi64
  have HG:=hide hG
  clear hT hG hcut hi64
  go_enter Tryz.func8,Tryz.ntmps8
  go_wp2_with fail
  refine (unhide HBU).mono ?_
  rintro e w1 ⟨v1,fp1,rfl,hg1,hf1,hb1⟩
  obtain ⟨va1,vc1,rfl⟩:=hg1.slice
  have HG1:=hide (And.intro hg1 (And.intro hf1 hb1))
  clear hg1 hf1 hb1 HBU
  go_wp2_with fail
  refine (wide_any false _).mono ?_
  rintro e w2 ⟨rfl,hb2⟩
  have hb02:Below w.heap.size w w2:=(unhide HG1).2.2.trans (hb2.mono (unhide HG1).2.2.size)
  obtain ⟨W2,hW2⟩:∃ W2,W2=w2.alloc (.cells #[.int .i64 64,.int .i64 32,.int .i64 1024,.bool false] 25):=⟨_,rfl⟩
  have hs02:=hb02.size
  have hbW:Below w.heap.size w W2:=by rw [hW2];exact hb02.alloc (by omega) _
  have hxW:W2.heap[w2.heap.size]? = some (.cells #[.int .i64 64,.int .i64 32,.int .i64 1024,.bool false] 25 (0,0)):=by rw [hW2];exact heap_alloc_new w2 _
  have hlW:w2.heap.size<W2.heap.size:=(Array.getElem?_eq_some_iff.1 hxW).1
  have hcW:∀ j,W2.cell? ⟨w2.heap.size,j,none⟩=[.int .i64 64,.int .i64 32,.int .i64 1024,.bool false][j]? := fun j=>by simp [World.cell?,hxW]
  have hsz12:=hb2.size
  have hgW:=(unhide HG1).1.keep (w' := W2) fun k hk=>by
    have q:=(unhide HG1).2.1 k hk
    rw [hW2,Below.heap_alloc _ _ _ (by omega)]
    exact hb2.block k q.2
  have hfW:∀ k ∈ fp1,k<W2.heap.size:=fun k hk=>by have:=((unhide HG1).2.1 k hk).2;omega
  have HGW:=hide (And.intro hgW (And.intro hfW (And.intro hbW hxW)))
  clear hb2 hb02 hbW hxW hgW hfW HG1
  go_wp2_with fail
  rw [← hW2]
  clear hW2
  have hl3:=hlW
  have hc3:=hcW
  have HGE:=HGW
  generalize fp1=fp3 at *
  generalize va1=va at *
  generalize vc1=vc at *
  generalize hw3:W2=w3 at *
  clear hw3
  clear HGW hcW hlW
  have HRT:=hide (returns_any false (unhide HGE).1 (unhide HGE).2.1 (unhide HFC).1 (unhide HFC).2.1 cuts ca cc hC (unhide HCU _ (unhide HGE).2.2.1) (unhide HI) ((unhide HG).below hn (unhide HGE).2.2.1) (by have:=(unhide HGE).2.2.1.size;omega))
  refine (unhide HRT).mono ?_
  rintro e w4 ⟨rfl,hb4⟩
  have hK:=unhide HGE
  have hb04:Below w.heap.size w w4:=hK.2.2.1.trans (hb4.mono hK.2.2.1.size)
  have hx4:=(hb4.block _ hl3).trans hK.2.2.2
  have hc4:∀ j,w4.cell? ⟨w2.heap.size,j,none⟩=[.int .i64 64,.int .i64 32,.int .i64 1024,.bool false][j]? := fun j=>by simp [World.cell?,hx4]
  have hl4:w2.heap.size<w4.heap.size:=(Array.getElem?_eq_some_iff.1 hx4).1
  have hg4:Got w4 (.slice va E.length vc) E fp3:=hK.1.keep fun k hk=>hb4.block k (hK.2.1 k hk)
  have hf4:∀ k ∈ fp3,k<w4.heap.size:=fun k hk=>by have:=hK.2.1 k hk;have:=hb4.size;omega
  have hcap:=hg4.cap
  have hEl:=(unhide HFC).2.1.n
  have hL1:=(unhide HL).lt
  have hL0:=(unhide HL).pos
  have HG4:=hide (And.intro hg4 (And.intro hf4 hb04))
  clear hb4 hb04 hx4 hg4 hf4 HGE HRT hc3 hK
  have ei:((E.length:Nat):Int) - 1=((E.length - 1:Nat):Int):=by omega
  go_wp2_with fail
  go_loopg [12] (E.length - 1) (fun g s12 wx=>∃ i:Nat,g=i∧s12 = .int .i64 (i:Int)∧P.length≤i∧i<E.length∧∃ m,wx=w4.drewN m)
  case atStart=>exact ⟨E.length - 1,rfl,by simp [ei],by omega,by omega,0,rfl⟩
  case round =>
    obtain ⟨i,hgi,rfl,hi1,hi2,m,hwm⟩:=hrel
    have hgi:=hgi.symm
    subst hgi
    subst hwm
    obtain ⟨g,c', aa,ac,hva,hgl,c0,_⟩:=(unhide HG4).1.at2 i hi2
    injection hva with hva _ hvc
    subst hva hvc
    have c0' : (w4.drewN m).cell? ⟨g,i * 5,none⟩=some (.int .i64 E[i].kind):=by rw [← c0];simp only [World.cell?];rw [heap_drewN]
    have hi0:decide ((i:Int) > 0)=true:=decide_eq_true (by omega)
    have hi0' : decide ((0:Int)<(i:Int))=true:=decide_eq_true (by omega)
    have hiI:(i:Int)<(E.length:Int):=by omega
    have hgl2:g<(w4.drewN m).heap.size:=by rw [heap_drewN];exact hgl
    clear c0
    by_cases hip:i=P.length
    · have hk2:E[i].kind=2:=by
        have:=(unhide HL).two hL1
        have e:E[i]=E[P.length]:=by congr 1
        rw [e];exact this
      have t2:(E[i].kind != 2)=false:=by rw [hk2];rfl
      rw [hk2] at c0'
      have t3:((2:Int) != 2)=false:=rfl
      have hgp:=(unhide HG4).1.pre P.length (by omega)
      rw [(unhide HL).pre] at hgp
      have hc4' : ∀ j,(w4.drewN m).cell? ⟨w2.heap.size,j,none⟩=[.int .i64 64,.int .i64 32,.int .i64 1024,.bool false][j]? := fun j=>by rw [← hc4 j];simp only [World.cell?];rw [heap_drewN]
      have hl4' : w2.heap.size<(w4.drewN m).heap.size:=by rw [heap_drewN];exact hl4
      have hbm:∀ m', Below w.heap.size w (w4.drewN m'):=fun m' => (unhide HG4).2.2.trans ⟨rfl,rfl,rfl,Nat.le_of_eq (by rw [heap_drewN]),fun _ _=>by rw [heap_drewN]⟩
      have HWN:=hide (fun m' => write_no (w:=w4.drewN m') (d:=64) (a:=32) (t:=1024) (nm:=false) (hgp.keep fun k hk=>by rw [heap_drewN]) (fun k hk=>by rw [heap_drewN];exact (unhide HG4).2.1 k hk) (by decide) (by decide) (by decide) (by decide) (by decide) (by decide) (unhide HFC).2.2.2.sm (by have:=(unhide HFC).2.2.2.d;omega) (unhide HFC).2.2.2.p ((unhide HG).below hn (hbm m')) (by have:=(hbm m').size;omega) (unhide HFC).2.2.1)
      have HBM:=hide hbm
      have k2:(i:Int)≤(vc:Int):=by omega
      have k3:¬ (vc:Int)<(i:Int):=by omega
      rw [← hip] at HWN
      clear hgp hbm HG4 hk2 hip
      go_wp2
      go_region_with (go_at_call 26;first | (refine (unhide HWN (m + 1)).mono ?_;rintro e w5 ⟨rfl,hb5⟩;have HF:=hide ((unhide HBM (m + 1)).trans (hb5.mono (unhide HBM (m + 1)).size));clear hb5 HWN HBM) | (refine (unhide HWN _).mono ?_;rintro e w5 ⟨rfl,hb5⟩;have HF:=hide ((unhide HBM _).trans (hb5.mono (unhide HBM _).size));clear hb5 HWN HBM))
      all_goals
        go_wp2
        go_ret
        exact ⟨rfl,unhide HF⟩
    · have hk2:E[i].kind ≠ 2:=(unhide HL).oth i (by omega) hi2
      have t2:(E[i].kind != 2)=true:=by simpa using hk2
      have e9:(i:Int) - 1=((i - 1:Nat):Int):=by omega
      clear hk2
      generalize E[i].kind=kk at *
      go_wp2
      go_roundg (i - 1)
      case measure=>omega
      case rel=>exact ⟨i - 1,rfl,by simp,by omega,by omega,_,rfl⟩
set_option maxHeartbeats 4000000 in
set_option maxRecDepth 100000 in
theorem Built_true (code0:Bs) (hc0:code0.length≤9223372036854775807) (cuts:List Int) (ca:Option Addr) (cc:Nat) (hC:cuts.length≤1000000000000000) (w:World)
    (hcut:∀ j (hj:j<cuts.length), ∃ cg co,ca=some ⟨cg,co,none⟩∧cg<w.heap.size∧w.cell? ⟨cg,co + j,none⟩=some (.int .i64 cuts[j])) (hi64:∀ c ∈ cuts,I64 c) (hT:GlB w) (hG:Gl w) (hn:6<w.heap.size) :
    Calls Tryz.prog 8 #[.bool true,.string ⟨code0.toArray⟩,.slice ca cuts.length cc] w fun e w' => e = .returned (.bool true)∧Below w.heap.size w w' := by
  obtain ⟨l1,n,a,E1,EN,c,hl,hak,hl1,r1,z1,n1,y1,hkr,r2,z2,n2,y2,hE1,sp,us,hEN,hus⟩:=built_facts (code0.take 200) (by rw [List.length_take];omega)
  have HBU:=hide (built_any code0 w hT hn hc0)
  generalize (bAll (code0.take 200)).l=l at *
  obtain ⟨⟨H,hH1,hH2,hH3⟩,hlen,hbn,hka,_⟩:=off_facts 64 32 1024 (by decide) (by decide) (by decide) (by decide) (by decide) (wAll l) (by have:=z1.d;omega)
  rw [r1.ev] at hH1 hlen hbn hka
  have HRS:=hide (fun (W:World) (v:Value) (fp:List Nat) (hg:Got W v l fp) hfp=>resolved_any hg hfp hH1 hH2 hH3 hlen hbn hka)
  rw [hkr] at HRS
  have HL:Hid (LastE EN E1):=last_of (show EN=E1 ++ [⟨2,n,sp,[],[]⟩] ++ (us ++ [a]) by rw [hEN];simp) hE1 rfl (fun x hx=>by
    rcases List.mem_append.1 hx with hx | hx
    · rw [hus x hx];decide
    · rw [List.mem_singleton.1 hx];rcases hak with q | q <;> rw [q] <;> decide)
  have HFC:=hide (And.intro r2 (And.intro z2 (And.intro n2 y2)))
  clear hH1 hH2 hH3 hlen hbn hka hkr hl hak hl1 r1 z1 n1 y1 r2 z2 n2 y2 hE1 hEN hus
  generalize EN=E at *
  generalize E1=P at *
  have HCU:Hid (∀ W,Below w.heap.size w W→∀ j (hj:j<cuts.length), ∃ cg co,ca=some ⟨cg,co,none⟩∧cg<W.heap.size∧W.cell? ⟨cg,co + j,none⟩=some (.int .i64 cuts[j])):=fun W hb j hj=>by
    obtain ⟨cg,co,q1,q2,q3⟩:=hcut j hj
    exact ⟨cg,co,q1,by have:=hb.size;omega,by rw [← q3];simp only [World.cell?];rw [hb.block cg q2]⟩
  have HI:=hide hi64
  have HG:=hide hG
  clear hT hG hcut hi64
  go_enter Tryz.func8,Tryz.ntmps8
  go_wp2_with fail
  refine (unhide HBU).mono ?_
  rintro e w1 ⟨v1,fp1,rfl,hg1,hf1,hb1⟩
  obtain ⟨va1,vc1,rfl⟩:=hg1.slice
  have HG1:=hide (And.intro hg1 (And.intro hf1 hb1))
  clear hg1 hf1 hb1 HBU
  go_wp2_with fail
  refine (wide_any true _).mono ?_
  rintro e w2 ⟨rfl,hb2⟩
  have hb02:Below w.heap.size w w2:=(unhide HG1).2.2.trans (hb2.mono (unhide HG1).2.2.size)
  obtain ⟨W2,hW2⟩:∃ W2,W2=w2.alloc (.cells #[.int .i64 64,.int .i64 32,.int .i64 1024,.bool true] 25):=⟨_,rfl⟩
  have hs02:=hb02.size
  have hbW:Below w.heap.size w W2:=by rw [hW2];exact hb02.alloc (by omega) _
  have hxW:W2.heap[w2.heap.size]? = some (.cells #[.int .i64 64,.int .i64 32,.int .i64 1024,.bool true] 25 (0,0)):=by rw [hW2];exact heap_alloc_new w2 _
  have hlW:w2.heap.size<W2.heap.size:=(Array.getElem?_eq_some_iff.1 hxW).1
  have hcW:∀ j,W2.cell? ⟨w2.heap.size,j,none⟩=[.int .i64 64,.int .i64 32,.int .i64 1024,.bool true][j]? := fun j=>by simp [World.cell?,hxW]
  have hsz12:=hb2.size
  have hgW:=(unhide HG1).1.keep (w' := W2) fun k hk=>by
    have q:=(unhide HG1).2.1 k hk
    rw [hW2,Below.heap_alloc _ _ _ (by omega)]
    exact hb2.block k q.2
  have hfW:∀ k ∈ fp1,k<W2.heap.size:=fun k hk=>by have:=((unhide HG1).2.1 k hk).2;omega
  have HGW:=hide (And.intro hgW (And.intro hfW (And.intro hbW hxW)))
  clear hb2 hb02 hbW hxW hgW hfW HG1
  go_wp2_with fail
  rw [← hW2]
  clear hW2
  refine (unhide HRS W2 _ _ (unhide HGW).1 (unhide HGW).2.1).mono ?_
  rintro e w3 ⟨v3,fp3,rfl,hg3,hf3,hb3⟩
  have hg3:Got w3 v3 E fp3:=hg3
  obtain ⟨va,vc,rfl⟩:=hg3.slice
  have hK:=unhide HGW
  have hb03:Below w.heap.size w w3:=hK.2.2.1.trans (hb3.mono hK.2.2.1.size)
  have hx3:=(hb3.block _ hlW).trans hK.2.2.2
  have hc3:∀ j,w3.cell? ⟨w2.heap.size,j,none⟩=[.int .i64 64,.int .i64 32,.int .i64 1024,.bool true][j]? := fun j=>by simp [World.cell?,hx3]
  have hl3:w2.heap.size<w3.heap.size:=(Array.getElem?_eq_some_iff.1 hx3).1
  have HGE:=hide (And.intro hg3 (And.intro hf3 (And.intro hb03 hx3)))
  clear hg3 hf3 hb3 hb03 hx3 HRS HGW hcW hK
  have HRT:=hide (returns_any true (unhide HGE).1 (unhide HGE).2.1 (unhide HFC).1 (unhide HFC).2.1 cuts ca cc hC (unhide HCU _ (unhide HGE).2.2.1) (unhide HI) ((unhide HG).below hn (unhide HGE).2.2.1) (by have:=(unhide HGE).2.2.1.size;omega))
  go_wp2_with fail
  refine (unhide HRT).mono ?_
  rintro e w4 ⟨rfl,hb4⟩
  have hK:=unhide HGE
  have hb04:Below w.heap.size w w4:=hK.2.2.1.trans (hb4.mono hK.2.2.1.size)
  have hx4:=(hb4.block _ hl3).trans hK.2.2.2
  have hc4:∀ j,w4.cell? ⟨w2.heap.size,j,none⟩=[.int .i64 64,.int .i64 32,.int .i64 1024,.bool true][j]? := fun j=>by simp [World.cell?,hx4]
  have hl4:w2.heap.size<w4.heap.size:=(Array.getElem?_eq_some_iff.1 hx4).1
  have hg4:Got w4 (.slice va E.length vc) E fp3:=hK.1.keep fun k hk=>hb4.block k (hK.2.1 k hk)
  have hf4:∀ k ∈ fp3,k<w4.heap.size:=fun k hk=>by have:=hK.2.1 k hk;have:=hb4.size;omega
  have hcap:=hg4.cap
  have hEl:=(unhide HFC).2.1.n
  have hL1:=(unhide HL).lt
  have hL0:=(unhide HL).pos
  have HG4:=hide (And.intro hg4 (And.intro hf4 hb04))
  clear hb4 hb04 hx4 hg4 hf4 HGE HRT hc3 hK
  have ei:((E.length:Nat):Int) - 1=((E.length - 1:Nat):Int):=by omega
  go_wp2_with fail
  go_loopg [12] (E.length - 1) (fun g s12 wx=>∃ i:Nat,g=i∧s12 = .int .i64 (i:Int)∧P.length≤i∧i<E.length∧∃ m,wx=w4.drewN m)
  case atStart=>exact ⟨E.length - 1,rfl,by simp [ei],by omega,by omega,0,rfl⟩
  case round =>
    obtain ⟨i,hgi,rfl,hi1,hi2,m,hwm⟩:=hrel
    have hgi:=hgi.symm
    subst hgi
    subst hwm
    obtain ⟨g,c', aa,ac,hva,hgl,c0,_⟩:=(unhide HG4).1.at2 i hi2
    injection hva with hva _ hvc
    subst hva hvc
    have c0' : (w4.drewN m).cell? ⟨g,i * 5,none⟩=some (.int .i64 E[i].kind):=by rw [← c0];simp only [World.cell?];rw [heap_drewN]
    have hi0:decide ((i:Int) > 0)=true:=decide_eq_true (by omega)
    have hi0' : decide ((0:Int)<(i:Int))=true:=decide_eq_true (by omega)
    have hiI:(i:Int)<(E.length:Int):=by omega
    have hgl2:g<(w4.drewN m).heap.size:=by rw [heap_drewN];exact hgl
    clear c0
    by_cases hip:i=P.length
    · have hk2:E[i].kind=2:=by
        have:=(unhide HL).two hL1
        have e:E[i]=E[P.length]:=by congr 1
        rw [e];exact this
      have t2:(E[i].kind != 2)=false:=by rw [hk2];rfl
      rw [hk2] at c0'
      have t3:((2:Int) != 2)=false:=rfl
      have hgp:=(unhide HG4).1.pre P.length (by omega)
      rw [(unhide HL).pre] at hgp
      have hc4' : ∀ j,(w4.drewN m).cell? ⟨w2.heap.size,j,none⟩=[.int .i64 64,.int .i64 32,.int .i64 1024,.bool true][j]? := fun j=>by rw [← hc4 j];simp only [World.cell?];rw [heap_drewN]
      have hl4' : w2.heap.size<(w4.drewN m).heap.size:=by rw [heap_drewN];exact hl4
      have hbm:∀ m', Below w.heap.size w (w4.drewN m'):=fun m' => (unhide HG4).2.2.trans ⟨rfl,rfl,rfl,Nat.le_of_eq (by rw [heap_drewN]),fun _ _=>by rw [heap_drewN]⟩
      have HWN:=hide (fun m' => write_no (w:=w4.drewN m') (d:=64) (a:=32) (t:=1024) (nm:=true) (hgp.keep fun k hk=>by rw [heap_drewN]) (fun k hk=>by rw [heap_drewN];exact (unhide HG4).2.1 k hk) (by decide) (by decide) (by decide) (by decide) (by decide) (by decide) (unhide HFC).2.2.2.sm (by have:=(unhide HFC).2.2.2.d;omega) (unhide HFC).2.2.2.p ((unhide HG).below hn (hbm m')) (by have:=(hbm m').size;omega) (unhide HFC).2.2.1)
      have HBM:=hide hbm
      have k2:(i:Int)≤(vc:Int):=by omega
      have k3:¬ (vc:Int)<(i:Int):=by omega
      rw [← hip] at HWN
      clear hgp hbm HG4 hk2 hip
      go_wp2
      go_region_with (go_at_call 26;first | (refine (unhide HWN (m + 1)).mono ?_;rintro e w5 ⟨rfl,hb5⟩;have HF:=hide ((unhide HBM (m + 1)).trans (hb5.mono (unhide HBM (m + 1)).size));clear hb5 HWN HBM) | (refine (unhide HWN _).mono ?_;rintro e w5 ⟨rfl,hb5⟩;have HF:=hide ((unhide HBM _).trans (hb5.mono (unhide HBM _).size));clear hb5 HWN HBM))
      all_goals
        go_wp2
        go_ret
        exact ⟨rfl,unhide HF⟩
    · have hk2:E[i].kind ≠ 2:=(unhide HL).oth i (by omega) hi2
      have t2:(E[i].kind != 2)=true:=by simpa using hk2
      have e9:(i:Int) - 1=((i - 1:Nat):Int):=by omega
      clear hk2
      generalize E[i].kind=kk at *
      go_wp2
      go_roundg (i - 1)
      case measure=>omega
      case rel=>exact ⟨i - 1,rfl,by simp,by omega,by omega,_,rfl⟩
end Go.Proofs.YtmgfijllcdadgabGreatDoor
