/- Open, Joined -/
import Derived.Test.YtmgfijllcdadgabGreatDoorPM22
import Derived.Test.YtmgfijllcdadgabGreatDoorPM24
set_option linter.unusedVariables false
set_option linter.unusedSimpArgs false
namespace Go.Proofs.YtmgfijllcdadgabGreatDoor
open Go.RowKit
open Mk (St Bs Ev Att)
theorem below_grown {w w' : World} (h:w.grownBy w' none):Below w.heap.size w w' := ⟨h.os,h.tape,h.output,h.size,fun k hk=>h.block k hk (by simp)⟩
theorem run_append_none {P:Program} (w:World) (t ty e:TypeId) (i:TypeInfo) (ht:P.underlying t=some (.slice e)) (hi:P.info? e=some i) (ao:Option Addr) (c:Nat) :
    (Builtin.append_ #[t,t] ty #[.slice none 0 0,.slice ao 0 c]).run P w = .ok (.slice none 0 0) w:=by
  cases ao <;> simp [Builtin.append_,run_underlying ht,sizeOf,typeInfo,hi,Builtin.lenOf,Builtin.firstCells,storeCells,loadCells,loadCellsFrom]
theorem wpList_append_none {P:Program} {ops:Array Oper} {rest:List Oper} {o:Oper} {a:Act} {w:World} {Q:Exit→Act→World→Prop} (hgd:o.guard=none) (s x:Operand) (t e:TypeId)
    (ho:o.op = .call { callee:=.builtin .append,args:=#[s,x],argTypes:=#[t,t] }) (i:TypeInfo) (ht:P.underlying t=some (.slice e)) (hi:P.info? e=some i) (ao:Option Addr) (c:Nat) (hs:a.eval s = .slice none 0 0) (hx:a.eval x = .slice ao 0 c)
    (h:wpList P ops Q rest (a.put o.dst (.slice none 0 0)) w):wpList P ops Q (o :: rest) a w:=
  wpList_plain hgd fun _ hK=>by
    unfold Oper.wp execOp
    simp only [ho,resolve,invoke,builtin,Sem.run_bind,Sem.run_pure,Result.andThen_ok,List.map_toArray,List.map_cons,List.map_nil,hs,hx,run_append_none w t o.type e i ht hi ao c]
    exact hK _ _ h
set_option maxHeartbeats 1000000 in
set_option maxRecDepth 100000 in
theorem rOpen_any {w:World} {b:Nat} {s:St} {L:Lay} (h:RdL w b s L) (hl:s.opn.length≤1000000000) :
    Calls Tryz.prog 61 #[.pointer (some ⟨b,0,none⟩)] w fun e w' => ∃ oa oc,e = .returned (.slice oa s.opn.length oc)∧w'.ownsRow w.heap.size 9 1 (.slice oa s.opn.length oc) s.opn.length (s.opn.map sv)∧Below w.heap.size w w' := by
  have hc:=h.cell
  have hlt:=h.lt
  have HO:=hide (h.rows.own (opnRow s L) (by simp [rowsOf]))
  unfold cellsOf at hc
  clear h
  cases hs:s.opn with
  | nil =>
    rw [hs] at hc
    clear HO hs
    obtain ⟨i0,hi,hz0,hz1,hz2⟩:=info_parts infoStr
    go_enter Tryz.func61,Tryz.ntmps61
    go_wp2_with (at_builtin;refine wpList_append_none rfl (.tmp 4) (.tmp 8) 22 9 rfl i0 Tryz.underlying22 hi L.oa L.oc rfl rfl ?_)
    go_ret
    exact ⟨none,0,rfl,World.ownsRow_nil _ _ _ _,Below.refl _ _⟩
  | cons y r =>
    obtain ⟨g,c,hv,hg1,hg2⟩:=World.ownsRow.form (unhide HO) (by simp [opnRow,hs])
    simp only [opnRow] at hv
    injection hv with hv1 hv2 hv3
    have hO:=unhide HO
    have hnews:Hid (∀ j u,(s.opn.map sv)[j]? = some u→w.cell? ((⟨g,0,none⟩:Addr).add j)=some u):=fun j u hu=>by
      have hadd:(⟨g,0,none⟩:Addr).add j=⟨g,j,none⟩:=by unfold Addr.add;split <;> simp_all
      have hj:j<s.opn.length:=by
        have:=(List.getElem?_eq_some_iff.1 hu).1
        simpa using this
      unfold Row.owned opnRow at hO
      simp only at hO
      rw [hv1] at hO
      rw [hadd,row_cell hO j (by omega)]
      exact hu
    obtain ⟨i0,hi,hz0,hz1,hz2⟩:=info_parts infoStr
    rw [hv1] at hc
    rw [← hs]
    have hpos:0<s.opn.length:=by simp [hs]
    have HN:Hid (w.ownsRow w.heap.size 9 1 (.slice none 0 0) 0 []):=World.ownsRow_nil _ _ _ _
    clear HO hO hs hv2 hv3 hg1
    go_enter Tryz.func61,Tryz.ntmps61
    go_wp2_with (at_builtin;refine wpList_append_lies _ rfl (.tmp 4) (.tmp 8) 22 rfl w.heap.size 9 i0 _ 1 16 Tryz.underlying22 hi hz0 hz1 hz2 rfl (by decide) (.slice none 0 0) 0 [] rfl (unhide HN) ⟨g,0,none⟩ s.opn.length L.oc (s.opn.map sv) rfl (by simp) (unhide hnews) (by intro u hu;obtain ⟨x,_,rfl⟩:=List.mem_map.1 hu;rfl) hpos (by unfold maxLen;omega) (by omega) (Nat.le_refl _) w.heap.size rfl ?_;intro g2 cap w2 hown hgrow hat hlt2;rw [Nat.zero_add] at *;have HOW:=hide hown;have HGR:=hide hgrow;clear hown hgrow hat)
    go_ret
    exact ⟨_,_,rfl,unhide HOW,below_grown (unhide HGR)⟩
theorem open_any {w:World} {b:Nat} {s:St} {L:Lay} (h:RdL w b s L) (hl:s.opn.length≤1000000000) :
    Calls Tryz.prog 36 #[.pointer (some ⟨b,0,none⟩)] w fun e w' => ∃ oa oc,e = .returned (.slice oa s.opn.length oc)∧w'.ownsRow w.heap.size 9 1 (.slice oa s.opn.length oc) s.opn.length (s.opn.map sv)∧Below w.heap.size w w' := by
  have HP:=hide (rOpen_any h hl)
  have hlt:=h.lt
  clear h
  go_enter Tryz.func36,Tryz.ntmps36
  go_wp2_with (go_at_call 61;refine (unhide HP).mono ?_;rintro e w' ⟨oa,oc,rfl,hown,hbel⟩;have HOW:=hide hown;have HB:=hide hbel;clear hown hbel)
  go_ret
  exact ⟨_,_,rfl,unhide HOW,unhide HB⟩
def joinOne (all:List Ev) (e:Ev):List Ev:=
  match all.getLast? with
  | some x=>if x.kind=3∧e.kind=3 then all.dropLast ++ [{ x with val:=x.val ++ e.val }] else all ++ [e]
  | none=>[e]
def join (all l:List Ev):List Ev:=l.foldl joinOne all
theorem joinOne_len (all:List Ev) (e:Ev):(joinOne all e).length≤all.length + 1:=by
  unfold joinOne
  split
  · split <;> simp
  · simp
theorem join_len (l:List Ev):∀ all,(join all l).length≤all.length + l.length:=by
  induction l with
  | nil=>intro all;simp [join]
  | cons e r ih =>
    intro all
    have h1:=joinOne_len all e
    have h2:=ih (joinOne all e)
    show (join (joinOne all e) r).length≤_
    simp;omega
theorem join_snoc (all l:List Ev) (e:Ev):join all (l ++ [e])=joinOne (join all l) e:=by simp [join]
theorem ownsRow_set {w:World} {base:Nat} {e:TypeId} {m g n c:Nat} {xs:List Value} (h:w.ownsRow base e m (.slice (some ⟨g,0,none⟩) n c) n xs) (j:Nat) (hj:j<n * m) (u:Value) :
    (w.setCell ⟨g,j,none⟩ u).ownsRow base e m (.slice (some ⟨g,0,none⟩) n c) n (xs.set j u):=by
  rcases h.2 with ⟨h1,_⟩ | ⟨g', cap,cur,hv,hb,hg,hnc,hm,hsz,htake⟩
  · cases h1
  · cases hv
    refine ⟨by rw [List.length_set];exact h.1,.inr ⟨g,c,cur.setIfInBounds j u,rfl,hb,heap_setCell_same w g j cur e u hg,hnc,hm,by simpa using hsz,?_⟩⟩
    rw [← htake,Array.toList_setIfInBounds,List.take_set]
structure Jf (w w' : World) (v1 v:Value):Prop where
  gr:w.grownBy w' v1.ownBlock
  lies:v.ownBlock=v1.ownBlock∨∃ g,v.ownBlock=some g∧w.heap.size≤g
theorem Jf.refl (w:World) (v:Value):Jf w w v v:=⟨⟨rfl,rfl,rfl,Nat.le_refl _,fun _ _ _=>rfl⟩,.inl rfl⟩
theorem Jf.step {w w1 w2:World} {v1 v v' : Value} (h:Jf w w1 v1 v) (hg:w1.grownBy w2 v.ownBlock) (hl:v'.ownBlock=v.ownBlock∨v'.ownBlock=some w1.heap.size):Jf w w2 v1 v' := by
  refine ⟨⟨hg.os.trans h.gr.os,hg.tape.trans h.gr.tape,hg.output.trans h.gr.output,Nat.le_trans h.gr.size hg.size,fun k hk hne => ?_⟩,?_⟩
  · refine (hg.block k (Nat.lt_of_lt_of_le hk h.gr.size) fun e => ?_).trans (h.gr.block k hk hne)
    rcases h.lies with h1 | ⟨g,h1,h2⟩
    · exact hne (e.trans h1)
    · rw [h1] at e;cases e;omega
  · rcases hl with h1 | h1
    · rw [h1];exact h.lies
    · exact .inr ⟨_,h1,h.gr.size⟩
theorem grownBy_allocFirst {w w1:World} {o:Obj} {r:Option Nat} (h:(w.alloc o).grownBy w1 r):w.grownBy w1 r:=
  ⟨h.os,h.tape,h.output,Nat.le_trans (by simp) h.size,fun k hk hne=>(h.block k (by simp;omega) hne).trans (Below.heap_alloc w o k hk)⟩
theorem evsRow_snoc (es:List (Ev × Value)) (p:Ev × Value):evsRow (es ++ [p])=evsRow es ++ evCells p.1 p.2:=by simp [evsRow]
theorem evsRow_len (es:List (Ev × Value)):(evsRow es).length=es.length * 5:=by
  induction es with
  | nil=>rfl
  | cons p r ih=>simp only [evsRow,List.flatMap_cons,List.length_append,List.length_cons] at ih ⊢;rw [ih];simp [evCells];omega
theorem evsRow_setLast (es:List (Ev × Value)) (x:Ev) (v:Value) (u:Bs):(evsRow (es ++ [(x,v)])).set (es.length * 5 + 3) (.string ⟨u.toArray⟩)=evsRow (es ++ [({ x with val:=u },v)]):=by
  rw [evsRow_snoc,evsRow_snoc,List.set_append,if_neg (by rw [evsRow_len];omega),evsRow_len]
  congr 1
  have:es.length * 5 + 3 - es.length * 5=3:=by omega
  rw [this]
  rfl
structure Jn (w w' : World) (v1 v:Value) (fp fp' : List Nat) (l:List Ev):Prop where
  jf:Jf w w' v1 v
  got:Got w' v l fp'
  sub:∀ k ∈ fp', k ∈ fp∨w.heap.size≤k
theorem blks_snoc (es:List (Ev × Value)) (p:Ev × Value):∀ k ∈ blks ((es ++ [p]).map evRow),k ∈ blks (es.map evRow)∨p.2.ownBlock=some k:=by
  intro k hk
  unfold blks at hk ⊢
  rw [List.map_append,List.filterMap_append] at hk
  rcases List.mem_append.1 hk with h | h
  · exact .inl h
  · obtain ⟨x,hx,hv⟩:=List.mem_filterMap.1 h
    simp at hx
    subst hx
    exact .inr hv
theorem mem_blks_of {es:List (Ev × Value)} {p:Ev × Value} (hp:p ∈ es) {k:Nat} (hk:p.2.ownBlock=some k):k ∈ blks (es.map evRow):=
  List.mem_filterMap.2 ⟨evRow p,List.mem_map_of_mem hp,hk⟩
theorem Jn.push {w wr w2:World} {v1 v:Value} {fp1 fp2 fp:List Nat} {A:List Ev} {e:Ev} {ev:Value} {o:Obj} (es:List (Ev × Value)) (hes:es.map (·.1)=A) (hrow:wr.ownsRow 0 53 5 v A.length (evsRow es)) (ha:∀ p ∈ es,(evRow p).owned wr 0)
    (hf:∀ k,v.ownBlock=some k→k ∈ fp) (hg:∀ k ∈ blks (es.map evRow),k ∈ fp∧v.ownBlock ≠ some k) (jf:Jf w wr v1 v) (sub:∀ k ∈ fp,k ∈ fp1 ++ fp2∨w.heap.size≤k)
    (he:(evRow (e,ev)).owned wr 0) (hev:∀ k,ev.ownBlock=some k→k ∈ fp2∧v.ownBlock ≠ some k)
    {g cap:Nat} (hown:w2.ownsRow 0 53 5 (.slice (some ⟨g,0,none⟩) (A.length + 1) cap) (A.length + 1) (evsRow es ++ evCells e ev)) (hgr:(wr.alloc o).grownBy w2 v.ownBlock) (hat:v.ownBlock=some g∨g=wr.heap.size + 1) (hfp2:∀ k ∈ fp2,k<w.heap.size) :
    Jn w w2 v1 (.slice (some ⟨g,0,none⟩) (A.length + 1) cap) (fp1 ++ fp2) (g :: (fp ++ fp2)) (A ++ [e]):=by
  have hgr' : wr.grownBy w2 v.ownBlock:=grownBy_allocFirst hgr
  have hkeep:∀ r:Row,r.owned wr 0→(∀ k,r.v.ownBlock=some k→v.ownBlock ≠ some k)→r.owned w2 0:=fun r hr hne =>
    owned_keep hr fun k hk=>hgr'.block k (hr.lt k hk).2 fun e=>hne k hk e.symm
  refine ⟨⟨?_,?_⟩,⟨es ++ [(e,ev)],by simp [hes],by rw [evsRow_snoc];simpa using hown,?_,fun k hk=>by cases hk;exact List.mem_cons_self,?_⟩,?_⟩
  · exact (Jf.step (v' := v) jf hgr' (.inl rfl)).gr
  · rcases hat with h | h
    · rcases jf.lies with h1 | ⟨q,h1,h2⟩
      · exact .inl (by rw [← h1,h];rfl)
      · exact .inr ⟨g,rfl,by rw [h] at h1;cases h1;exact h2⟩
    · exact .inr ⟨g,rfl,by have:=jf.gr.size;omega⟩
  · intro p hp
    rcases List.mem_append.1 hp with hp | hp
    · exact hkeep _ (ha p hp) fun k hk=>(hg k (mem_blks_of hp hk)).2
    · simp at hp
      subst hp
      exact hkeep _ he fun k hk=>(hev k hk).2
  · intro k hk
    have hnew:∀ k,(k ∈ fp∨k ∈ fp2)→k<wr.heap.size→v.ownBlock ≠ some k→(Value.slice (some ⟨g,0,none⟩) (A.length + 1) cap).ownBlock ≠ some k:=by
      intro k _ hk2 hne hE
      have:g=k:=by simpa [Value.ownBlock] using hE
      subst this
      rcases hat with h | h
      · exact hne h
      · omega
    rcases blks_snoc es (e,ev) k hk with h | h
    · have h7:=hg k h
      have hlt:k<wr.heap.size:=by
        obtain ⟨r,hr,hv⟩:=List.mem_filterMap.1 h
        obtain ⟨p,hp,rfl⟩:=List.mem_map.1 hr
        exact ((ha p hp).lt k hv).2
      exact ⟨List.mem_cons_of_mem _ (List.mem_append_left _ h7.1),hnew k (.inl h7.1) hlt h7.2⟩
    · have h7:=hev k h
      exact ⟨List.mem_cons_of_mem _ (List.mem_append_right _ h7.1),hnew k (.inr h7.1) (by have:=hfp2 k h7.1;have:=jf.gr.size;omega) h7.2⟩
  · intro k hk
    rcases List.mem_cons.1 hk with rfl | hk
    · rcases hat with h | h
      · exact sub _ (hf _ h)
      · exact .inr (by have:=jf.gr.size;omega)
    · rcases List.mem_append.1 hk with hk | hk
      · exact sub k hk
      · exact .inl (List.mem_append_right _ hk)
theorem Jn.put {w wr:World} {v1:Value} {fp1 fp2 fp:List Nat} {B:List Ev} {x:Ev} {xv:Value} {g n c:Nat} (es:List (Ev × Value)) (hes:es.map (·.1)=B) (hn:n=B.length + 1) (hrow:wr.ownsRow 0 53 5 (.slice (some ⟨g,0,none⟩) n c) n (evsRow (es ++ [(x,xv)])))
    (ha:∀ p ∈ es ++ [(x,xv)],(evRow p).owned wr 0) (hf:∀ k,(Value.slice (some ⟨g,0,none⟩) n c).ownBlock=some k→k ∈ fp) (hg:∀ k ∈ blks ((es ++ [(x,xv)]).map evRow),k ∈ fp∧(Value.slice (some ⟨g,0,none⟩) n c).ownBlock ≠ some k)
    (jf:Jf w wr v1 (.slice (some ⟨g,0,none⟩) n c)) (sub:∀ k ∈ fp,k ∈ fp1 ++ fp2∨w.heap.size≤k) (u:Bs) :
    Jn w (wr.setCell ⟨g,B.length * 5 + 3,none⟩ (.string ⟨u.toArray⟩)).drew v1 (.slice (some ⟨g,0,none⟩) n c) (fp1 ++ fp2) fp (B ++ [{ x with val:=u }]):=by
  subst hn
  have hle:es.length=B.length:=by rw [← hes];simp
  have hgr:wr.grownBy (wr.setCell ⟨g,B.length * 5 + 3,none⟩ (.string ⟨u.toArray⟩)).drew (Value.slice (some ⟨g,0,none⟩) (B.length + 1) c).ownBlock:=
    ⟨rfl,rfl,rfl,by simp [World.setCell],fun k hk hne=>Below.heap_setCell _ _ _ _ (fun e=>hne (by rw [e];rfl))⟩
  have hset:=ownsRow_set hrow (B.length * 5 + 3) (by omega) (.string ⟨u.toArray⟩)
  rw [← hle,evsRow_setLast,hle] at hset
  refine ⟨Jf.step jf hgr (.inl rfl),⟨es ++ [({ x with val:=u },xv)],by simp [hes],?_,?_,hf,?_⟩,sub⟩
  · have h8:(B ++ [{ x with val:=u }]).length=B.length + 1:=by simp
    rw [h8]
    exact owned_keep (r:=⟨53,5,_,_,_⟩) hset fun _ _=>rfl
  · intro p hp
    have hk:∀ q:Ev × Value,q ∈ es ++ [(x,xv)]→(evRow q).owned (wr.setCell ⟨g,B.length * 5 + 3,none⟩ (.string ⟨u.toArray⟩)).drew 0:=fun q hq =>
      owned_keep (ha q hq) fun k hk=>hgr.block k ((ha q hq).lt k hk).2 fun e=>(hg k (mem_blks_of hq hk)).2 e.symm
    rcases List.mem_append.1 hp with hp | hp
    · exact hk p (List.mem_append_left _ hp)
    · simp at hp
      subst hp
      exact hk (x,xv) (List.mem_append_right _ (by simp))
  · intro k hk
    rcases blks_snoc es _ k hk with h | h
    · refine hg k ?_
      unfold blks at h ⊢
      rw [List.map_append,List.filterMap_append]
      exact List.mem_append_left _ h
    · exact hg k (mem_blks_of (p:=(x,xv)) (List.mem_append_right _ (by simp)) h)
end Go.Proofs.YtmgfijllcdadgabGreatDoor
