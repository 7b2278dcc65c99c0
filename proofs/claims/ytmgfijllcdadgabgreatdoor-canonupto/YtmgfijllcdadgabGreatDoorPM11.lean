/- SpL, SpL2 -/
import Derived.Test.YtmgfijllcdadgabGreatDoorPM09
set_option linter.unusedVariables false
set_option linter.unusedSimpArgs false
namespace Go.Proofs.YtmgfijllcdadgabGreatDoor
open Go.RowKit
open Mk (St Bs Ev Att)
theorem first_le (s:St):Mk.first s≤s.bnd.length:=by
  unfold Mk.first
  split
  · exact Nat.le_refl _
  · split <;> omega
theorem row_form {w:World} {base:Nat} {e:TypeId} {size n:Nat} {a:Option Addr} {c:Nat} {xs:List Value} (h:w.ownsRow base e size (.slice a n c) n xs):(a=none∧c=0∧n=0)∨∃ g,a=some ⟨g,0,none⟩∧n≤c∧g<w.heap.size∧∀ j,j<n * size→w.cell? ⟨g,j,none⟩=xs[j]? := by
  rcases h.2 with ⟨h1,h2⟩ | ⟨g,cap,cur,hv,hb,hg,hnc,hm,hsz,htake⟩
  · injection h1 with h3 h4 h5
    exact .inl ⟨h3,h5,h2⟩
  · injection hv with h3 h4 h5
    subst h3;subst h5
    exact .inr ⟨g,rfl,hnc,(Array.getElem?_eq_some_iff.1 hg).1,fun j hj=>spRow h j hj⟩
theorem cnt_last {w:World} {b:Nat} {s:St} {L:Lay} (h:RdL w b s L) (hn:s.cnt ≠ []):∃ (l:List Nat) (x:Nat) (g:Nat),s.cnt=l ++ [x]∧s.cnt.length=l.length + 1∧L.ca=some ⟨g,0,none⟩∧l.length + 1≤L.cc∧w.cell? ⟨g,l.length,none⟩=some (.int .i64 (x:Int)):=by
  have hrow:=h.rows.own (cntRow s L) (by simp [rowsOf])
  have hlen:s.cnt.length=s.cnt.dropLast.length + 1:=by
    have:=List.length_pos_iff.2 hn
    rw [List.length_dropLast];omega
  rcases row_form (a:=L.ca) (c:=L.cc) (n:=s.cnt.length) (size:=1) hrow with ⟨_,_,h3⟩ | ⟨g,h1,h2,h3,h4⟩
  · omega
  · refine ⟨s.cnt.dropLast,s.cnt.getLast hn,g,(List.dropLast_concat_getLast hn).symm,hlen,h1,by omega,?_⟩
    rw [h4 _ (by omega)]
    show (s.cnt.map nv)[_]? = _
    rw [List.getElem?_map,List.getElem?_eq_getElem (by omega)]
    simp only [Option.map_some,nv]
    congr 3
    rw [List.getLast_eq_getElem]
    congr 1
    omega
set_option maxHeartbeats 1000000 in
theorem first_any {w:World} {b:Nat} {s:St} {L:Lay} (h:RdL w b s L) (hb:s.bnd.length≤300000000) (hcn:s.cnt.length≤100000100) (hcb:∀ c ∈ s.cnt,c≤32) :
    Calls Tryz.prog 175 #[.pointer (some ⟨b,7,none⟩)] w fun e w' => e = .returned (.int .i64 (Mk.first s:Int))∧∃ n,w' = w.drewN n:=by
  have hc:=h.cell
  have hlt:=h.lt
  unfold cellsOf at hc
  by_cases hn:s.cnt=[]
  · have hi:Mk.first s=s.bnd.length:=by simp [Mk.first,hn]
    have hl:s.cnt.length=0:=by simp [hn]
    rw [hi]
    rw [hl] at hc
    clear h hi hn hl
    go_enter Tryz.func175,Tryz.ntmps175
    go_wp2
    go_quiet (fail)
    go_wp2
    go_ret
    exact ⟨rfl,_,rfl⟩
  · obtain ⟨l,x,g,h1,h2,h3,h4,h5⟩:=cnt_last h hn
    have hx:x≤32:=hcb x (by rw [h1];simp)
    have hi:Mk.first s=if s.bnd.length<x then s.bnd.length else s.bnd.length - x:=by simp [Mk.first,h1]
    rw [hi]
    rw [h2,h3] at hc
    have e0:decide ((l.length:Int)<0)=false:=by simp
    have hl1:((l.length + 1:Nat):Int) - 1=(l.length:Int):=by omega
    rw [h2] at hcn
    clear h hi h1 hn hcb h2
    by_cases hg:s.bnd.length<x
    · rw [if_pos hg]
      have e1:decide ((s.bnd.length:Int)<(x:Int))=true:=by simp;omega
      go_enter Tryz.func175,Tryz.ntmps175
      go_wp2
      go_quiet (fail)
      go_wp2
      go_ret
      exact ⟨rfl,_,rfl⟩
    · rw [if_neg hg]
      have e1:decide ((s.bnd.length:Int)<(x:Int))=false:=by simp;omega
      have e2:((s.bnd.length - x:Nat):Int)=(s.bnd.length:Int) - (x:Int):=by omega
      rw [e2]
      clear e2
      go_enter Tryz.func175,Tryz.ntmps175
      go_wp2
      go_quiet (fail)
      go_wp2
      go_quiet (fail)
      go_wp2
      go_ret
      exact ⟨rfl,_,spDrew _ _ _⟩
theorem spAppendNone {P:Program} (w:World) (t ty e:TypeId) (i:TypeInfo) (ht:P.underlying t=some (.slice e)) (hi:P.info? e=some i) (ao:Option Addr) (c:Nat) :
    (Builtin.append_ #[t,t] ty #[.slice none 0 0,.slice ao 0 c]).run P w = .ok (.slice none 0 0) w:=by
  cases ao <;> simp [Builtin.append_,run_underlying ht,sizeOf,typeInfo,hi,Builtin.lenOf,Builtin.firstCells,storeCells,loadCells,loadCellsFrom]
theorem spListNone {P:Program} {ops:Array Oper} {rest:List Oper} {o:Oper} {a:Act} {w:World} {Q:Exit→Act→World→Prop} (hgd:o.guard=none) (s x:Operand) (t e:TypeId)
    (ho:o.op = .call { callee:=.builtin .append,args:=#[s,x],argTypes:=#[t,t] }) (i:TypeInfo) (ht:P.underlying t=some (.slice e)) (hi:P.info? e=some i) (ao:Option Addr) (c:Nat) (hs:a.eval s = .slice none 0 0) (hx:a.eval x = .slice ao 0 c)
    (h:wpList P ops Q rest (a.put o.dst (.slice none 0 0)) w):wpList P ops Q (o :: rest) a w:=
  wpList_plain hgd fun _ hK=>by
    unfold Oper.wp execOp
    simp only [ho,resolve,invoke,builtin,Sem.run_bind,Sem.run_pure,Result.andThen_ok,List.map_toArray,List.map_cons,List.map_nil,hs,hx,spAppendNone w t o.type e i ht hi ao c]
    exact hK _ _ h
theorem spBelowG {w w' : World} (h:w.grownBy w' none):Below w.heap.size w w' := ⟨h.os,h.tape,h.output,h.size,fun k hk=>h.block k hk (by simp)⟩
theorem bndsRow_drop (l:List (Bs × Bs)):∀ (k:Nat),bndsRow (l.drop k)=(bndsRow l).drop (k * 2):=by
  induction l with
  | nil=>intro k;simp [bndsRow]
  | cons x r ih =>
    intro k
    cases k with
    | zero=>simp
    | succ k =>
      have e1:bndsRow (x :: r) = .string ⟨x.1.toArray⟩ :: .string ⟨x.2.toArray⟩ :: bndsRow r:=rfl
      have e2:(k + 1) * 2=k * 2 + 1 + 1:=by omega
      rw [List.drop_succ_cons,ih k,e1,e2,List.drop_succ_cons,List.drop_succ_cons]
theorem bndsRow_len (l:List (Bs × Bs)):(bndsRow l).length=l.length * 2:=by
  induction l with
  | nil=>rfl
  | cons x r ih=>simp only [bndsRow,List.flatMap_cons,List.length_append,List.length_cons] at ih ⊢;rw [ih];simp [bndCells];omega
set_option maxHeartbeats 2000000 in
set_option maxRecDepth 100000 in
theorem Declared_any {w:World} {b:Nat} {s:St} {L:Lay} (h:RdL w b s L) (hb:s.bnd.length≤300000000) (hcn:s.cnt.length≤100000100) (hcb:∀ c ∈ s.cnt,c≤32) :
    Calls Tryz.prog 174 #[.pointer (some ⟨b,7,none⟩)] w fun e w' => ∃ a c,e = .returned (.slice a (Mk.ofTag s).length c)∧w'.ownsRow w.heap.size 137 2 (.slice a (Mk.ofTag s).length c) (Mk.ofTag s).length (bndsRow (Mk.ofTag s))∧Below w.heap.size w w' := by
  have HF:=hide (first_any h hb hcn hcb)
  have hle:=first_le s
  have hm:(Mk.ofTag s).length=s.bnd.length - Mk.first s:=by unfold Mk.ofTag;simp
  have htag:Mk.ofTag s=s.bnd.drop (Mk.first s):=rfl
  rw [hm]
  have HD:=hide htag
  generalize Mk.ofTag s=tag at *
  generalize Mk.first s=F at *
  obtain ⟨i0,hi,hz0,hz1,hz2⟩:=info_parts infoBnd
  have HH:=hide h
  have hrow:=h.rows.own (bndRow s L) (by simp [rowsOf])
  have hrow' : w.ownsRow (b - 1) 137 2 (.slice L.ba s.bnd.length L.bc) s.bnd.length (bndsRow s.bnd):=hrow
  clear h htag hm hrow hcb
  rcases row_form hrow' with ⟨q1,q2,q3⟩ | ⟨g,q1,q2,q3,q4⟩
  · have hF:F=0:=by omega
    subst hF
    have htn:tag=[]:=by have:=unhide HD;rw [List.drop_zero] at this;rw [this];exact List.eq_nil_of_length_eq_zero q3
    have HTN:=hide htn
    rw [q3]
    clear hrow' htn
    go_enter Tryz.func174,Tryz.ntmps174
    go_wp2_with fail
    refine (unhide HF).mono ?_
    rintro e w1 ⟨rfl,n,rfl⟩
    have hc:=((unhide HH).drewN n).cell
    unfold cellsOf at hc
    rw [q1,q2,q3] at hc
    have hbl:Below w.heap.size w (w.drewN n):=⟨rfl,rfl,rfl,Nat.le_of_eq (by rw [heap_drewN]),fun _ _=>by rw [heap_drewN]⟩
    have HBL:=hide hbl
    clear hbl
    generalize w.drewN n=w1 at *
    go_wp2_with (at_builtin;refine spListNone rfl (.tmp 7) (.tmp 13) 95 137 rfl i0 Tryz.underlying95 hi _ _ rfl rfl ?_)
    go_ret
    refine ⟨none,0,rfl,?_,unhide HBL⟩
    rw [unhide HTN]
    exact World.ownsRow_nil _ _ _ _
  · by_cases hz:F=s.bnd.length
    · have htn:tag=[]:=by have:=unhide HD;rw [hz,List.drop_length] at this;exact this
      have hmz:s.bnd.length - F=0:=by omega
      rw [hmz]
      have HTN:=hide htn
      subst hz
      clear hrow' htn hmz
      go_enter Tryz.func174,Tryz.ntmps174
      go_wp2_with fail
      refine (unhide HF).mono ?_
      rintro e w1 ⟨rfl,n,rfl⟩
      have hc:=((unhide HH).drewN n).cell
      unfold cellsOf at hc
      rw [q1] at hc
      have hbl:Below w.heap.size w (w.drewN n):=⟨rfl,rfl,rfl,Nat.le_of_eq (by rw [heap_drewN]),fun _ _=>by rw [heap_drewN]⟩
      have HBL:=hide hbl
      clear hbl
      generalize w.drewN n=w1 at *
      have k1:¬ (s.bnd.length:Int)<0:=by omega
      have k2:s.bnd.length - s.bnd.length=0:=by omega
      go_wp2_with (at_builtin;refine spListNone rfl (.tmp 7) (.tmp 13) 95 137 rfl i0 Tryz.underlying95 hi _ _ rfl (by simp [Act.eval];rfl) ?_)
      all_goals
        go_ret
        refine ⟨none,0,rfl,?_,unhide HBL⟩
        rw [unhide HTN]
        exact World.ownsRow_nil _ _ _ _
    · have hpos:0<s.bnd.length - F:=by omega
      have hnw0:∀ j u,(bndsRow (s.bnd.drop F))[j]? = some u→w.cell? ⟨g,F * 2 + j,none⟩=some u:=fun j u hu=>by
        rw [bndsRow_drop,List.getElem?_drop] at hu
        have hj:=(List.getElem?_eq_some_iff.1 hu).1
        rw [bndsRow_len] at hj
        rw [q4 _ hj]
        exact hu
      have hN0:=hide hnw0
      have HL0:=hide (show (bndsRow tag).length=(s.bnd.length - F) * 2 by rw [unhide HD,bndsRow_len];simp)
      clear hrow' hnw0
      go_enter Tryz.func174,Tryz.ntmps174
      go_wp2_with fail
      refine (unhide HF).mono ?_
      rintro e w1 ⟨rfl,n,rfl⟩
      have hc:=((unhide HH).drewN n).cell
      unfold cellsOf at hc
      rw [q1] at hc
      have HN:Hid (∀ j u,(bndsRow tag)[j]? = some u→(w.drewN n).cell? ((⟨g,F * 2,none⟩:Addr).add j)=some u):=fun j u hu=>by
        have hadd:(⟨g,F * 2,none⟩:Addr).add j=⟨g,F * 2 + j,none⟩:=by unfold Addr.add;split <;> simp_all
        rw [hadd]
        rw [unhide HD] at hu
        exact unhide hN0 j u hu
      have hbl:Below w.heap.size w (w.drewN n):=⟨rfl,rfl,rfl,Nat.le_of_eq (by rw [heap_drewN]),fun _ _=>by rw [heap_drewN]⟩
      have HBL:=hide hbl
      have HSZ:=hide (show (w.drewN n).heap.size=w.heap.size by rw [heap_drewN])
      have HNIL:Hid ((w.drewN n).ownsRow w.heap.size 137 2 (.slice none 0 0) 0 []):=World.ownsRow_nil _ _ _ _
      clear hbl
      generalize w.drewN n=w1 at *
      have k1:¬ (F:Int)<0:=by omega
      have k2:(F:Int)≤(s.bnd.length:Int):=by omega
      have k3:¬ (s.bnd.length:Int)<(F:Int):=by omega
      have hone:∀ u ∈ bndsRow tag,u.oneCell' = true:=fun u hu=>by
        obtain ⟨p,_,hp⟩:=List.mem_flatMap.1 hu
        exact bndCells_one p u hp
      have HONE:=hide hone
      clear hone
      go_wp2_with (at_builtin;refine wpList_append_lies _ rfl (.tmp 7) (.tmp 13) 95 rfl w.heap.size 137 i0 _ 2 32 Tryz.underlying95 hi hz0 hz1 hz2 rfl (by decide) (.slice none 0 0) 0 [] rfl (unhide HNIL) ⟨g,F * 2,none⟩ (s.bnd.length - F) (L.bc - F) (bndsRow tag) (by simp [Act.eval]) (unhide HL0) (unhide HN) (unhide HONE) hpos (by unfold maxLen;omega) (by omega) (by rw [unhide HSZ];exact Nat.le_refl _) w.heap.size (unhide HSZ) ?_;intro g2 cap w2 hown hgrow hat hlt2;rw [Nat.zero_add] at *;have HOW:=hide hown;have HGR:=hide hgrow;clear hown hgrow hat)
      all_goals
        go_ret
        have hgr:=unhide HGR
        have hbz:Below w.heap.size w1 w2:=by
          have:=spBelowG hgr
          rw [unhide HSZ] at this
          exact this
        exact ⟨_,_,rfl,unhide HOW,(unhide HBL).trans hbz⟩
theorem own_shrink {w:World} {base:Nat} {e:TypeId} {size n:Nat} {a:Option Addr} {c:Nat} {xs:List Value} (h:w.ownsRow base e size (.slice a n c) n xs) (k:Nat) (hk:k≤n):w.ownsRow base e size (.slice a k c) k (xs.take (k * size)):=by
  have hl:=h.1
  have hkn:k * size≤n * size:=Nat.mul_le_mul_right _ hk
  refine ⟨by rw [List.length_take];omega,?_⟩
  rcases h.2 with ⟨h1,h2⟩ | ⟨g,cap,cur,hv,hb,hg,hnc,hm,hsz,htake⟩
  · injection h1 with h3 h4 h5
    have:k=0:=by omega
    subst this
    exact .inl ⟨by rw [h3,h5],rfl⟩
  · injection hv with h3 h4 h5
    refine .inr ⟨g,cap,cur,by rw [h3,h5],hb,hg,by omega,hm,hsz,?_⟩
    rw [← htake,List.take_take]
    congr 1
    omega
theorem bndsRow_take (l:List (Bs × Bs)):∀ (k:Nat),bndsRow (l.take k)=(bndsRow l).take (k * 2):=by
  induction l with
  | nil=>intro k;simp [bndsRow]
  | cons x r ih =>
    intro k
    cases k with
    | zero=>simp [bndsRow]
    | succ k =>
      have e1:bndsRow (x :: r) = .string ⟨x.1.toArray⟩ :: .string ⟨x.2.toArray⟩ :: bndsRow r:=rfl
      have e2:(k + 1) * 2=k * 2 + 1 + 1:=by omega
      have e3:bndsRow (x :: r.take k) = .string ⟨x.1.toArray⟩ :: .string ⟨x.2.toArray⟩ :: bndsRow (r.take k):=rfl
      rw [List.take_succ_cons,e1,e2,e3,List.take_succ_cons,List.take_succ_cons,ih k]
section
variable {w0 w:World} {b:Nat} {f0:List Nat} {s:St} {L:Lay}
theorem Mv.takeBnd (m:Mv w0 b f0 w s L) (k:Nat) (hk:k≤s.bnd.length):Mv w0 b f0 (w.setCell ⟨b,7,none⟩ (.slice L.ba k L.bc)) { s with bnd:=s.bnd.take k } L:=by
  have hrow:=m.rd.rows.own (bndRow s L) (by simp [rowsOf])
  have hrow' : w.ownsRow (b - 1) 137 2 (.slice L.ba s.bnd.length L.bc) s.bnd.length (bndsRow s.bnd):=hrow
  have hlen:(s.bnd.take k).length=k:=by rw [List.length_take];omega
  have hown:(bndRow { s with bnd:=s.bnd.take k } L).owned w (b - 1):=by
    show w.ownsRow (b - 1) 137 2 (.slice L.ba (s.bnd.take k).length L.bc) (s.bnd.take k).length (bndsRow (s.bnd.take k))
    rw [hlen,bndsRow_take]
    exact own_shrink hrow' k hk
  have hgb:w.grownBy w (bndRow s L).v.ownBlock:=⟨rfl,rfl,rfl,Nat.le_refl _,fun _ _ _=>rfl⟩
  refine m.grow (s' := { s with bnd:=s.bnd.take k }) (L' := L) (r:=bndRow s L) (r' := bndRow { s with bnd:=s.bnd.take k } L) (rs:=opnRow s L :: tokRow s L :: attRow s L :: lstRow s L :: txtRow s L :: cntRow s L :: L.es.map evRow) 7 _ (perm6 _ _ _ _ _ _ _) (perm6 _ _ _ _ _ _ _) hown hgb (.inl ?_) ?_ m.rd.evs
  · simp only [bndRow]
    cases L.ba <;> rfl
  · simp [cellsOf,hlen]
theorem Mv.takeCnt (m:Mv w0 b f0 w s L) (k:Nat) (hk:k≤s.cnt.length):Mv w0 b f0 (w.setCell ⟨b,8,none⟩ (.slice L.ca k L.cc)) { s with cnt:=s.cnt.take k } L:=by
  have hrow:=m.rd.rows.own (cntRow s L) (by simp [rowsOf])
  have hrow' : w.ownsRow (b - 1) 3 1 (.slice L.ca s.cnt.length L.cc) s.cnt.length (s.cnt.map nv):=hrow
  have hlen:(s.cnt.take k).length=k:=by rw [List.length_take];omega
  have hown:(cntRow { s with cnt:=s.cnt.take k } L).owned w (b - 1):=by
    show w.ownsRow (b - 1) 3 1 (.slice L.ca (s.cnt.take k).length L.cc) (s.cnt.take k).length ((s.cnt.take k).map nv)
    rw [hlen,List.map_take]
    have:=own_shrink hrow' k hk
    rw [Nat.mul_one] at this
    exact this
  have hgb:w.grownBy w (cntRow s L).v.ownBlock:=⟨rfl,rfl,rfl,Nat.le_refl _,fun _ _ _=>rfl⟩
  refine m.grow (s' := { s with cnt:=s.cnt.take k }) (L' := L) (r:=cntRow s L) (r' := cntRow { s with cnt:=s.cnt.take k } L) (rs:=opnRow s L :: tokRow s L :: attRow s L :: lstRow s L :: txtRow s L :: bndRow s L :: L.es.map evRow) 8 _ (perm7 _ _ _ _ _ _ _ _) (perm7 _ _ _ _ _ _ _ _) hown hgb (.inl ?_) ?_ m.rd.evs
  · simp only [cntRow]
    cases L.ca <;> rfl
  · simp [cellsOf,hlen]
end
set_option maxHeartbeats 2000000 in
set_option maxRecDepth 100000 in
theorem Leave_any {w:World} {b:Nat} {s:St} {L:Lay} (h:RdL w b s L) (hb:s.bnd.length≤300000000) (hcn:s.cnt.length≤100000100) (hcb:∀ c ∈ s.cnt,c≤32) :
    Calls Tryz.prog 170 #[.pointer (some ⟨b,7,none⟩)] w fun e w' => e = .returned (.tuple #[])∧∃ L', Mv w b (foot s L) w' (Mk.leave s) L' := by
  have HF:=hide (first_any h hb hcn hcb)
  have hle:=first_le s
  have hlv:Mk.leave s={ s with bnd:=s.bnd.take (Mk.first s),cnt:=s.cnt.dropLast }:=rfl
  rw [hlv]
  clear hlv
  generalize Mk.first s=F at *
  have HH:=hide h
  have hrow' : w.ownsRow (b - 1) 137 2 (.slice L.ba s.bnd.length L.bc) s.bnd.length (bndsRow s.bnd):=h.rows.own (bndRow s L) (by simp [rowsOf])
  have hform:=row_form hrow'
  clear hrow' hcb
  by_cases hn:s.cnt=[]
  · have hl:s.cnt.length=0:=by simp [hn]
    have hdl:s.cnt.dropLast=s.cnt:=by rw [hn];rfl
    rw [hdl]
    clear h hn hdl
    rcases hform with ⟨q1,q2,q3⟩ | ⟨g,q1,q2,q3,q4⟩
    · have hF:F=0:=by omega
      subst hF
      go_enter Tryz.func170,Tryz.ntmps170
      go_wp2_with fail
      refine (unhide HF).mono ?_
      rintro e w1 ⟨rfl,n,rfl⟩
      have hm:=(unhide HH).start.drewN n
      have hc:=hm.rd.cell
      have hf:=hm.rd.frozen
      have hlt:=hm.rd.lt
      have HM:=hide (hm.takeBnd 0 (by omega))
      unfold cellsOf at hc
      rw [q1,q2] at HM
      rw [q1,q2,q3,hl] at hc
      clear hm
      generalize w.drewN n=w1 at *
      go_wp2
      go_end0
      exact ⟨rfl,L,unhide HM⟩
    · go_enter Tryz.func170,Tryz.ntmps170
      go_wp2_with fail
      refine (unhide HF).mono ?_
      rintro e w1 ⟨rfl,n,rfl⟩
      have hm:=(unhide HH).start.drewN n
      have hc:=hm.rd.cell
      have hf:=hm.rd.frozen
      have hlt:=hm.rd.lt
      have HM:=hide (hm.takeBnd F hle)
      unfold cellsOf at hc
      rw [q1] at HM
      rw [q1,hl] at hc
      clear hm q4
      have k1:¬ (F:Int)<0:=by omega
      have k2:(F:Int)≤(L.bc:Int):=by omega
      generalize w.drewN n=w1 at *
      go_wp2
      go_end0
      exact ⟨rfl,L,unhide HM⟩
  · obtain ⟨l,x,g2,h1,h2,h3,h4,h5⟩:=cnt_last h hn
    have hdl:s.cnt.dropLast=s.cnt.take l.length:=by rw [h1];simp
    rw [hdl]
    clear h hn hdl h1 h5
    rw [h2] at hcn
    have hl1:((l.length + 1:Nat):Int) - 1=(l.length:Int):=by omega
    rcases hform with ⟨q1,q2,q3⟩ | ⟨g,q1,q2,q3,q4⟩
    · have hF:F=0:=by omega
      subst hF
      go_enter Tryz.func170,Tryz.ntmps170
      go_wp2_with fail
      refine (unhide HF).mono ?_
      rintro e w1 ⟨rfl,n,rfl⟩
      have hm:=(unhide HH).start.drewN n
      have hc:=hm.rd.cell
      have hf:=hm.rd.frozen
      have hlt:=hm.rd.lt
      have HM:=hide (((hm.takeBnd 0 (by omega)).takeCnt l.length (by rw [h2];omega)).drew)
      unfold cellsOf at hc
      rw [q1,q2,h3] at HM
      rw [q1,q2,q3,h2,h3] at hc
      clear hm
      generalize w.drewN n=w1 at *
      go_wp2
      go_region
      all_goals
        go_wp2
        go_end0
        exact ⟨rfl,L,unhide HM⟩
    · go_enter Tryz.func170,Tryz.ntmps170
      go_wp2_with fail
      refine (unhide HF).mono ?_
      rintro e w1 ⟨rfl,n,rfl⟩
      have hm:=(unhide HH).start.drewN n
      have hc:=hm.rd.cell
      have hf:=hm.rd.frozen
      have hlt:=hm.rd.lt
      have HM:=hide (((hm.takeBnd F hle).takeCnt l.length (by rw [h2];omega)).drew)
      unfold cellsOf at hc
      rw [q1,h3] at HM
      rw [q1,h2,h3] at hc
      clear hm q4
      have k1:¬ (F:Int)<0:=by omega
      have k2:(F:Int)≤(L.bc:Int):=by omega
      generalize w.drewN n=w1 at *
      go_wp2
      go_region
      all_goals
        go_wp2
        go_end0
        exact ⟨rfl,L,unhide HM⟩
end Go.Proofs.YtmgfijllcdadgabGreatDoor
