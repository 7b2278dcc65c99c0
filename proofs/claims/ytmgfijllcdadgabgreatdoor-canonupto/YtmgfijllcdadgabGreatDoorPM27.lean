/- Run, RunH -/
import Derived.Test.YtmgfijllcdadgabGreatDoorPM26
import Derived.Test.YtmgfijllcdadgabGreatDoorPM24
import Derived.Laws.IdiomStrings
import Derived.Laws.ResultCell
set_option linter.unusedVariables false
set_option linter.unusedSimpArgs false
namespace Go.Proofs.YtmgfijllcdadgabGreatDoor
open Go.RowKit
open Mk (St Bs Ev Att)
def pk (c n:Int):Int:=(if c<0 then -(c + 1) else c) % n
theorem pk_bd (c n:Int) (hn:0<n):0≤pk c n∧pk c n<n:=by
  unfold pk
  exact ⟨Int.emod_nonneg _ (by omega),Int.emod_lt_of_pos _ hn⟩
theorem retI {k:IntKind} {a b:Int} (h:a=b):Ending.returned (.int k a) = .returned (.int k b):=by rw [h]
theorem pick_any (c n:Int) (c0 : -9223372036854775808≤c) (c1:c≤9223372036854775807) (n0:0<n) (n1:n≤1000000000000) (w:World) :
    Calls Tryz.prog 33 #[.int .i64 c,.int .i64 n] w fun e w' => e = .returned (.int .i64 (pk c n))∧w' = w:=by
  by_cases h:c<0
  · have e0:(n == 0)=false:=by rw [beq_eq_false_iff_ne];omega
    go_enter Tryz.func33,Tryz.ntmps33
    go_wp2
    go_ret
    refine ⟨retI ?_,rfl⟩
    unfold pk
    rw [if_pos h, ← Int.neg_tmod,Int.tmod_eq_emod_of_nonneg (by omega)]
  · have e0:(n == 0)=false:=by rw [beq_eq_false_iff_ne];omega
    go_enter Tryz.func33,Tryz.ntmps33
    go_wp2
    go_ret
    exact ⟨retI (by unfold pk;rw [if_neg (by omega)]),rfl⟩
def I64 (c:Int):Prop := -9223372036854775808≤c∧c≤9223372036854775807
theorem options_any (a b c:Int) (n:Bool) (ha:I64 a) (hb:I64 b) (hc:I64 c) (w:World) :
    Calls Tryz.prog 11 #[.int .i64 a,.int .i64 b,.int .i64 c,.bool n] w fun e w' => e = .returned (.agg #[.int .i64 (1 + pk a 64),.int .i64 (pk b 33),.int .i64 (8 + pk c 1017),.bool n])∧Below w.heap.size w w' := by
  have HA:=hide (fun w=>pick_any a 64 ha.1 ha.2 (by decide) (by decide) w)
  have HB:=hide (fun w=>pick_any b 33 hb.1 hb.2 (by decide) (by decide) w)
  have HC:=hide (fun w=>pick_any c 1017 hc.1 hc.2 (by decide) (by decide) w)
  have b1:=pk_bd a 64 (by decide)
  have b2:=pk_bd b 33 (by decide)
  have b3:=pk_bd c 1017 (by decide)
  clear ha hb hc
  generalize pk a 64=p1 at *
  generalize pk b 33=p2 at *
  generalize pk c 1017=p3 at *
  go_enter Tryz.func11,Tryz.ntmps11
  go_wp2_with fail
  refine (unhide HA _).mono ?_
  rintro e w' ⟨rfl,rfl⟩
  go_wp2_with fail
  refine (unhide HB _).mono ?_
  rintro e w' ⟨rfl,rfl⟩
  go_wp2_with fail
  refine (unhide HC _).mono ?_
  rintro e w' ⟨rfl,rfl⟩
  go_wp2
  exact bodyPost_ret (v:=.agg #[.int .i64 (1 + p1),.int .i64 p2,.int .i64 (8 + p3),.bool n]) (by simp [results,Tryz.results11,go_sem]) rfl ⟨rfl,by repeat (first | exact Below.refl _ _ | refine Below.alloc ?_ (by simp <;> omega) _)⟩
def runL (s:St) (evs:List Ev) (err:Int) (text:Bs):List Int→St × List Ev × Int
  | []=>((Mk.feed s text).1,join evs (Mk.feed s text).2.1,(Mk.feed s text).2.2)
  | c :: r=>runL (Mk.feed s (text.take (pk c (text.length + 1)).toNat)).1 (join evs (Mk.feed s (text.take (pk c (text.length + 1)).toNat)).2.1) (Mk.feed s (text.take (pk c (text.length + 1)).toNat)).2.2 (text.drop (pk c (text.length + 1)).toNat) r
structure Plc where
  ln:Int
  co:Int
  oa:Option Addr
  on:Nat
  oc:Nat
def Q0:Plc:=⟨0,0,none,0,0⟩
def outCells (v:Value) (err en at_:Int) (q:Plc):Array Value:=#[v,.int .i64 err,.int .i64 en,.int .i64 at_,.int .i64 q.ln,.int .i64 q.co,.slice q.oa q.on q.oc]
theorem owns_base {w:World} {base base' : Nat} {e:TypeId} {size:Nat} {v:Value} {n:Nat} {xs:List Value} (h:w.ownsRow base e size v n xs) (hb:base' ≤ base):w.ownsRow base' e size v n xs:=by
  refine ⟨h.1,?_⟩
  rcases h.2 with hn | ⟨g,cap,cur,hv,hg,rest⟩
  · exact .inl hn
  · exact .inr ⟨g,cap,cur,hv,Nat.le_trans hb hg,rest⟩
def Nms (n:Nat) (w:World) (oa:Option Addr) (on oc:Nat) (l:List Bs):Prop:=w.ownsRow n 9 1 (.slice oa on oc) l.length (l.map sv)
structure PlOk (n:Nat) (w:World) (q:Plc) (s:St):Prop where
  ln:q.ln=s.line
  co:q.co=s.column
  nm:Nms n w q.oa q.on q.oc s.opn
structure RunI (w w' : World) (b:Nat) (s:St) (L:Lay) (v:Value) (evs:List Ev) (fp:List Nat) (err:Int) (fed i:Nat):Prop where
  bel:Below w.heap.size w w'
  hb:w.heap.size + 3<b
  rd:RdL w' b s L
  xb:w'.heap[w.heap.size + 1 + 1]? = some (.cells (outCells v err 0 0 Q0) 38 (0,0))
  rb:w'.heap[w.heap.size + 1]? = some (.cells (outCells (.slice none 0 0) 0 0 0 Q0) 38 (0,0))
  got:Got w' v evs fp
  fpb:∀ k ∈ fp,w.heap.size + 2<k∧k<w'.heap.size∧k ≠ b∧k ∉ foot s L
  inv:Inv (12 * fed) s
  li:s.list=[]
  at0:0≤s.at_
  at1:s.at_≤fed
  len:evs.length≤133 * fed
  vals:∀ e ∈ evs,e.val.length≤fed * 13300000000
  tx:s.text=[]
theorem bytes_cells (W:World) (l:Bs):∀ j (hj:j<l.length),(W.drew.alloc (.cells (bytesRow ⟨l.toArray⟩ (grownCap W l.length 0 5)) 5 ((bytesRow ⟨l.toArray⟩ (grownCap W l.length 0 5)).size,(bytesRow ⟨l.toArray⟩ (grownCap W l.length 0 5)).size + 1))).cell? ⟨W.heap.size,j,none⟩=some (.int .u8 (l[j].toNat:Int)):=by
  intro j hj
  have h1:(W.drew.alloc (.cells (bytesRow ⟨l.toArray⟩ (grownCap W l.length 0 5)) 5 ((bytesRow ⟨l.toArray⟩ (grownCap W l.length 0 5)).size,(bytesRow ⟨l.toArray⟩ (grownCap W l.length 0 5)).size + 1))).heap[W.heap.size]? = some _:=heap_alloc_new W.drew _
  rw [cell_of_row _ _ j _ _ _ h1]
  unfold bytesRow
  rw [Array.getElem?_append_left (by simpa using hj)]
  simp [hj]
theorem ext_take (l:Bs) (n:Nat):(ByteArray.extract ⟨l.toArray⟩ 0 n)=⟨(l.take n).toArray⟩:=by
  apply ByteArray.ext
  simp [ByteArray.data_extract]
theorem ext_drop (l:Bs) (n:Nat):(ByteArray.extract ⟨l.toArray⟩ n l.length)=⟨(l.drop n).toArray⟩:=by
  apply ByteArray.ext
  simp [ByteArray.data_extract]
  rw [List.take_of_length_le (by simp)]
theorem heap_alloc3_new (w:World) (A B C:Obj):(((w.alloc A).alloc B).alloc C).heap[w.heap.size + 1 + 1]? = some C:=by
  have:=heap_alloc_new ((w.alloc A).alloc B) C
  simpa using this
theorem inv_make (d a t:Int) (n:Bool) (a2:a≤32):Inv 0 (Mk.make_ d a t n) where
  hx:=by simp [Mk.make_]
  ht:=by simp [Mk.make_]
  c0:=by simp [Mk.make_]
  c1:=by simp [Mk.make_]
  hl:=by simp [Mk.make_]
  ho:=by simp [Mk.make_]
  ha:=by simp [Mk.make_]
  hi:=fun _ _=>by simp [Mk.make_]
  oA:=a2
  hb:=by simp [Mk.make_]
  hc:=by simp [Mk.make_]
  cb:=fun c hc=>by simp [Mk.make_] at hc
  av:=fun x hx=>by simp [Mk.make_] at hx
  an:=fun x hx=>by simp [Mk.make_] at hx
  ax:=by simp [Mk.make_]
  bv:=fun x hx=>by
    have:x=(Mk.wXml,Mk.xmlSpace):=by simpa [Mk.make_] using hx
    subst this;decide
  hs:=.inl rfl
  pt:=by simp [Pt,Mk.make_]
  rn:=by simp [Mk.make_]
  r0:=by simp [Mk.make_]
  r1:=by simp [Mk.make_]
  m0:=by simp [Mk.make_]
  m1:=by simp [Mk.make_]
  am:=rfl
  on:=fun y hy=>by simp [Mk.make_] at hy
  hn:=by simp [Mk.make_]
  ev:=fun y hy=>by simp [Mk.make_] at hy
  l0:=by simp [Mk.make_]
  l1:=by simp [Mk.make_]
  cl0:=by simp [Mk.make_]
  cl1:=by simp [Mk.make_]
theorem close_at (s:St):(Mk.close s).1.at_=s.at_:=by
  unfold Mk.close
  split
  · split <;> rfl
  · rfl
theorem close_place (s:St):(Mk.close s).1.line=s.line∧(Mk.close s).1.column=s.column∧(Mk.close s).1.opn=s.opn:=by
  unfold Mk.close
  split
  · split <;> exact ⟨rfl,rfl,rfl⟩
  · exact ⟨rfl,rfl,rfl⟩
theorem runL_cons (s:St) (evs:List Ev) (err:Int) (text:Bs) (cuts:List Int) (i:Nat) (hi:i<cuts.length) (n:Nat) (hn:pk cuts[i] (text.length + 1)=n) :
    runL s evs err text (cuts.drop i)=runL (Mk.feed s (text.take n)).1 (join evs (Mk.feed s (text.take n)).2.1) (Mk.feed s (text.take n)).2.2 (text.drop n) (cuts.drop (i + 1)):=by
  rw [List.drop_eq_getElem_cons hi]
  have:(pk cuts[i] (text.length + 1)).toNat=n:=by rw [hn];rfl
  rw [runL,this]
theorem size_list (l:Bs):(ByteArray.mk l.toArray).size=l.length:=by simp [ByteArray.size]
theorem conv_bytes (W:World) (l:Bs):∃ W1 c,(convert 9 54 (.string ⟨l.toArray⟩)).run Tryz.prog W = .ok (.slice (some ⟨W.heap.size,0,none⟩) l.length c) W1∧Below W.heap.size W W1∧W1.heap.size=W.heap.size + 1∧∀ j (hj:j<l.length),W1.cell? ⟨W.heap.size,j,none⟩=some (.int .u8 (l[j].toNat:Int)):=by
  have h:=run_bytes_of_string (P:=Tryz.prog) W 9 54 5 ⟨l.toArray⟩ Tryz.underlying9 Tryz.underlying54 Tryz.underlying5
  rw [size_list] at h
  exact ⟨_,_,h,((Below.refl _ _).drew).alloc (Nat.le_refl _) _,by simp,bytes_cells W l⟩
theorem inv_take {k:Nat} {s:St} (h:Inv k s):Inv k (Mk.take s):=by
  unfold Mk.take Mk.endText
  split
  · exact { h with hl:=(by simp),ev:=(fun e he=>by simp at he) }
  · exact { h with hx:=(by simp),hl:=(by simp),ev:=(fun e he=>by simp at he) }
theorem inv_feed {k:Nat} {s:St} (h:Inv k s) (l:Bs):Inv (k + 12 * l.length) (Mk.feed s l).1:=by
  unfold Mk.feed
  split
  · exact inv_take (inv_feedAll l h)
  · exact h.mono (by omega)
theorem at_feed (s:St) (l:Bs):s.at_≤(Mk.feed s l).1.at_∧(Mk.feed s l).1.at_≤s.at_ + l.length:=by
  unfold Mk.feed
  split
  · have h1:=feedAll_at l s
    have h2:=at_endText (Mk.feedAll s l)
    show s.at_≤(Mk.endText (Mk.feedAll s l)).at_∧(Mk.endText (Mk.feedAll s l)).at_≤_
    rw [h2]
    exact h1
  · exact ⟨Int.le_refl _,by show s.at_≤_;omega⟩
theorem vals_feed {k:Nat} {s:St} (h:Inv k s) (l:Bs):∀ e ∈ (Mk.feed s l).2.1,e.val.length≤k + 12 * l.length + 37:=by
  unfold Mk.feed
  split
  · have h1:=inv_feedAll l h
    intro e he
    have h2:e ∈ (Mk.endText (Mk.feedAll s l)).list:=he
    unfold Mk.endText at h2
    split at h2
    · have:=h1.ev e h2;omega
    · rcases List.mem_append.1 h2 with h3 | h3
      · have:=h1.ev e h3;omega
      · simp at h3;subst h3;have:=h1.hx;show (Mk.feedAll s l).text.length≤_;omega
  · intro e he;cases he
theorem owns_lt {w:World} {base:Nat} {e:TypeId} {size:Nat} {v:Value} {n:Nat} {xs:List Value} (h:w.ownsRow base e size v n xs):∀ k,v.ownBlock=some k→k<w.heap.size:=by
  intro k hk
  rcases h.2 with ⟨h1,h2⟩ | ⟨g,cap,cur,h1,_,h3,_⟩
  · rw [h1] at hk;cases hk
  · rw [h1] at hk;cases hk;exact (Array.getElem?_eq_some_iff.1 h3).1
theorem Got.trim {w:World} {v:Value} {l:List Ev} {fp:List Nat} (h:Got w v l fp):Got w v l (fp.filter (· < w.heap.size)):=by
  obtain ⟨es,h1,h2,h3,h4,h5⟩:=h.ex
  refine ⟨es,h1,h2,h3,fun k hk=>List.mem_filter.2 ⟨h4 k hk,by simpa using owns_lt h2 k hk⟩,fun k hk=>⟨List.mem_filter.2 ⟨(h5 k hk).1,?_⟩,(h5 k hk).2⟩⟩
  obtain ⟨r,hr,hv⟩:=List.mem_filterMap.1 hk
  obtain ⟨p,hp,rfl⟩:=List.mem_map.1 hr
  simpa using owns_lt (h3 p hp) k hv
theorem Got.own {w:World} {v:Value} {l:List Ev} {fp:List Nat} (h:Got w v l fp):∀ k,v.ownBlock=some k→k ∈ fp:=by
  obtain ⟨es,h1,h2,h3,h4,h5⟩:=h.ex
  exact h4
theorem Got.slice {w:World} {v:Value} {l:List Ev} {fp:List Nat} (h:Got w v l fp):∃ a c,v = .slice a l.length c:=by
  obtain ⟨es,h1,h2,h3,h4,h5⟩:=h.ex
  exact slice_form h2
theorem RunI.away {w wr W1 w2:World} {b:Nat} {s s' : St} {L L' : Lay} {v:Value} {evs:List Ev} {fp:List Nat} {err:Int} {fed i:Nat} (R:RunI w wr b s L v evs fp err fed i) (hbW:Below wr.heap.size wr W1) (hM:Mv W1 b (foot s L) w2 s' L') :
    ∀ k,k<wr.heap.size→k ≠ b→k ∉ foot s L→w2.heap[k]? = wr.heap[k]? ∧ k ∉ foot s' L' := by
  intro k hk hb hf
  have h1:=hbW.size
  refine ⟨(hM.fr.block k (by omega) hb hf).trans (hbW.block k hk),fun hm => ?_⟩
  rcases hM.fr.foot k hm with h | h
  · exact hf h
  · omega
theorem RunI.box {w wr:World} {b:Nat} {s:St} {L:Lay} {v:Value} {evs:List Ev} {fp:List Nat} {err:Int} {fed i:Nat} (R:RunI w wr b s L v evs fp err fed i) (k:Nat) (hk:k≤w.heap.size + 2):k<wr.heap.size∧k ≠ b∧k ∉ foot s L:=by
  have h1:=R.hb
  have h2:=R.rd.lt
  exact ⟨by omega,by omega,fun hm=>by have:=(R.rd.foot_lt _ hm).1;omega⟩
theorem RunI.apart {w wr W1 w2:World} {b:Nat} {s s' : St} {L L' : Lay} {v:Value} {evs:List Ev} {fp fp2:List Nat} {err:Int} {fed i:Nat} (R:RunI w wr b s L v evs fp err fed i) (hbW:Below wr.heap.size wr W1)
    (hf2:∀ k ∈ fp2,(b≤k + 1∧k ≠ b)∧k<w2.heap.size∧k ∉ foot s' L' ∧ (k ∈ foot s L∨W1.heap.size≤k)):∀ k,v.ownBlock=some k→k ∉ fp2:=by
  intro k hk hm
  have h1:=R.fpb k (R.got.own k hk)
  have h2:=hbW.size
  rcases (hf2 k hm).2.2.2 with h | h
  · exact h1.2.2.2 h
  · omega
theorem feed_text (s:St) (l:Bs) (h:s.text=[]):(Mk.feed s l).1.text=[]:=by
  unfold Mk.feed
  split
  · unfold Mk.take Mk.endText
    split
    · rename_i h1;simpa using h1
    · rfl
  · exact h
theorem feed_len5 (s:St) (l:Bs) {k:Nat} (hI:Inv k s) (h:s.list=[]) (ht:s.text=[]):(Mk.feed s l).2.1.length≤133 * l.length:=by
  cases l with
  | nil =>
    unfold Mk.feed
    split
    · show (Mk.endText s).list.length≤_
      unfold Mk.endText
      rw [if_pos (by rw [ht];rfl),h]
      exact Nat.le_refl _
    · exact Nat.le_refl _
  | cons x r =>
    have:=feed_len s (x :: r) hI h
    simp only [List.length_cons] at this ⊢
    omega
theorem RunI.step {w wr W1 w2 w3:World} {b:Nat} {s:St} {L L' : Lay} {v v3:Value} {evs:List Ev} {fp fp2 fp3:List Nat} {err:Int} {fed i:Nat} (l:Bs) (R:RunI w wr b s L v evs fp err fed i) (hbW:Below wr.heap.size wr W1)
    (hM:Mv W1 b (foot s L) w2 (Mk.feed s l).1 L') (hf2:∀ k ∈ fp2,(b≤k + 1∧k ≠ b)∧k<w2.heap.size∧k ∉ foot (Mk.feed s l).1 L' ∧ (k ∈ foot s L∨W1.heap.size≤k))
    (hj:Jn w2 w3 v v3 (fp ++ fp2) fp3 (join evs (Mk.feed s l).2.1)) (hfl:fed + l.length≤7000000) (hs:w.heap.size≤wr.heap.size) :
    ∃ fp', RunI w ((w3.setCell ⟨w.heap.size + 1 + 1,0,none⟩ v3).setCell ⟨w.heap.size + 1 + 1,1,none⟩ (.int .i64 (Mk.feed s l).2.2)) b (Mk.feed s l).1 L' v3 (join evs (Mk.feed s l).2.1) fp' (Mk.feed s l).2.2 (fed + l.length) (i + 1):=by
  have hWs:=hbW.size
  have hMs:=hM.fr.size
  have hJs:=hj.jf.gr.size
  have hb:=R.hb
  have hbl:=R.rd.lt
  have hvo:∀ k,v.ownBlock=some k→w.heap.size + 2<k∧k<wr.heap.size∧k ≠ b∧k ∉ foot s L:=fun k hk=>R.fpb k (R.got.own k hk)
  have hfp3:∀ k ∈ fp3.filter (· < w3.heap.size),w.heap.size + 2<k∧k<w3.heap.size∧k ≠ b∧k ∉ foot (Mk.feed s l).1 L' := by
    intro k hk
    obtain ⟨hk1,hk2⟩:=List.mem_filter.1 hk
    simp at hk2
    rcases hj.sub k hk1 with h | h
    · rcases List.mem_append.1 h with h | h
      · have h1:=R.fpb k h
        exact ⟨h1.1,hk2,h1.2.2.1,(R.away hbW hM k h1.2.1 h1.2.2.1 h1.2.2.2).2⟩
      · have h1:=hf2 k h
        exact ⟨by omega,hk2,by omega,h1.2.2.1⟩
    · have:=hM.rd.lt
      exact ⟨by omega,hk2,by omega,fun hm=>by have:=(hM.rd.foot_lt _ hm).2;omega⟩
  have hbox:∀ k,k≤w.heap.size + 2→w3.heap[k]? = wr.heap[k]? := fun k hk=>by
    have h1:=R.box k hk
    refine (hj.jf.gr.block k (by omega) fun e => ?_).trans (R.away hbW hM k h1.1 h1.2.1 h1.2.2).1
    have:=(hvo k e.symm).1;omega
  have hrd3:RdL w3 b (Mk.feed s l).1 L' := hM.rd.keep fun k hk=>by
    have hkl:k<w2.heap.size:=by
      rcases hk with rfl | hk
      · exact hM.rd.lt
      · exact (hM.rd.foot_lt _ hk).2
    refine hj.jf.gr.block k hkl fun e => ?_
    have h1:=hvo k e.symm
    rcases hk with rfl | hk
    · exact h1.2.2.1 rfl
    · exact (R.away hbW hM k h1.2.1 h1.2.2.1 h1.2.2.2).2 hk
  have hx3:w3.heap[w.heap.size + 1 + 1]? = some (.cells (outCells v err 0 0 Q0) 38 (0,0)):=(hbox _ (by omega)).trans R.xb
  have hbel:Below w.heap.size w w3:=by
    refine R.bel.trans ((hbW.mono hs).trans (Below.trans (b:=w2) ⟨hM.fr.os,hM.fr.tape,hM.fr.output,hM.fr.size,fun k hk=>hM.fr.block k (by omega) (by omega) (R.box k (by omega)).2.2⟩ ⟨hj.jf.gr.os,hj.jf.gr.tape,hj.jf.gr.output,hj.jf.gr.size,fun k hk=>hj.jf.gr.block k (by omega) fun e => ?_⟩))
    have:=(hvo k e.symm).1;omega
  have hlen:=feed_len5 s l R.inv R.li R.tx
  have hal:=join_len (Mk.feed s l).2.1 evs
  have hl1:=R.len
  have hat:=at_feed s l
  have ha0:=R.at0
  have ha1:=R.at1
  have hkeep:∀ k,k ≠ w.heap.size + 1 + 1→((w3.setCell ⟨w.heap.size + 1 + 1,0,none⟩ v3).setCell ⟨w.heap.size + 1 + 1,1,none⟩ (.int .i64 (Mk.feed s l).2.2)).heap[k]? = w3.heap[k]? := fun k hk=>by
    rw [Below.heap_setCell _ _ _ _ hk,Below.heap_setCell _ _ _ _ hk]
  refine ⟨fp3.filter (· < w3.heap.size),(hbel.setCell (by simp <;> omega) _).setCell (by simp <;> omega) _,hb,?_,?_,?_,?_,?_,?_,feed_list s l R.li,by omega,by omega,by omega,?_,feed_text s l R.tx⟩
  · refine hrd3.keep fun k hk=>hkeep k fun e => ?_
    rcases hk with rfl | hk
    · omega
    · have:=(hM.rd.foot_lt _ hk).1;omega
  · exact heap_setCell_same _ _ 1 _ _ _ (heap_setCell_same _ _ 0 _ _ _ hx3)
  · exact (hkeep _ (by omega)).trans ((hbox _ (by omega)).trans R.rb)
  · exact hj.got.trim.keep fun k hk=>hkeep k (by have:=(hfp3 k hk).1;omega)
  · intro k hk
    have h1:=hfp3 k hk
    exact ⟨h1.1,by simpa using h1.2.1,h1.2.2.1,h1.2.2.2⟩
  · exact (inv_feed R.inv l).mono (by omega)
  · intro e he
    have h1:=join_bd (M:=100000000) _ R.vals (fun x hx=>by have:=vals_feed R.inv l x hx;omega) e he
    have h2:(Mk.feed s l).2.1.length * 100000000≤l.length * 13300000000:=by
      have:=Nat.mul_le_mul_right 100000000 hlen
      have e5:133 * l.length * 100000000=l.length * 13300000000:=by rw [Nat.mul_comm 133,Nat.mul_assoc]
      rw [e5] at this
      exact this
    rw [Nat.add_mul]
    exact Nat.le_trans h1 (Nat.add_le_add_left h2 _)
def outW (W:World) (X B:Nat) (x6 y0 y1 y2 y3 y4 y5 y6:Value):World:=
  ((((((((W.setCell ⟨X,6,none⟩ x6).setCell ⟨B,0,none⟩ y0).setCell ⟨B,1,none⟩ y1).setCell ⟨B,2,none⟩ y2).setCell ⟨B,3,none⟩ y3).setCell ⟨B,4,none⟩ y4).setCell ⟨B,5,none⟩ y5).setCell ⟨B,6,none⟩ y6)
theorem set_row {W:World} {B j:Nat} {cs cs' : Array Value} {t:TypeId} {u:Value} (h:W.heap[B]? = some (.cells cs t (0,0))) (hc:cs.setIfInBounds j u=cs'):(W.setCell ⟨B,j,none⟩ u).heap[B]? = some (.cells cs' t (0,0)):=by
  rw [← hc];exact heap_setCell_same _ _ _ _ _ _ h
theorem outW_row (W:World) (X B:Nat) (x6 y0 y1 y2 y3 y4 y5 y6:Value) (hne:B ≠ X) (t:TypeId) (z0 z1 z2 z3 z4 z5 z6:Value) (h:W.heap[B]? = some (.cells #[z0,z1,z2,z3,z4,z5,z6] t (0,0))) :
    (outW W X B x6 y0 y1 y2 y3 y4 y5 y6).heap[B]? = some (.cells #[y0,y1,y2,y3,y4,y5,y6] t (0,0)):=by
  unfold outW
  have h1:(W.setCell ⟨X,6,none⟩ x6).heap[B]? = some (.cells #[z0,z1,z2,z3,z4,z5,z6] t (0,0)):=by
    rw [Below.heap_setCell _ _ _ _ hne,h]
  have g0:=set_row (j:=0) (u:=y0) (cs' := #[y0,z1,z2,z3,z4,z5,z6]) h1 (by simp)
  have g1:=set_row (j:=1) (u:=y1) (cs' := #[y0,y1,z2,z3,z4,z5,z6]) g0 (by simp)
  have g2:=set_row (j:=2) (u:=y2) (cs' := #[y0,y1,y2,z3,z4,z5,z6]) g1 (by simp)
  have g3:=set_row (j:=3) (u:=y3) (cs' := #[y0,y1,y2,y3,z4,z5,z6]) g2 (by simp)
  have g4:=set_row (j:=4) (u:=y4) (cs' := #[y0,y1,y2,y3,y4,z5,z6]) g3 (by simp)
  have g5:=set_row (j:=5) (u:=y5) (cs' := #[y0,y1,y2,y3,y4,y5,z6]) g4 (by simp)
  have g6:=set_row (j:=6) (u:=y6) (cs' := #[y0,y1,y2,y3,y4,y5,y6]) g5 (by simp)
  exact g6
theorem outW_block (W:World) (X B:Nat) (x6 y0 y1 y2 y3 y4 y5 y6:Value) (k:Nat) (h1:k ≠ X) (h2:k ≠ B):(outW W X B x6 y0 y1 y2 y3 y4 y5 y6).heap[k]? = W.heap[k]? := by
  unfold outW
  rw [Below.heap_setCell _ _ _ _ h2,Below.heap_setCell _ _ _ _ h2,Below.heap_setCell _ _ _ _ h2,Below.heap_setCell _ _ _ _ h2,Below.heap_setCell _ _ _ _ h2,Below.heap_setCell _ _ _ _ h2,Below.heap_setCell _ _ _ _ h2,Below.heap_setCell _ _ _ _ h1]
theorem outW_size (W:World) (X B:Nat) (x6 y0 y1 y2 y3 y4 y5 y6:Value):(outW W X B x6 y0 y1 y2 y3 y4 y5 y6).heap.size=W.heap.size:=by
  unfold outW;simp
theorem outW_below {n:Nat} {w0:World} (W:World) (X B:Nat) (x6 y0 y1 y2 y3 y4 y5 y6:Value) (h:Below n w0 W) (hX:n≤X) (hB:n≤B):Below n w0 (outW W X B x6 y0 y1 y2 y3 y4 y5 y6):=by
  unfold outW
  exact ((((((((h.setCell hX _).setCell hB _).setCell hB _).setCell hB _).setCell hB _).setCell hB _).setCell hB _).setCell hB _)
theorem results_row_tmp {P:Program} {fn:Func} {p u:Tmp} {ty:TypeId} (h:fn.results=#[.cell p ty,.tmp u]) (tmps:Array Value) (w:World) (g:Nat) (t:TypeId) (cs:Array Value) (fr:Nat × Nat) (d:TypeDesc)
    (hp:tmps.getD p undef = .pointer (some ⟨g,0,none⟩)) (hg:w.heap[g]? = some (.cells cs t fr)) (hu:P.underlying ty=some d) (hd:(match d with | .struct _ | .array _ _=>true | _=>false)=true) (hi:(P.info? ty).map (·.size)=some cs.size) :
    (results fn tmps).run P w = .ok (.tuple #[.agg cs,tmps.getD u undef]) w:=by
  have h1:(asAddr (tmps.getD p undef)).run P w = .ok ⟨g,0,none⟩ w:=by rw [hp];simp [asAddr]
  rw [results_cell_tmp h,h1,Result.andThen_ok,run_loadVar_row w g t ty cs fr d hg hu hd hi,Result.andThen_ok]
end Go.Proofs.YtmgfijllcdadgabGreatDoor
