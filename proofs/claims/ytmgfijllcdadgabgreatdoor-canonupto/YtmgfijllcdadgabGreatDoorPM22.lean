/- Mk0, Mark -/
import Derived.Test.YtmgfijllcdadgabGreatDoorPM20
import Derived.Test.YtmgfijllcdadgabGreatDoorPM21
import Derived.Laws.Tables
import Derived.Laws.CopyOwn
import Derived.Deep.WholeRow
set_option linter.unusedVariables false
set_option linter.unusedSimpArgs false
namespace Go.Proofs.YtmgfijllcdadgabGreatDoor
open Go.RowKit
open Mk (St Bs Ev Att)
def xmlCells:Array Value:=#[.string ⟨Mk.wXml.toArray⟩,.string ⟨Mk.xmlSpace.toArray⟩]
theorem infoSc:(Tryz.prog.info? 97).map (·.size)=some 2:=by kernel_rfl
theorem heap_alloc2_old (w:World) (o1 o2:Obj):((w.alloc o1).alloc o2).heap[w.heap.size]? = some o1:=
  (Below.heap_alloc _ _ _ (by simp)).trans (heap_alloc_new w o1)
theorem spMake_any (w:World):Calls Tryz.prog 72 #[] w fun e w' => e = .returned (.agg #[.slice (some ⟨w.heap.size + 1,0,none⟩) 1 1,.slice none 0 0])∧w' = (w.alloc (.cells #[.slice (some ⟨w.heap.size + 1,0,none⟩) 1 1,.slice none 0 0] 97)).alloc (.cells xmlCells 137):=by
  go_enter Tryz.func72,Tryz.ntmps72
  go_wp2
  exact bodyPost_ret (v:=.agg #[.slice (some ⟨w.heap.size + 1,0,none⟩) 1 1,.slice none 0 0]) (results_cell_row rfl _ _ w.heap.size 97 #[.slice (some ⟨w.heap.size + 1,0,none⟩) 1 1,.slice none 0 0] (0,0) _ rfl (heap_alloc2_old w _ _) Tryz.underlying97 rfl infoSc) rfl ⟨rfl,rfl⟩
def rdCells (d a t:Int) (n:Bool) (g:Nat):Array Value:=
  #[.int .i64 d,.int .i64 a,.int .i64 t,.bool n,.int .i64 0,.slice none 0 0,.bool false,.slice (some ⟨g,0,none⟩) 1 1,.slice none 0 0,.slice none 0 0,.int .i64 0,.string ⟨#[]⟩,.string ⟨#[]⟩,.slice none 0 0,.int .u8 0,.string ⟨#[]⟩,
   .int .i64 0,.int .i64 0,.int .i64 0,.int .i64 0,.int .i64 0,.string ⟨#[]⟩,.int .i64 0,.bool false,.int .i64 1,.int .i64 1,.slice none 0 0,.slice none 0 0]
def rdZero:Array Value:=
  #[.int .i64 0,.int .i64 0,.int .i64 0,.bool false,.int .i64 0,.slice none 0 0,.bool false,.slice none 0 0,.slice none 0 0,.slice none 0 0,.int .i64 0,.string ⟨#[]⟩,.string ⟨#[]⟩,.slice none 0 0,.int .u8 0,.string ⟨#[]⟩,
   .int .i64 0,.int .i64 0,.int .i64 0,.int .i64 0,.int .i64 0,.string ⟨#[]⟩,.int .i64 0,.bool false,.int .i64 0,.int .i64 0,.slice none 0 0,.slice none 0 0]
theorem wpList_build {P:Program} {ops:Array Oper} {rest:List Oper} {o:Oper} {a:Act} {w:World} {Q:Exit→Act→World→Prop} (hgd:o.guard=none) (ty:TypeId) (ps:Array (Nat × Operand)) (ho:o.op = .build ty ps) (v:Value)
    (hr:∀ w,(Instr.build ty (ps.map fun (i,x)=>(i,a.eval x))).run P w = .ok v w) (h:wpList P ops Q rest (a.put o.dst v) w):wpList P ops Q (o :: rest) a w:=
  wpList_plain hgd fun _ hK=>by
    unfold Oper.wp execOp
    simp only [ho,hr,Sem.run_bind,Sem.run_pure,Result.andThen_ok]
    exact hK _ _ h
theorem infoRd:(Tryz.prog.info? 105).map (·.size)=some 28:=by kernel_rfl
theorem op_skip {P:Program} {ops:Array Oper} {Q:Exit→Act→World→Prop} {K:Act→World→Prop} {a:Act} {w w' : World} {i:Nat} {o:Oper} (ho:ops[i]? = some o) (hg:o.guard=none) (hd:o.dst=none) (hr:(execOp a.eval o).run P w = .ok .skip w') (hK:K a w'):wpOp P ops Q i K a w:=by
  unfold wpOp
  rw [ho]
  have hw:Region.wanted o (yielded ops a.tmps)=true:=by simp [Region.wanted,hg]
  simp only [hw,if_true]
  refine .inl ?_
  unfold Oper.wp
  rw [hr,Oper.upon_skip,hd]
  exact hK
structure MkJ (w:World) (d a t:Int) (n:Bool) (listed:Array Bool) (x:Act) (wx:World):Prop where
  sz:listed.size=4
  tsz:x.tmps.size=6
  df:x.defers=[]
  p1:x.tmps.getD 1 undef = .pointer (some ⟨w.heap.size,0,none⟩)
  p2:x.tmps.getD 2 undef = .pointer (some ⟨w.heap.size + 1,0,none⟩)
  bel:Below w.heap.size w wx
  o:wx.heap[w.heap.size]? = some (.cells #[.int .i64 d,.int .i64 a,.int .i64 t,.bool n] 25 (0,0))
  l0:listed.getD 0 false=true→x.tmps.getD 3 undef = .agg #[.int .i64 d,.int .i64 a,.int .i64 t,.bool n]
  l1:listed.getD 1 false=true→x.tmps.getD 4 undef = .agg #[.slice (some ⟨w.heap.size + 3,0,none⟩) 1 1,.slice none 0 0]∧wx.heap.size=w.heap.size + 4∧wx.heap[w.heap.size + 3]? = some (.cells xmlCells 137 (0,0))
  n1:listed.getD 1 false=false→wx.heap.size=w.heap.size + 2
  l2:listed.getD 2 false=true→x.tmps.getD 5 undef = .agg (rdCells d a t n (w.heap.size + 3))
  l3:listed.getD 3 false=true→wx.heap[w.heap.size + 1]? = some (.cells (rdCells d a t n (w.heap.size + 3)) 105 (0,0))
  n3:listed.getD 3 false=false→wx.heap[w.heap.size + 1]? = some (.cells rdZero 105 (0,0))
theorem getD_set4 {l:Array Bool} (h:l.size=4) (i k:Nat) (hi:i<4):(l.setIfInBounds i true).getD k false=if k=i then true else l.getD k false:=by
  by_cases e:k=i
  · subst e;simp [h,hi]
  · rw [getD_set_ne false (fun q=>e q.symm),if_neg e]
set_option maxHeartbeats 1000000 in
set_option maxRecDepth 100000 in
theorem make_any (d a t:Int) (n:Bool) (w:World) :
    Calls Tryz.prog 56 #[.agg #[.int .i64 d,.int .i64 a,.int .i64 t,.bool n]] w fun e w' => e = .returned (.agg (rdCells d a t n (w.heap.size + 3)))∧w'.heap.size=w.heap.size + 4∧Below w.heap.size w w' ∧ w'.heap[w.heap.size + 3]? = some (.cells xmlCells 137 (0,0)):=by
  go_enter Tryz.func56,Tryz.ntmps56
  go_wp2_with fail
  refine wp_region_any (by kernel_rfl) ?_
  refine wpAny_inv (MkJ w d a t n) ?step ?done _ _ _ _ ?start (idle_all _)
  case start =>
    refine ⟨rfl,rfl,rfl,rfl,rfl,?_,heap_alloc2_old w _ _,?_,?_,?_,?_,?_,?_⟩
    · have:Below w.heap.size w ((w.alloc (.cells #[.int .i64 d,.int .i64 a,.int .i64 t,.bool n] 25)).alloc (.cells rdZero 105)):=((Below.refl _ _).alloc (Nat.le_refl _) _).alloc (by simp) _
      exact ⟨this.os,this.tape,this.output,this.size,this.block⟩
    · intro h;exact absurd h (by decide)
    · intro h;exact absurd h (by decide)
    · intro _;simp
    · intro h;exact absurd h (by decide)
    · intro h;exact absurd h (by decide)
    · intro _;exact heap_alloc2_new w _ _
  case done =>
    intro listed x w6 hJ hr
    have hal:=all_listed (by rw [hJ.sz];rfl) ?dag hr
    case dag=>exact dag_of (by kernel_rfl)
    have h3:=hJ.l3 (hal 3 (by decide))
    have h1:=hJ.l1 (hal 1 (by decide))
    rename_i Q1 K1 hK1
    show K1 x w6
    apply hK1
    go_wp2
    exact bodyPost_ret (v:=.agg (rdCells d a t n (w.heap.size + 3))) (results_cell_row rfl _ _ (w.heap.size + 1) 105 (rdCells d a t n (w.heap.size + 3)) (0,0) _ hJ.p2 h3 Tryz.underlying105 rfl infoRd) hJ.df ⟨rfl,h1.2.1,hJ.bel,h1.2.2⟩
  case step =>
    intro listed x w6 i hJ hi
    obtain ⟨h0,o,ho,hall⟩:=mem_ready.1 hi
    have hlt:i<4:=(Array.getElem?_eq_some_iff.1 ho).1
    have hi' : i=0∨i=1∨i=2∨i=3:=by omega
    clear hi
    rcases hi' with rfl | rfl | rfl | rfl
    all_goals
      have hoE:=Option.some.inj ho
      have hg:o.guard=none:=by rw [← hoE];rfl
    · have he:x.eval (.tmp 1) = .pointer (some ⟨w.heap.size,0,none⟩):=hJ.p1
      have hld:(Instr.loadAt 25 (.pointer (some ⟨w.heap.size,0,none⟩))).run Tryz.prog w6 = .ok (.agg #[.int .i64 d,.int .i64 a,.int .i64 t,.bool n]) w6:=by
        have h2:=run_loadVar_row (P:=Tryz.prog) w6 w.heap.size 25 25 #[.int .i64 d,.int .i64 a,.int .i64 t,.bool n] (0,0) _ hJ.o Tryz.underlying25 rfl (by kernel_rfl)
        unfold Instr.loadAt
        simp [Instr.sureAddr,h2]
      refine op_val ho hg (.agg #[.int .i64 d,.int .i64 a,.int .i64 t,.bool n]) (w' := w6) ?_ ?_
      · have hop:o.op = .load 25 (.tmp 1):=by rw [← hoE];rfl
        unfold execOp
        simp only [hop,he,Sem.run_bind,hld,Sem.run_pure,Result.andThen_ok]
      · have hd:o.dst=some 3:=by rw [← hoE];rfl
        rw [hd]
        have hp:=getD_put x 3 (.agg #[.int .i64 d,.int .i64 a,.int .i64 t,.bool n])
        have hs:=fun k=>getD_set4 hJ.sz 0 k (by decide)
        refine ⟨by simp [hJ.sz],by simp [Act.put,hJ.tsz],hJ.df,?_,?_,hJ.bel,hJ.o,?_,?_,?_,?_,?_,?_⟩
        all_goals try simp only [hs,hp _ (by rw [hJ.tsz];decide)]
        · exact hJ.p1
        · exact hJ.p2
        · intro _;rfl
        · exact hJ.l1
        · exact hJ.n1
        · exact hJ.l2
        · exact hJ.l3
        · exact hJ.n3
    · have h1:listed.getD 1 false=false:=by
        cases hq:listed.getD 1 false
        · rfl
        · rw [show listed.getD 1 true=listed.getD 1 false from by simp [hJ.sz]] at h0
          rw [hq] at h0;cases h0
      have hsz:=hJ.n1 h1
      refine op_call ho hg 72 #[] ?_ ((spMake_any w6).mono ?_)
      · have hop:o.op = .call { callee:=.value (.func 72),args:=#[],argTypes:=#[] }:=by rw [← hoE];rfl
        unfold execOp
        simp [hop,resolve,invoke,Act.eval,Deferred.ofValue,callFunc]
        rw [if_neg (by decide),if_neg (fun h=>by cases h)]
      · rintro e w7 ⟨rfl,rfl⟩
        refine ⟨_,rfl,?_⟩
        have hd:o.dst=some 4:=by rw [← hoE];rfl
        rw [hd]
        have hp:=getD_put x 4 (.agg #[.slice (some ⟨w6.heap.size + 1,0,none⟩) 1 1,.slice none 0 0])
        have hs:=fun k=>getD_set4 hJ.sz 1 k (by decide)
        have hold:∀ k,k<w.heap.size + 2→((w6.alloc (.cells #[.slice (some ⟨w6.heap.size + 1,0,none⟩) 1 1,.slice none 0 0] 97)).alloc (.cells xmlCells 137)).heap[k]? = w6.heap[k]? := fun k hk=>by
          rw [Below.heap_alloc _ _ _ (by simp;omega),Below.heap_alloc _ _ _ (by omega)]
        refine ⟨by simp [hJ.sz],by simp [Act.put,hJ.tsz],hJ.df,?_,?_,?_,?_,?_,?_,?_,?_,?_,?_⟩
        all_goals try simp only [hs,hp _ (by rw [hJ.tsz];decide)]
        · exact hJ.p1
        · exact hJ.p2
        · exact (hJ.bel.alloc (by omega) _).alloc (by simp;omega) _
        · rw [hold _ (by omega)];exact hJ.o
        · exact hJ.l0
        · intro _
          refine ⟨by rw [hsz];rfl,by simp [hsz],?_⟩
          have:=heap_alloc2_new w6 (.cells #[.slice (some ⟨w6.heap.size + 1,0,none⟩) 1 1,.slice none 0 0] 97) (.cells xmlCells 137)
          rw [hsz] at this
          rw [hsz]
          exact this
        · intro h;cases h
        · exact hJ.l2
        · intro h;rw [hold _ (by omega)];exact hJ.l3 h
        · intro h;rw [hold _ (by omega)];exact hJ.n3 h
    · have a0:=hJ.l0 (hall ⟨0,.data⟩ (by rw [← hoE];simp) rfl)
      have a1:=(hJ.l1 (hall ⟨1,.data⟩ (by rw [← hoE];simp) rfl)).1
      have e0:x.eval (.tmp 3) = .agg #[.int .i64 d,.int .i64 a,.int .i64 t,.bool n]:=a0
      have e1:x.eval (.tmp 4) = .agg #[.slice (some ⟨w.heap.size + 3,0,none⟩) 1 1,.slice none 0 0]:=a1
      have c0:∀ v,x.eval (.const v)=v:=fun _=>rfl
      have hbd:∀ w', (Instr.build 105 #[(0,.agg #[.int .i64 d,.int .i64 a,.int .i64 t,.bool n]),(1,.int .i64 0),(4,.agg #[.slice (some ⟨w.heap.size + 3,0,none⟩) 1 1,.slice none 0 0]),(17,.int .i64 1),(18,.int .i64 1)]).run Tryz.prog w' = .ok (.agg (rdCells d a t n (w.heap.size + 3))) w' := fun _=>by kernel_rfl
      refine op_val ho hg (.agg (rdCells d a t n (w.heap.size + 3))) (w' := w6) ?_ ?_
      · have hop:o.op = .build 105 #[(0,.tmp 3),(1,.const (.int .i64 0)),(4,.tmp 4),(17,.const (.int .i64 1)),(18,.const (.int .i64 1))]:=by rw [← hoE];rfl
        unfold execOp
        simp only [hop,List.map_toArray,List.map_cons,List.map_nil,e0,e1,c0,Sem.run_bind,hbd,Sem.run_pure,Result.andThen_ok]
      · have hd:o.dst=some 5:=by rw [← hoE];rfl
        rw [hd]
        have hp:=getD_put x 5 (.agg (rdCells d a t n (w.heap.size + 3)))
        have hs:=fun k=>getD_set4 hJ.sz 2 k (by decide)
        refine ⟨by simp [hJ.sz],by simp [Act.put,hJ.tsz],hJ.df,?_,?_,hJ.bel,hJ.o,?_,?_,?_,?_,?_,?_⟩
        all_goals try simp only [hs,hp _ (by rw [hJ.tsz];decide)]
        · exact hJ.p1
        · exact hJ.p2
        · exact hJ.l0
        · exact hJ.l1
        · exact hJ.n1
        · intro _;rfl
        · exact hJ.l3
        · exact hJ.n3
    · have a2:=hJ.l2 (hall ⟨2,.data⟩ (by rw [← hoE];simp) rfl)
      have a1:=hJ.l1 (hall ⟨1,.phase⟩ (by rw [← hoE];simp) rfl)
      have h3:listed.getD 3 false=false:=by
        cases hq:listed.getD 3 false
        · rfl
        · rw [show listed.getD 3 true=listed.getD 3 false from by simp [hJ.sz]] at h0
          rw [hq] at h0;cases h0
      have hz:=hJ.n3 h3
      have e2:x.eval (.tmp 2) = .pointer (some ⟨w.heap.size + 1,0,none⟩):=hJ.p2
      have e5:x.eval (.tmp 5) = .agg (rdCells d a t n (w.heap.size + 3)):=a2
      have hst:(Instr.storeAt 105 (.pointer (some ⟨w.heap.size + 1,0,none⟩)) (.agg (rdCells d a t n (w.heap.size + 3)))).run Tryz.prog w6 = .ok () (w6.setRow (w.heap.size + 1) (rdCells d a t n (w.heap.size + 3))):=by
        have h2:=run_storeCells_from (P:=Tryz.prog) (w.heap.size + 1) 105 (rdCells d a t n (w.heap.size + 3)).toList 0 rdZero w6 hz rfl (by intro v hv;simp [rdCells] at hv;rcases hv with rfl | rfl | rfl | rfl | rfl | rfl | rfl | rfl | rfl | rfl | rfl | rfl | rfl | rfl | rfl | rfl | rfl | rfl | rfl | rfl | rfl | rfl | rfl | rfl | rfl | rfl | rfl | rfl <;> rfl)
        have hi:∃ q,Tryz.prog.info? 105=some q∧q.size=28:=by
          have:=infoRd
          cases hq:Tryz.prog.info? 105 with
          | none=>rw [hq] at this;cases this
          | some q=>exact ⟨q,rfl,by rw [hq] at this;simpa using this⟩
        obtain ⟨q,hq1,hq2⟩:=hi
        have hsz:(rdCells d a t n (w.heap.size + 3)).size=28:=rfl
        simp only [List.take_zero,List.nil_append,Array.toArray_toList] at h2
        unfold Instr.storeAt
        simp [Instr.sureAddr,storeVar,sizeOf,typeInfo,hq1,hq2,Value.cells,hsz,h2]
      refine op_skip ho hg (by rw [← hoE];rfl) (w' := w6.setRow (w.heap.size + 1) (rdCells d a t n (w.heap.size + 3))) ?_ ?_
      · have hop:o.op = .store 105 (.tmp 2) (.tmp 5):=by rw [← hoE];rfl
        unfold execOp
        simp only [hop,e2,e5,Sem.run_bind,hst,Sem.run_pure,Result.andThen_ok]
      · have hs:=fun k=>getD_set4 hJ.sz 3 k (by decide)
        refine ⟨by simp [hJ.sz],hJ.tsz,hJ.df,hJ.p1,hJ.p2,below_setRow hJ.bel (by omega) _,?_,?_,?_,?_,?_,?_,?_⟩
        · rw [setRow_other _ _ _ _ (by omega)];exact hJ.o
        all_goals try simp only [hs]
        · exact hJ.l0
        · intro h
          have:=hJ.l1 h
          refine ⟨this.1,by simp [this.2.1],?_⟩
          rw [setRow_other _ _ _ _ (by omega)];exact this.2.2
        · intro h;simp;exact hJ.n1 h
        · exact hJ.l2
        · intro _;exact setRow_heap _ _ _ _ _ _ hz
        · intro h;cases h
def L0 (b:Nat):Lay:=⟨none,0,none,0,none,0,none,0,none,0,some ⟨b - 1,0,none⟩,1,none,0,[]⟩
theorem foot_L0 (d a t:Int) (n:Bool) (b:Nat):foot (Mk.make_ d a t n) (L0 b)=[b - 1]:=rfl
def psCells (d a t:Int) (n:Bool) (g:Nat):Array Value:=rdCells d a t n g ++ #[.int .i64 0,.int .i64 0]
theorem rd_new (w:World) (d a t:Int) (n:Bool) (g:Nat) (hg:w.heap.size=g + 1) (hx:w.heap[g]? = some (.cells xmlCells 137 (0,0))):RdL (w.alloc (.cells (psCells d a t n g) 108)) w.heap.size (Mk.make_ d a t n) (L0 w.heap.size):=by
  have hgb:w.heap.size - 1=g:=by omega
  refine ⟨?_,⟨?_,?_⟩,rfl,?_⟩
  · have:(cellsOf (Mk.make_ d a t n) (L0 w.heap.size)).toArray=psCells d a t n g:=by simp only [L0,hgb];rfl
    rw [this]
    exact heap_alloc_new w _
  · intro r hr
    simp only [rowsOf,List.mem_cons] at hr
    rcases hr with rfl | rfl | rfl | rfl | rfl | rfl | rfl | hr
    · exact owned_nil ⟨rfl,rfl,rfl⟩
    · exact owned_nil ⟨rfl,rfl,rfl⟩
    · exact owned_nil ⟨rfl,rfl,rfl⟩
    · exact owned_nil ⟨rfl,rfl,rfl⟩
    · exact owned_nil ⟨rfl,rfl,rfl⟩
    · refine ⟨rfl,.inr ⟨g,1,xmlCells,?_,by omega,?_,Nat.le_refl _,by decide,rfl,rfl⟩⟩
      · show Value.slice (some ⟨w.heap.size - 1,0,none⟩) 1 1=_;rw [hgb];rfl
      · rw [Below.heap_alloc _ _ _ (by omega)];exact hx
    · exact owned_nil ⟨rfl,rfl,rfl⟩
    · cases hr
  · show ([w.heap.size - 1]:List Nat).Nodup
    simp
  · rw [foot_L0]
    simp
    omega
theorem areOptions_yes (d a t:Int) (n:Bool) (d1:1≤d) (d2:d≤64) (a1:0≤a) (a2:a≤32) (t1:8≤t) (t2:t≤1024) (w:World) :
    Calls Tryz.prog 55 #[.agg #[.int .i64 d,.int .i64 a,.int .i64 t,.bool n]] w fun e w' => e = .returned (.bool true)∧w' = w.alloc (.cells #[.int .i64 d,.int .i64 a,.int .i64 t,.bool n] 25):=by
  go_enter Tryz.func55,Tryz.ntmps55
  go_wp2
  go_ret
  exact ⟨rfl,rfl⟩
theorem new_any (d a t:Int) (n:Bool) (d1:1≤d) (d2:d≤64) (a1:0≤a) (a2:a≤32) (t1:8≤t) (t2:t≤1024) (w:World) :
    Calls Tryz.prog 28 #[.agg #[.int .i64 d,.int .i64 a,.int .i64 t,.bool n]] w fun e w' => ∃ b,e = .returned (.tuple #[.pointer (some ⟨b,0,none⟩),.int .i64 0])∧w.heap.size<b∧Below w.heap.size w w' ∧ RdL w' b (Mk.make_ d a t n) (L0 b):=by
  have HA:=hide (fun w=>areOptions_yes d a t n d1 d2 a1 a2 t1 t2 w)
  have HMK:=hide (fun w=>make_any d a t n w)
  clear d1 d2 a1 a2 t1 t2
  go_enter Tryz.func28,Tryz.ntmps28
  go_wp2_with (first
    | (go_at_call 55;refine (unhide HA _).mono ?_;rintro e w' ⟨rfl,rfl⟩)
    | (go_at_call 56;refine (unhide HMK _).mono ?_;rintro e w2 ⟨rfl,hs2,hb2,hx2⟩)
    | (refine wpList_build rfl 108 #[(0,.tmp 8)] rfl (.agg (psCells d a t n (w.heap.size + 1 + 1 + 3))) (fun _=>by kernel_rfl) ?_))
  go_ret2
  simp at hs2
  have hs3:w2.heap.size=w.heap.size + 1 + 1 + 3 + 1:=by omega
  simp at hx2
  refine ⟨w2.heap.size,by simp [hs3],by omega,?_,rd_new w2 d a t n (w.heap.size + 1 + 1 + 3) hs3 hx2⟩
  refine Below.alloc ?_ (by omega) _
  exact ((Below.refl _ _).alloc (Nat.le_refl _) _ |>.alloc (by simp) _).trans (hb2.mono (by simp;omega))
theorem isDocument_any {w:World} {b:Nat} {s:St} {L:Lay} (h:RdL w b s L) :
    Calls Tryz.prog 59 #[.pointer (some ⟨b,0,none⟩)] w fun e w' => e = .returned (.bool (Mk.isDocument s))∧w' = w:=by
  have hc:=h.cell
  have hlt:=h.lt
  unfold cellsOf at hc
  clear h
  cases e1:s.over
  all_goals
    go_enter Tryz.func59,Tryz.ntmps59
    go_wp2
    go_ret
    exact ⟨retB (by simp [Mk.isDocument,e1]),rfl⟩
theorem close_any {w:World} {b:Nat} {s:St} {L:Lay} (h:RdL w b s L) :
    Calls Tryz.prog 32 #[.pointer (some ⟨b,0,none⟩)] w (Does w b s L (Mk.close s)):=by
  have hc:=h.cell
  have hf:=h.frozen
  have hlt:=h.lt
  have HM:=hide h
  have HD:=hide (isDocument_any h)
  unfold cellsOf at hc
  clear h
  by_cases e1:s.ended=0
  · cases e2:Mk.isDocument s
    · rw [e2] at HD
      have hr:Mk.close s=({ s with ended:=9 },9):=by simp [Mk.close,e1,e2]
      rw [hr]
      clear hr
      go_enter Tryz.func32,Tryz.ntmps32
      go_wp2_with (go_at_call 59;refine (unhide HD).mono ?_;rintro e w1 ⟨rfl,rfl⟩)
      go_ret
      exact ⟨rfl,L,(unhide HM).start.store 29 _ _ rfl rfl rfl⟩
    · rw [e2] at HD
      have hr:Mk.close s=({ s with ended:=10 },0):=by simp [Mk.close,e1,e2]
      rw [hr]
      clear hr
      go_enter Tryz.func32,Tryz.ntmps32
      go_wp2_with (go_at_call 59;refine (unhide HD).mono ?_;rintro e w1 ⟨rfl,rfl⟩)
      go_ret
      exact ⟨rfl,L,(unhide HM).start.store 29 _ _ rfl rfl rfl⟩
  · have hr:Mk.close s=(s,s.ended):=by simp [Mk.close,e1]
    rw [hr]
    have e2:(s.ended != 0)=true:=by simpa using e1
    clear hr HD e1
    go_enter Tryz.func32,Tryz.ntmps32
    go_wp2
    go_ret
    exact ⟨rfl,L,(unhide HM).start⟩
theorem at_any {w:World} {b:Nat} {s:St} {L:Lay} (h:RdL w b s L) :
    Calls Tryz.prog 39 #[.pointer (some ⟨b,0,none⟩)] w fun e w' => e = .returned (.int .i64 s.at_)∧w' = w:=by
  have hc:=h.cell
  have hlt:=h.lt
  unfold cellsOf at hc
  clear h
  go_enter Tryz.func39,Tryz.ntmps39
  go_wp2
  go_ret
  exact ⟨rfl,rfl⟩
theorem rPlace_any {w:World} {b:Nat} {s:St} {L:Lay} (h:RdL w b s L) :
    Calls Tryz.prog 62 #[.pointer (some ⟨b,0,none⟩)] w fun e w' => e = .returned (.tuple #[.int .i64 s.line,.int .i64 s.column])∧∃ n,w' = w.drewN n:=by
  have hc:=h.cell
  have hlt:=h.lt
  unfold cellsOf at hc
  clear h
  go_enter Tryz.func62,Tryz.ntmps62
  go_wp2
  go_quiet (fail)
  go_wp2
  go_ret2
  exact ⟨rfl,_,rfl⟩
theorem place_any {w:World} {b:Nat} {s:St} {L:Lay} (h:RdL w b s L) :
    Calls Tryz.prog 40 #[.pointer (some ⟨b,0,none⟩)] w fun e w' => e = .returned (.tuple #[.int .i64 s.line,.int .i64 s.column])∧∃ n,w' = w.drewN n:=by
  have HP:=hide (rPlace_any h)
  have hlt:=h.lt
  clear h
  go_enter Tryz.func40,Tryz.ntmps40
  go_wp2_with (go_at_call 62;refine (unhide HP).mono ?_;rintro e w' ⟨rfl,n,rfl⟩)
  go_ret2
  exact ⟨rfl,_,rfl⟩
end Go.Proofs.YtmgfijllcdadgabGreatDoor
