/- CanonCard -/
import Derived.Test.YtmgfijllcdadgabGreatDoorPCSplit
import Derived.Test.YtmgfijllcdadgabGreatDoorPCCaC
set_option linter.unusedVariables false
set_option linter.unusedSimpArgs false
namespace Go.Proofs.YtmgfijllcdadgabGreatDoor.canon_
open Go.ChangeShapes Go.WideShapes Go.ChangeAt Go.RowKit
open Go.ChangeMaps (open_string shut_string)
open Mk (St Bs Ev Att)
theorem own:ownKnob Tryz.prog.godebug=none:=by kernel_rfl
theorem post_below {H:Type} {enc:TypeId × Value→H} {P:Program} {f:Func} {s:ChangeSpec} {apart fresh handsOn:Bool} {W W' : World} {args:Array Value} {v:Value} {ds gs:List (DataW H)} {before pa pv:List MemPlace}
    (hW:DataW.Whole enc P f.params.toList s.vars apart W args.toList ds gs before)
    (hres:∀ (b:Nat) (sp:Nat→Bool) (hd:Bool),DataW.TrodAll enc P W' b sp hd f.resultTypes.toList (v.resultList f.resultTypes.size) (s.fn H (ds ++ gs)).results [])
    (hargs:∀ sp:Nat→Bool,(∀ p ∈ before,sp p.block=true)→DataW.TrodAll enc P W' 0 sp true f.params.toList args.toList (s.fn H (ds ++ gs)).args pa)
    (hvars:∀ sp:Nat→Bool,(∀ p ∈ before,sp p.block=true)→DataW.TrodVars enc P W' sp s.vars (s.fn H (ds ++ gs)).vars pv)
    (hb:Below W.heap.size W W'):s.post enc P f apart fresh handsOn false W args v W' := by
  have hold:∀ p ∈ before,(fun b=>decide (b<W.heap.size)) p.block=true:=fun p hp=>by simpa using hW.lt p hp
  exact ⟨ds,gs,before,[],pa,pv,hW,hres _ _ _,hargs _ hold,hvars _ hold,hb.frame _,fun h=>by cases h⟩
theorem walk (nm:Bool) (a b c:Int) (ha:I64 a) (hb:I64 b) (hc:I64 c) (text:Bs) (cuts:List Int) (ca:Option Addr) (cc:Nat) (hT:text.length≤1048576) (hC:cuts.length≤1120000) (w:World)
    (hcut:∀ j (hj:j<cuts.length), ∃ cg co,ca=some ⟨cg,co,none⟩∧cg<w.heap.size∧w.cell? ⟨cg,co + j,none⟩=some (.int .i64 cuts[j])) (hi64:∀ c ∈ cuts,I64 c) (hG:Gl w) (hs:6<w.heap.size) :
    Calls Tryz.prog 9 #[.int .i64 a,.int .i64 b,.int .i64 c,.bool nm,.string ⟨text.toArray⟩,.slice ca cuts.length cc] w fun e w' => e = .returned (.bool true)∧Below w.heap.size w w' := Canon_any a b c nm ha hb hc text cuts ca cc hT hC w hcut hi64 hG hs
set_option maxRecDepth 100000 in
theorem contract (H:Type) (enc:TypeId × Value→H) (W:World) (base:Nat) (args:Array Value) (ds gs:List (DataW H)) (before:List MemPlace)
    (hval:∀ (j:Nat) t v,Tryz.f9.params[j]? = some t→args[j]? = some v→Value.okWide Tryz.prog W .any base t v)
    (hW:DataW.Whole enc Tryz.prog Tryz.f9.params.toList Rows.canonSpec.vars false W args.toList ds gs before) (hk:Rows.uptoSmall H (ds ++ gs)=true) (hL:laidMetH Tryz.prog Rows.canonUptoRow.laid W) :
    Calls Tryz.prog 9 args W fun e W' => ∃ v,e = .returned v∧Rows.canonSpec.post enc Tryz.prog Tryz.f9 false true false false W args v W' := by
  have hW' := hW
  obtain ⟨p,q,hA0,hV,rfl,hfz,hnd⟩:=hW
  have hA:DataW.TrodAll enc Tryz.prog W 0 (fun _=>true) true Tryz.f9.params.toList args.toList ds p:=hA0
  rw [Tryz.params9] at hA hval
  obtain ⟨v0,vs0,d0,ds0,p0,q0,hargs,rfl,rfl,h0,r0⟩:=trodAll_cons hA
  obtain ⟨v1,vs1,d1,ds1,p1,q1,rfl,rfl,rfl,h1,r1⟩:=trodAll_cons r0
  obtain ⟨v2,vs2,d2,ds2,p2,q2,rfl,rfl,rfl,h2,r2⟩:=trodAll_cons r1
  obtain ⟨v3,vs3,d3,ds3,p3,q3,rfl,rfl,rfl,h3,r3⟩:=trodAll_cons r2
  obtain ⟨v4,vs4,d4,ds4,p4,q4,rfl,rfl,rfl,h4,r4⟩:=trodAll_cons r3
  obtain ⟨v5,vs5,d5,ds5,p5,q5,rfl,rfl,rfl,h5,r5⟩:=trodAll_cons r4
  obtain ⟨rfl,rfl,rfl⟩:=trodAll_nil r5
  obtain rfl:args=#[v0,v1,v2,v3,v4,v5]:=by cases args;simp_all
  obtain ⟨rfl,rfl⟩:=trodVars_none hV
  obtain ⟨a,rfl,rfl,rfl,wf_a⟩:=open_int Tryz.underlying3 (hval 0 _ v0 rfl rfl) h0
  obtain ⟨b,rfl,rfl,rfl,wf_b⟩:=open_int Tryz.underlying3 (hval 1 _ v1 rfl rfl) h1
  obtain ⟨c,rfl,rfl,rfl,wf_c⟩:=open_int Tryz.underlying3 (hval 2 _ v2 rfl rfl) h2
  obtain ⟨nm,rfl,rfl,rfl⟩:=open_bool Tryz.underlying4 (hval 3 _ v3 rfl rfl) h3
  obtain ⟨s,rfl,rfl,rfl,hmax⟩:=open_string Tryz.underlying9 (hval 4 _ v4 rfl rfl) h4
  obtain ⟨ca,cuts,cc,rfl,hcut,hi64,hlen,hagain⟩:=open_cuts (hval 5 _ v5 rfl rfl) h5
  have hbulk:Rows.uptoBulkAll ([DataW.lit (H:=H) (.int .i64 a),.lit (.int .i64 b),.lit (.int .i64 c),.lit (.bool nm),.lit (.string s.data.toList),d5] ++ [])≤1048576:=of_decide_eq_true hk
  simp only [List.append_nil,Rows.uptoBulkAll] at hbulk
  have hbs:Rows.uptoBulk (DataW.lit (H:=H) (.string s.data.toList))=s.data.toList.length + 1:=by simp [Rows.uptoBulk]
  rw [hbs] at hbulk
  clear hA0
  simp only [List.append_nil,List.nil_append] at hW'
  obtain ⟨hG,hs1⟩:=tables hL
  have hs:s=⟨s.data.toList.toArray⟩:=by simp
  have hwalk:=walk nm a b c (bounds_i64 wf_a) (bounds_i64 wf_b) (bounds_i64 wf_c) s.data.toList cuts ca cc (by omega) (by omega) W hcut hi64 hG hs1
  rw [← hs] at hwalk
  refine hwalk.mono fun e W' ⟨he,hb⟩ => ?_
  subst he
  refine ⟨_,rfl,post_below (pa:=[] ++ ([] ++ ([] ++ ([] ++ ([] ++ (p5 ++ [])))))) (pv:=[]) hW' (fun _ _ _=>trodAll_cons_mk (shut_bool Tryz.underlying4 _) trodAll_mk0) (fun sp hsp => ?_) (fun _ _=>rfl) hb⟩
  have h55:DataW.Trod enc Tryz.prog W' 0 sp true 28 (.slice ca cuts.length cc) d5 p5:=hagain W' hb sp (fun q hq=>hsp q (by simpa using hq))
  have h6:=trodAll_cons_mk (shut_int Tryz.underlying3 wf_a) (trodAll_cons_mk (shut_int Tryz.underlying3 wf_b) (trodAll_cons_mk (shut_int Tryz.underlying3 wf_c) (trodAll_cons_mk (shut_bool Tryz.underlying4 nm) (trodAll_cons_mk (shut_string (w:=W') (enc:=enc) (P:=Tryz.prog) (base:=0) (sp:=sp) (held:=true) Tryz.underlying9 hmax) (trodAll_cons_mk h55 trodAll_mk0)))))
  exact h6
def setNames:Obj→Obj
  | .cells _ t frozen => .cells #[.string ⟨#[108,116,59]⟩,.string ⟨#[103,116,59]⟩,.string ⟨#[97,109,112,59]⟩,.string ⟨#[113,117,111,116,59]⟩,.string ⟨#[97,112,111,115,59]⟩] t frozen
  | o=>o
def setNamed:Obj→Obj
  | .cells _ t frozen => .cells #[.int .i64 60,.int .i64 62,.int .i64 38,.int .i64 34,.int .i64 39] t frozen
  | o=>o
noncomputable def laidWorld (os:Os):World:=
  { World.holding Tryz.prog os ⟨#[], #[],[]⟩ with heap:=((World.holding Tryz.prog os ⟨#[], #[],[]⟩).heap.modify 5 setNames).modify 6 setNamed }
theorem laid_met (os:Os):laidMet Tryz.prog Rows.canonRow.laid ((laidWorld os).forCall (fun _ _=>0) ⟨#[], #[.int .i64 0,.int .i64 0,.int .i64 0,.bool false,.string .empty,.slice none 0 0],[]⟩).memory:=
  laidMet_of_run' 8 (by kernel_rfl) (by kernel_rfl)
theorem reads (os:Os) {H:Type} (enc:TypeId × Value→H):∃ places,DataW.whole enc Tryz.prog ((laidWorld os).forCall (fun _ _=>0) ⟨#[], #[.int .i64 0,.int .i64 0,.int .i64 0,.bool false,.string .empty,.slice none 0 0],[]⟩).memory Tryz.f9.params.toList Rows.canonSpec.vars false #[Value.int .i64 0,.int .i64 0,.int .i64 0,.bool false,.string .empty,.slice none 0 0].toList 8=some ([.lit (.int .i64 0),.lit (.int .i64 0),.lit (.int .i64 0),.lit (.bool false),.lit (.string []),.nil],[],places):=
  ⟨[],by kernel_rfl⟩
set_option maxRecDepth 100000 in
theorem liftedUpto (os:Os) (started:os.Started) (H:Type) (enc:TypeId × Value→H) (F:Stop.Interp) :
    ReturnsInHanded {} Tryz.checked os 9 .any ((Rows.OpenSpec.upto Rows.canonSpec).preRow enc Tryz.prog Tryz.f9 Rows.canonUptoRow.domain false Rows.canonUptoRow.laid) (((Rows.OpenSpec.upto Rows.canonSpec).at F).post enc Tryz.prog Tryz.f9 false true false false):=by
  obtain ⟨places,hx⟩:=reads os enc
  refine returnsInHanded_of_row (C:=Tryz.checked) (s:=Rows.OpenSpec.upto Rows.canonSpec) own started (by kernel_rfl) Tryz.func9
    (witness_row_at (enc:=enc) (C:=Tryz.checked) false (laidWorld os) #[.int .i64 0,.int .i64 0,.int .i64 0,.bool false,.string .empty,.slice none 0 0] rfl (by kernel_rfl) (by kernel_rfl) (by kernel_rfl)
      (OpenSpec.preRow_of_cond 8 hx (by kernel_rfl) (fun k hk=>by cases hk;kernel_rfl) (by kernel_rfl) (laid_met os))) ?_
  intro W base args ds gs before hval hW _ hcond _ hL _ _
  exact contract H enc W base args ds gs before hval hW (hcond _ rfl) hL
theorem saidUpto:Rows.CanonUptoSaid:=
  OpenClaim.holds_of_cond 9 Tryz.f9 rfl rfl rfl rfl rfl rfl rfl ⟨rfl,rfl,rfl,rfl,rfl⟩ rfl rfl rfl rfl rfl (by kernel_rfl) Tryz.func9 (by kernel_rfl)
    (of_decide_eq_true (by kernel_rfl)) (by unfold Func.isWrapper;first | (rw [if_pos (by decide +kernel)];kernel_rfl) | (rw [if_neg (by decide +kernel)];exact ⟨rfl,rfl⟩))
    (fun os started H enc _ F=>by rw [OpenClaim.pre_eq_preRow];exact liftedUpto os started H enc F)
theorem plain (f : FuncId) (fn : Func) (hf : Tryz.pinned.checked.prog.funcNamed "markup/markupkeep.Canon" = some f) (hfn : Tryz.pinned.checked.prog.funcs[f]? = some fn) :
    false=Tryz.pinned.checked.prog.looks []∧∀ (j:Nat) t,fn.params[j]? = some t→Tryz.pinned.checked.prog.wantsStandIn t=false:=by
  obtain rfl : f = 9 := Option.some.inj ((show Tryz.prog.funcNamed "markup/markupkeep.Canon" = some 9 by kernel_rfl).symm.trans hf) |>.symm
  obtain rfl:fn=Tryz.f9:=(Option.some.inj (Tryz.func9.symm.trans hfn)).symm
  refine ⟨by kernel_rfl,fun j t ht => ?_⟩
  rw [Tryz.params9] at ht
  have hm:=Array.mem_of_getElem? ht
  have:t=3∨t=4∨t=9∨t=28:=by simpa using hm
  rcases this with rfl | rfl | rfl | rfl
  · exact (show Tryz.prog.wantsStandIn 3=false by kernel_rfl)
  · exact (show Tryz.prog.wantsStandIn 4=false by kernel_rfl)
  · exact (show Tryz.prog.wantsStandIn 9=false by kernel_rfl)
  · exact (show Tryz.prog.wantsStandIn 28=false by kernel_rfl)
theorem cardUpto:Rows.CanonUptoCardSaid:=
  Claim7.holds_tied_plain_at .later [] _ _ _ _ saidUpto (fun _ h=>by cases h) (by kernel_rfl) (fun _ h=>by cases h) canonUpto_row_tie rfl ⟨rfl,rfl⟩ (by kernel_rfl) rfl plain (by kernel_rfl)
end Go.Proofs.YtmgfijllcdadgabGreatDoor.canon_
namespace Go.Proofs.YtmgfijllcdadgabGreatDoor
theorem canonUptoCard_holds:Rows.CanonUptoCardSaid:=canon_.cardUpto
end Go.Proofs.YtmgfijllcdadgabGreatDoor
