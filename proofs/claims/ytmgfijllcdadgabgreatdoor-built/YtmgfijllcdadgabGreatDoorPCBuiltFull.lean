/- BuiltFull -/
import Derived.Test.YtmgfijllcdadgabGreatDoorPCSplit
import Derived.Test.YtmgfijllcdadgabGreatDoorPCBlt4
import Derived.SizedLaws
set_option linter.unusedVariables false
set_option linter.unusedSimpArgs false
namespace Go.Proofs.YtmgfijllcdadgabGreatDoor.built_
open Go.ChangeShapes Go.WideShapes Go.ChangeAt Go.RowKit
open Go.ChangeMaps (open_string shut_string)
open Mk (St Bs Ev Att)
def zTags:List Bs:=[[97],[98,45,99],[95,100],[112,58,97],[113,58,101,46,49],[90]]
theorem gTags : Tryz.prog.globalNamed "markup/markupkeep.tags" = some 4 := by kernel_rfl
theorem tTags:(Tryz.prog.globals[4]?).map (·.type)=some 116:=by kernel_rfl
theorem cTags:Tryz.prog.cellsOf 116=6:=by kernel_rfl
theorem wTags:∀ i<6,zTags[i]? = some (bTags.getD i []):=by decide
def zValues:List Bs:=[[120],[60,38,62,34,39],[93,93,62],[13],[13,10],[32,9,10],[195,169,237,159,191],[244,143,191,191,239,191,189],[38,108,116,59],[45,45,93,93]]
theorem gValues : Tryz.prog.globalNamed "markup/markupkeep.values" = some 0 := by kernel_rfl
theorem tValues:(Tryz.prog.globals[0]?).map (·.type)=some 86:=by kernel_rfl
theorem cValues:Tryz.prog.cellsOf 86=10:=by kernel_rfl
theorem wValues:∀ i<10,zValues[i]? = some (bVal i):=by decide
def zComments:List Bs:=[[],[99],[97,45,98],[32,45,32],[60,38,62,93,93,62],[10,9],[226,130,172,63,62]]
theorem gComments : Tryz.prog.globalNamed "markup/markupkeep.comments" = some 1 := by kernel_rfl
theorem tComments:(Tryz.prog.globals[1]?).map (·.type)=some 114:=by kernel_rfl
theorem cComments:Tryz.prog.cellsOf 114=7:=by kernel_rfl
theorem wComments:∀ i<7,zComments[i]? = some (bCom i):=by decide
def zTargets:List Bs:=[[116],[120,109,108,120],[95],[120]]
theorem gTargets : Tryz.prog.globalNamed "markup/markupkeep.targets" = some 2 := by kernel_rfl
theorem tTargets:(Tryz.prog.globals[2]?).map (·.type)=some 115:=by kernel_rfl
theorem cTargets:Tryz.prog.cellsOf 115=4:=by kernel_rfl
theorem wTargets:∀ i<4,zTargets[i]? = some (bTgt.getD i []):=by decide
def zDatas:List Bs:=[[],[100,32],[63,32,63],[60,38,62],[120,62,63],[195,169],[93,93,62]]
theorem gDatas : Tryz.prog.globalNamed "markup/markupkeep.datas" = some 3 := by kernel_rfl
theorem tDatas:(Tryz.prog.globals[3]?).map (·.type)=some 114:=by kernel_rfl
theorem cDatas:Tryz.prog.cellsOf 114=7:=by kernel_rfl
theorem wDatas:∀ i<7,zDatas[i]? = some (bDat i):=by decide
theorem tab_cell {W:World} {nm:String} {g:Nat} {zs:List Bs} (hg:Tryz.prog.globalNamed nm=some g) (h:W.var? Tryz.prog nm=some (zs.map fun z=>Value.string ⟨z.toArray⟩).toArray) {i:Nat} {z:Bs} (hz:zs[i]? = some z):W.cell? ⟨g,i,none⟩=some (.string ⟨z.toArray⟩):=by
  rw [World.var?_cell hg h i]
  simp [hz]
theorem tablesB {W : World} (h : laidMetH Tryz.prog [("markup/refs.names", Rows.laid_markup_refs_names), ("markup/refs.named", Rows.laid_markup_refs_named), ("markup/markupkeep.tags", Rows.laid_markup_markupkeep_tags), ("markup/markupkeep.values", Rows.laid_markup_markupkeep_values), ("markup/markupkeep.comments", Rows.laid_markup_markupkeep_comments), ("markup/markupkeep.targets", Rows.laid_markup_markupkeep_targets), ("markup/markupkeep.datas", Rows.laid_markup_markupkeep_datas)] W) : Gl W ∧ GlB W ∧ 6 < W.heap.size := by
  have h0 : laidMet Tryz.prog [("markup/refs.names", Rows.laid_markup_refs_names), ("markup/refs.named", Rows.laid_markup_refs_named), ("markup/markupkeep.tags", Rows.laid_markup_markupkeep_tags), ("markup/markupkeep.values", Rows.laid_markup_markupkeep_values), ("markup/markupkeep.comments", Rows.laid_markup_markupkeep_comments), ("markup/markupkeep.targets", Rows.laid_markup_markupkeep_targets), ("markup/markupkeep.datas", Rows.laid_markup_markupkeep_datas)] W := h
  have h2 : Lib.TabIs Tryz.prog W "markup/refs.named" .i64 [60, 62, 38, 34, 39] := Lib.tabIs_of_head gNamed tNamed Tryz.underlying156 Tryz.underlying3 cInt cNamed h0.tail
  have h1 : W.var? Tryz.prog "markup/refs.names" = some (([[108, 116, 59], [103, 116, 59], [97, 109, 112, 59], [113, 117, 111, 116, 59], [97, 112, 111, 115, 59]] : List Bs).map fun z => Value.string ⟨z.toArray⟩).toArray := by
    obtain ⟨ps,⟨g', t', cs,fuel,p,q,hg', ht', hvar,hd,_,_⟩,_⟩:=h0
    obtain rfl:=Option.some.inj (gNames.symm.trans hg')
    obtain rfl:=Option.some.inj (tNames.symm.trans ht')
    rw [hvar, ← cells_of_strs (zs:=[[108,116,59],[103,116,59],[97,109,112,59],[113,117,111,116,59],[97,112,111,115,59]]) Tryz.underlying151 Tryz.underlying9 cStr cNames hd]
  have vTags : W.var? Tryz.prog "markup/markupkeep.tags" = some (zTags.map fun z => Value.string ⟨z.toArray⟩).toArray := by
    obtain ⟨ps,⟨g', t', cs,fuel,p,q,hg', ht', hvar,hd,_,_⟩,_⟩:=h0.tail.tail
    obtain rfl:=Option.some.inj (gTags.symm.trans hg')
    obtain rfl:=Option.some.inj (tTags.symm.trans ht')
    rw [hvar, ← cells_of_strs (zs:=zTags) Tryz.underlying116 Tryz.underlying9 cStr cTags hd]
  have vValues : W.var? Tryz.prog "markup/markupkeep.values" = some (zValues.map fun z => Value.string ⟨z.toArray⟩).toArray := by
    obtain ⟨ps,⟨g', t', cs,fuel,p,q,hg', ht', hvar,hd,_,_⟩,_⟩:=h0.tail.tail.tail
    obtain rfl:=Option.some.inj (gValues.symm.trans hg')
    obtain rfl:=Option.some.inj (tValues.symm.trans ht')
    rw [hvar, ← cells_of_strs (zs:=zValues) Tryz.underlying86 Tryz.underlying9 cStr cValues hd]
  have vComments : W.var? Tryz.prog "markup/markupkeep.comments" = some (zComments.map fun z => Value.string ⟨z.toArray⟩).toArray := by
    obtain ⟨ps,⟨g', t', cs,fuel,p,q,hg', ht', hvar,hd,_,_⟩,_⟩:=h0.tail.tail.tail.tail
    obtain rfl:=Option.some.inj (gComments.symm.trans hg')
    obtain rfl:=Option.some.inj (tComments.symm.trans ht')
    rw [hvar, ← cells_of_strs (zs:=zComments) Tryz.underlying114 Tryz.underlying9 cStr cComments hd]
  have vTargets : W.var? Tryz.prog "markup/markupkeep.targets" = some (zTargets.map fun z => Value.string ⟨z.toArray⟩).toArray := by
    obtain ⟨ps,⟨g', t', cs,fuel,p,q,hg', ht', hvar,hd,_,_⟩,_⟩:=h0.tail.tail.tail.tail.tail
    obtain rfl:=Option.some.inj (gTargets.symm.trans hg')
    obtain rfl:=Option.some.inj (tTargets.symm.trans ht')
    rw [hvar, ← cells_of_strs (zs:=zTargets) Tryz.underlying115 Tryz.underlying9 cStr cTargets hd]
  have vDatas : W.var? Tryz.prog "markup/markupkeep.datas" = some (zDatas.map fun z => Value.string ⟨z.toArray⟩).toArray := by
    obtain ⟨ps,⟨g', t', cs,fuel,p,q,hg', ht', hvar,hd,_,_⟩,_⟩:=h0.tail.tail.tail.tail.tail.tail
    obtain rfl:=Option.some.inj (gDatas.symm.trans hg')
    obtain rfl:=Option.some.inj (tDatas.symm.trans ht')
    rw [hvar, ← cells_of_strs (zs:=zDatas) Tryz.underlying114 Tryz.underlying9 cStr cDatas hd]
  refine ⟨⟨fun i => ?_,fun i => ?_⟩,⟨fun i hi=>tab_cell gValues vValues (wValues i hi),fun i hi=>tab_cell gComments vComments (wComments i hi),fun i hi=>tab_cell gTargets vTargets (wTargets i hi),fun i hi=>tab_cell gDatas vDatas (wDatas i hi),fun i hi=>tab_cell gTags vTags (wTags i hi)⟩,?_⟩
  · rw [World.var?_cell gNames h1 i]
    simp [Mk.refNames]
  · rw [World.var?_cell gNamed h2 i]
    simp [Mk.refNames]
  · have:=h2
    unfold Lib.TabIs World.var? at this
    rw [gNamed] at this
    simp only [Option.bind_some] at this
    cases hh:W.heap[6]? with
    | none=>rw [hh] at this;cases this
    | some o=>exact (Array.getElem?_eq_some_iff.1 hh).1
theorem own:ownKnob Tryz.prog.godebug=none:=by kernel_rfl
theorem post_below {H:Type} {enc:TypeId × Value→H} {P:Program} {f:Func} {s:ChangeSpec} {apart fresh handsOn:Bool} {W W' : World} {args:Array Value} {v:Value} {ds gs:List (DataW H)} {before pa pv:List MemPlace}
    (hW:DataW.Whole enc P f.params.toList s.vars apart W args.toList ds gs before)
    (hres:∀ (b:Nat) (sp:Nat→Bool) (hd:Bool),DataW.TrodAll enc P W' b sp hd f.resultTypes.toList (v.resultList f.resultTypes.size) (s.fn H (ds ++ gs)).results [])
    (hargs:∀ sp:Nat→Bool,(∀ p ∈ before,sp p.block=true)→DataW.TrodAll enc P W' 0 sp true f.params.toList args.toList (s.fn H (ds ++ gs)).args pa)
    (hvars:∀ sp:Nat→Bool,(∀ p ∈ before,sp p.block=true)→DataW.TrodVars enc P W' sp s.vars (s.fn H (ds ++ gs)).vars pv)
    (hb:Below W.heap.size W W'):s.post enc P f apart fresh handsOn false W args v W' := by
  have hold:∀ p ∈ before,(fun b=>decide (b<W.heap.size)) p.block=true:=fun p hp=>by simpa using hW.lt p hp
  exact ⟨ds,gs,before,[],pa,pv,hW,hres _ _ _,hargs _ hold,hvars _ hold,hb.frame _,fun h=>by cases h⟩
theorem cuts_len {H:Type} {enc:TypeId × Value→H} {W:World} {ca:Option Addr} {n cc:Nat} {d:DataW H} {p:List MemPlace} (h:DataW.Trod enc Tryz.prog W 0 (fun _=>true) true 28 (.slice ca n cc) d p):n=0∨∃ el sp,d = .slice el sp∧n≤el.length:=by
  obtain ⟨fuel,hf⟩:=h
  rcases open_ints Tryz.underlying28 Tryz.underlying3 cInt hf with ⟨hcs,hx⟩ | ⟨a,len', cap', zs,hcs,_,hle,hmax,hlen,hx,hcell,hwf⟩
  · simp [Value.cells] at hcs
    exact .inl hcs.2.1
  · simp [Value.cells] at hcs
    obtain ⟨rfl,rfl,rfl⟩:=hcs
    cases hx
    simp at hlen
    exact .inr ⟨_,_,rfl,by simp [lits];omega⟩
set_option maxRecDepth 100000 in
theorem contract (H:Type) (enc:TypeId × Value→H) (W:World) (base:Nat) (args:Array Value) (ds gs:List (DataW H)) (before:List MemPlace)
    (hval:∀ (j:Nat) t v,Tryz.f8.params[j]? = some t→args[j]? = some v→Value.okWide Tryz.prog W .any base t v)
    (hW:DataW.Whole enc Tryz.prog Tryz.f8.params.toList Rows.builtSpec.vars false W args.toList ds gs before) (hz:(DataW.weightsEach Tryz.prog (Tryz.f8.params.toList ++ (OpenSpec.ofChange Rows.builtSpec).bare.plain.varTypes Tryz.prog) (ds ++ gs)).all (· ≤ reachBytes)=true) (hL:laidMetH Tryz.prog Rows.builtRow.laid W) :
    Calls Tryz.prog 8 args W fun e W' => ∃ v,e = .returned v∧Rows.builtSpec.post enc Tryz.prog Tryz.f8 false true false false W args v W' := by
  have hW' := hW
  obtain ⟨p,q,hA0,hV,rfl,hfz,hnd⟩:=hW
  have hA:DataW.TrodAll enc Tryz.prog W 0 (fun _=>true) true Tryz.f8.params.toList args.toList ds p:=hA0
  rw [Tryz.params8] at hA hval
  obtain ⟨v0,vs0,d0,ds0,p0,q0,hargs,rfl,rfl,h0,r0⟩:=trodAll_cons hA
  obtain ⟨v1,vs1,d1,ds1,p1,q1,rfl,rfl,rfl,h1,r1⟩:=trodAll_cons r0
  obtain ⟨v2,vs2,d2,ds2,p2,q2,rfl,rfl,rfl,h2,r2⟩:=trodAll_cons r1
  obtain ⟨rfl,rfl,rfl⟩:=trodAll_nil r2
  obtain rfl:args=#[v0,v1,v2]:=by cases args;simp_all
  obtain ⟨rfl,rfl⟩:=trodVars_none hV
  obtain ⟨nm,rfl,rfl,rfl⟩:=open_bool Tryz.underlying4 (hval 0 _ v0 rfl rfl) h0
  obtain ⟨s,rfl,rfl,rfl,hmax⟩:=open_string Tryz.underlying9 (hval 1 _ v1 rfl rfl) h1
  obtain ⟨ca,cuts,cc,rfl,hcut,hi64,hlen,hagain⟩:=open_cuts (hval 2 _ v2 rfl rfl) h2
  have hsmall:cuts.length≤1000000000000000:=by
    rcases cuts_len h2 with h0 | ⟨el,sp,rfl,hle⟩
    · omega
    · have h2:=sized_slice hz (j:=2) (elems:=el) (spare:=sp) (show (Tryz.f8.params.toList ++ (OpenSpec.ofChange Rows.builtSpec).bare.plain.varTypes Tryz.prog)[2]? = some 28 by kernel_rfl) rfl Tryz.underlying28
      have h3:Tryz.prog.bytesOf 3=8:=by kernel_rfl
      rw [h3] at h2
      unfold reachBytes at h2
      omega
  clear hA0
  simp only [List.append_nil,List.nil_append] at hW'
  obtain ⟨hG,hGB,hs1⟩:=tablesB hL
  have hs:s=⟨s.data.toList.toArray⟩:=by simp
  have hsz:s.data.toList.length≤9223372036854775807:=by
    have h9:s.size≤maxLen:=hmax
    unfold maxLen at h9
    have h8:s.data.toList.length=s.size:=Array.length_toList
    omega
  have hwalk:Calls Tryz.prog 8 #[.bool nm,.string ⟨s.data.toList.toArray⟩,.slice ca cuts.length cc] W fun e w' => e = .returned (.bool true)∧Below W.heap.size W w' := by
    cases nm
    · exact Built_false s.data.toList hsz cuts ca cc hsmall W hcut hi64 hGB hG hs1
    · exact Built_true s.data.toList hsz cuts ca cc hsmall W hcut hi64 hGB hG hs1
  rw [← hs] at hwalk
  refine hwalk.mono fun e W' ⟨he,hb⟩ => ?_
  subst he
  refine ⟨_,rfl,post_below (pa:=[] ++ ([] ++ (p2 ++ []))) (pv:=[]) hW' (fun _ _ _=>trodAll_cons_mk (shut_bool Tryz.underlying4 _) trodAll_mk0) (fun sp hsp => ?_) (fun _ _=>rfl) hb⟩
  have h5:DataW.Trod enc Tryz.prog W' 0 sp true 28 (.slice ca cuts.length cc) d2 p2:=hagain W' hb sp (fun q hq=>hsp q (by simpa using hq))
  have h6:=trodAll_cons_mk (shut_bool Tryz.underlying4 nm) (trodAll_cons_mk (shut_string (w:=W') (enc:=enc) (P:=Tryz.prog) (base:=0) (sp:=sp) (held:=true) Tryz.underlying9 hmax) (trodAll_cons_mk h5 trodAll_mk0))
  exact h6
def setNames:Obj→Obj
  | .cells _ t frozen => .cells #[.string ⟨#[108,116,59]⟩,.string ⟨#[103,116,59]⟩,.string ⟨#[97,109,112,59]⟩,.string ⟨#[113,117,111,116,59]⟩,.string ⟨#[97,112,111,115,59]⟩] t frozen
  | o=>o
def setNamed:Obj→Obj
  | .cells _ t frozen => .cells #[.int .i64 60,.int .i64 62,.int .i64 38,.int .i64 34,.int .i64 39] t frozen
  | o=>o
def setTags:Obj→Obj
  | .cells _ t frozen => .cells #[.string ⟨#[97]⟩,.string ⟨#[98,45,99]⟩,.string ⟨#[95,100]⟩,.string ⟨#[112,58,97]⟩,.string ⟨#[113,58,101,46,49]⟩,.string ⟨#[90]⟩] t frozen
  | o=>o
def setValues:Obj→Obj
  | .cells _ t frozen => .cells #[.string ⟨#[120]⟩,.string ⟨#[60,38,62,34,39]⟩,.string ⟨#[93,93,62]⟩,.string ⟨#[13]⟩,.string ⟨#[13,10]⟩,.string ⟨#[32,9,10]⟩,.string ⟨#[195,169,237,159,191]⟩,.string ⟨#[244,143,191,191,239,191,189]⟩,.string ⟨#[38,108,116,59]⟩,.string ⟨#[45,45,93,93]⟩] t frozen
  | o=>o
def setComments:Obj→Obj
  | .cells _ t frozen => .cells #[.string ⟨#[]⟩,.string ⟨#[99]⟩,.string ⟨#[97,45,98]⟩,.string ⟨#[32,45,32]⟩,.string ⟨#[60,38,62,93,93,62]⟩,.string ⟨#[10,9]⟩,.string ⟨#[226,130,172,63,62]⟩] t frozen
  | o=>o
def setTargets:Obj→Obj
  | .cells _ t frozen => .cells #[.string ⟨#[116]⟩,.string ⟨#[120,109,108,120]⟩,.string ⟨#[95]⟩,.string ⟨#[120]⟩] t frozen
  | o=>o
def setDatas:Obj→Obj
  | .cells _ t frozen => .cells #[.string ⟨#[]⟩,.string ⟨#[100,32]⟩,.string ⟨#[63,32,63]⟩,.string ⟨#[60,38,62]⟩,.string ⟨#[120,62,63]⟩,.string ⟨#[195,169]⟩,.string ⟨#[93,93,62]⟩] t frozen
  | o=>o
noncomputable def laidWorld (os:Os):World:=
  { World.holding Tryz.prog os ⟨#[], #[],[]⟩ with heap:=(((((((World.holding Tryz.prog os ⟨#[], #[],[]⟩).heap.modify 5 setNames).modify 6 setNamed).modify 4 setTags).modify 0 setValues).modify 1 setComments).modify 2 setTargets).modify 3 setDatas }
theorem laid_met (os:Os):laidMet Tryz.prog Rows.builtRow.laid ((laidWorld os).forCall (fun _ _=>0) ⟨#[], #[.bool false,.string .empty,.slice none 0 0],[]⟩).memory:=
  laidMet_of_run' 8 (by kernel_rfl) (by kernel_rfl)
theorem reads (os:Os) {H:Type} (enc:TypeId × Value→H):∃ places,DataW.whole enc Tryz.prog ((laidWorld os).forCall (fun _ _=>0) ⟨#[], #[.bool false,.string .empty,.slice none 0 0],[]⟩).memory Tryz.f8.params.toList Rows.builtSpec.vars false #[Value.bool false,.string .empty,.slice none 0 0].toList 8=some ([.lit (.bool false),.lit (.string []),.nil],[],places):=
  ⟨[],by kernel_rfl⟩
set_option maxRecDepth 100000 in
theorem lifted (os:Os) (started:os.Started) (H:Type) (enc:TypeId × Value→H) (F:Stop.Interp) :
    ReturnsInHanded {} Tryz.checked os 8 .any ((OpenSpec.ofChange Rows.builtSpec).preRow enc Tryz.prog Tryz.f8 Rows.builtRow.domain false Rows.builtRow.laid) (((OpenSpec.ofChange Rows.builtSpec).at F).post enc Tryz.prog Tryz.f8 false true false false):=by
  obtain ⟨places,hx⟩:=reads os enc
  refine returnsInHanded_of_row (C:=Tryz.checked) (s:=OpenSpec.ofChange Rows.builtSpec) own started (by kernel_rfl) Tryz.func8
    (witness_row_at (enc:=enc) (C:=Tryz.checked) false (laidWorld os) #[.bool false,.string .empty,.slice none 0 0] rfl (by kernel_rfl) (by kernel_rfl) (by kernel_rfl)
      (OpenSpec.preRow_of_cond 8 hx (by kernel_rfl) (fun k hk=>by cases hk) (by kernel_rfl) (laid_met os))) ?_
  intro W base args ds gs before hval hW _ _ hz hL _ _
  exact contract H enc W base args ds gs before hval hW hz hL
theorem said:Rows.BuiltSaid:=
  OpenClaim.holds_of_cond 8 Tryz.f8 rfl rfl rfl rfl rfl rfl rfl ⟨rfl,rfl,rfl,rfl,rfl⟩ rfl rfl rfl rfl rfl (by kernel_rfl) Tryz.func8 (by kernel_rfl)
    (of_decide_eq_true (by kernel_rfl)) (by unfold Func.isWrapper;first | (rw [if_pos (by decide +kernel)];kernel_rfl) | (rw [if_neg (by decide +kernel)];exact ⟨rfl,rfl⟩))
    (fun os started H enc _ F=>by rw [OpenClaim.pre_eq_preRow];exact lifted os started H enc F)
theorem plain (f : FuncId) (fn : Func) (hf : Tryz.pinned.checked.prog.funcNamed "markup/markupkeep.Built" = some f) (hfn : Tryz.pinned.checked.prog.funcs[f]? = some fn) :
    false=Tryz.pinned.checked.prog.looks []∧∀ (j:Nat) t,fn.params[j]? = some t→Tryz.pinned.checked.prog.wantsStandIn t=false:=by
  obtain rfl : f = 8 := Option.some.inj ((show Tryz.prog.funcNamed "markup/markupkeep.Built" = some 8 by kernel_rfl).symm.trans hf) |>.symm
  obtain rfl:fn=Tryz.f8:=(Option.some.inj (Tryz.func8.symm.trans hfn)).symm
  refine ⟨by kernel_rfl,fun j t ht => ?_⟩
  rw [Tryz.params8] at ht
  have hm:=Array.mem_of_getElem? ht
  have:t=4∨t=9∨t=28:=by simpa using hm
  rcases this with rfl | rfl | rfl
  · exact (show Tryz.prog.wantsStandIn 4=false by kernel_rfl)
  · exact (show Tryz.prog.wantsStandIn 9=false by kernel_rfl)
  · exact (show Tryz.prog.wantsStandIn 28=false by kernel_rfl)
theorem card:Rows.BuiltCardSaid:=
  Claim7.holds_tied_plain_at .later [] _ _ _ _ said (fun _ h=>by cases h) (by kernel_rfl) (fun _ h=>by cases h) built_row_tie rfl ⟨rfl,rfl⟩ (by kernel_rfl) rfl plain (by kernel_rfl)
end Go.Proofs.YtmgfijllcdadgabGreatDoor.built_
namespace Go.Proofs.YtmgfijllcdadgabGreatDoor
theorem builtCard_holds:Rows.BuiltCardSaid:=built_.card
end Go.Proofs.YtmgfijllcdadgabGreatDoor
