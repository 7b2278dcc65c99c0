import Derived.Test.YtmgfijllcdadgaaGreatDoorUW45
set_option linter.all false
set_option maxRecDepth 100000
namespace Go.Proofs.YtmgfijllcdadgaaGreatDoor.akg
open Go.ChangeShapes Go.WideShapes Go.ChangeAt Go.RowKit
open V U
open Mk
variable {H:Type}
theorem own:ownKnob Tryz.prog.godebug=none:=by kernel_rfl
theorem ajx{enc:TypeId×Value->H}{P:Program}{f:Func}{s:ChangeSpec}{apart fresh handsOn:Bool}{W W' :World}{args:Array Value}{v:Value}{ds gs:List (DataW H)}{before pa pv:List MemPlace}
 (hW:DataW.Whole enc P f.params.toList s.vars apart W args.toList ds gs before)
 (hres:∀(b:Nat) (sp:Nat->Bool) (hd:Bool),DataW.TrodAll enc P W' b sp hd f.resultTypes.toList (v.resultList f.resultTypes.size) (s.fn H (ds++gs)).results [])
 (hargs:∀sp:Nat->Bool,(∀p∈before,sp p.block=true)->DataW.TrodAll enc P W' 0 sp true f.params.toList args.toList (s.fn H (ds++gs)).args pa)
 (hvars:∀sp:Nat->Bool,(∀p∈before,sp p.block=true)->DataW.TrodVars enc P W' sp s.vars (s.fn H (ds++gs)).vars pv)
 (hb:Below W.heap.size W W'):s.post enc P f apart fresh handsOn false W args v W' :=by
 have hold:∀p∈before,(fun b=>decide (b<W.heap.size)) p.block=true:=fun p hp=>by simpa using hW.lt p hp
 exact⟨ds,gs,before,[],pa,pv,hW,hres _ _ _,hargs _ hold,hvars _ hold,hb.frame _,fun h=>by cases h⟩
theorem ajy:∀t∈Tryz.f7.params.toList,Tryz.prog.readableRec t=true/\t<Tryz.prog.types.size:=by
 rw[Tryz.params7];intro t ht;have:t=22:=by simpa using ht
 rcases this with rfl;exact⟨by kernel_rfl,of_decide_eq_true (by kernel_rfl)⟩
theorem law{w:World}{v:Value}{ops:List eU}(h:wG w v ops)(hO:∀o∈ops,x_ o)(hF:kX ops<=1100000)(hL:ops.length<=131072)(Lx:Gl w)(CL:gQ w)(hs:2<w.heap.size):
 Calls Tryz.prog 7 #[v] w fun e w' =>e=.returned (.bool true)/\Below w.heap.size w w' :=by
 have HS:=Y (agP Lx CL hs);have HP:=Y (fun w' (hb:Below w.heap.size w w')=>ag3 7 7 0 (h.below hb) hO (aj0 ops) hF hL (Lx.below hs hb) (CL.below hb) (by have:=hb.size;omega));clear h hO Lx CL;go_enter Tryz.func7,Tryz.ntmps7;go_wp2_with fail;go_call(LI HS)as e w1 ⟨rfl,hb1⟩;go_wp2_with fail;go_call(LI HP w1 hb1)as e w2 ⟨rfl,hb2⟩;go_wp2;go_ret;exact⟨rfl,hb1.trans (hb2.mono hb1.size)⟩
theorem contract(H:Type)(enc:TypeId×Value->H)(W:World)(base:Nat)(args:Array Value)(ds gs:List (DataW H))(before:List MemPlace)
 (hval:∀(j:Nat) t v,Tryz.f7.params[j]?=some t->args[j]?=some v->Value.okWide Tryz.prog W .any base t v)
 (hW:DataW.Whole enc Tryz.prog Tryz.f7.params.toList Rows.restsSpec.vars false W args.toList ds gs before) (hk:Rows.uptoSmall H (ds++gs)=true) (hL:laidMetH Tryz.prog Rows.restsUptoRow.laid W):
 Calls Tryz.prog 7 args W fun e W' =>∃v,e=.returned v/\Rows.restsSpec.post enc Tryz.prog Tryz.f7 false true false false W args v W' :=by
 have hW' :=hW;have hbf:=hW.lt;obtain⟨p,q,hA0,hV,rfl,hfz,hnd⟩:=hW;have hA:DataW.TrodAll enc Tryz.prog W 0 (fun _=>true) true Tryz.f7.params.toList args.toList ds p:=hA0;have ajz:=fun(W' :World) (hb:Below W.heap.size W W') (sp:Nat->Bool) (hsp:∀x∈p++q,sp x.block=true)=>Oa (sp:=sp) (show laidOutB Tryz.prog=true by kernel_rfl) hb (ts:=Tryz.f7.params.toList) ajy (fun x hx=>hbf x (List.mem_append_left _ hx)) (fun x hx=>hsp x (List.mem_append_left _ hx)) hA;rw[Tryz.params7]at hA hval;obtain⟨v0,vs0,d0,ds0,p0,q0,hargs,rfl,rfl,h0,r0⟩:=trodAll_cons hA;obtain⟨rfl,rfl,rfl⟩:=trodAll_nil r0;obtain rfl:args=#[v0]:=by cases args;simp_all
 obtain⟨rfl,rfl⟩:=trodVars_none hV;obtain⟨a0,len,cap,rfl⟩:=okWide_slice Tryz.underlying22 (hval 0 _ v0 rfl rfl);obtain⟨fuel,hf⟩:=h0;obtain⟨ops,hR,hsum,hn⟩:=ag8 (v:=.slice a0 len cap) hf;have ajA:Rows.uptoBulkAll ([d0]++[])<=1048576:=of_decide_eq_true hk;simp only[List.append_nil,Rows.uptoBulkAll]at ajA;clear hA0;obtain⟨CL,hG,hs1⟩:=aae hL;have hfn:=Tp ops;have hln:=ag9 ops;refine(law hR (ahl ops hn (by omega)) (by omega) (by omega) hG CL hs1).mono fun e W' ⟨he,hb⟩=>?_;subst he;refine⟨_,rfl,ajx (pv:=[]) hW' (fun _ _ _=>trodAll_cons_mk (shut_bool Tryz.underlying4 _) trodAll_mk0) (fun sp hsp=>ajz W' hb sp hsp) (fun _ _=>rfl) hb⟩
def ajB:Obj->Obj
 |.cells _ t frozen=>.cells #[.string ⟨#[108,116,59,60]⟩,.string ⟨#[103,116,59,62]⟩,.string ⟨#[97,109,112,59,38]⟩,.string ⟨#[113,117,111,116,59,34]⟩,.string ⟨#[97,112,111,115,59,39]⟩] t frozen
 |o=>o
def ajC:Obj->Obj
 |.cells _ t frozen=>.cells #[.string ⟨#[108,116,59]⟩,.string ⟨#[103,116,59]⟩,.string ⟨#[97,109,112,59]⟩,.string ⟨#[113,117,111,116,59]⟩,.string ⟨#[97,112,111,115,59]⟩] t frozen
 |o=>o
def ajD:Obj->Obj
 |.cells _ t frozen=>.cells #[.int .i64 60,.int .i64 62,.int .i64 38,.int .i64 34,.int .i64 39] t frozen
 |o=>o
noncomputable def Ly(os:Os):World:=
 {World.holding Tryz.prog os ⟨#[],#[],[]⟩with heap:=(((World.holding Tryz.prog os ⟨#[],#[],[]⟩).heap.modify 1 ajC).modify 2 ajD).modify 0 ajB}
theorem ajE(os:Os):laidMet Tryz.prog Rows.restsRow.laid ((Ly os).forCall (fun _ _=>0) ⟨#[],#[.slice none 0 0],[]⟩).memory:=
 laidMet_of_run' 8 (by kernel_rfl) (by kernel_rfl)
theorem reads(os:Os)(enc:TypeId×Value->H):∃places,DataW.whole enc Tryz.prog ((Ly os).forCall (fun _ _=>0) ⟨#[],#[.slice none 0 0],[]⟩).memory Tryz.f7.params.toList Rows.restsSpec.vars false #[Value.slice none 0 0].toList 8=some ([.nil],[],places):=
 ⟨[],by kernel_rfl⟩
theorem ajF(os:Os)(started:os.Started)(H:Type)(enc:TypeId×Value->H)(F:Stop.Interp):
 ReturnsInHanded {} Tryz.checked os 7 .any ((Rows.OpenSpec.upto Rows.restsSpec).preRow enc Tryz.prog Tryz.f7 Rows.restsUptoRow.domain false Rows.restsUptoRow.laid) (((Rows.OpenSpec.upto Rows.restsSpec).at F).post enc Tryz.prog Tryz.f7 false true false false):=by
 obtain⟨places,hx⟩:=reads os enc;refine returnsInHanded_of_row (C:=Tryz.checked) (s:=Rows.OpenSpec.upto Rows.restsSpec) own started (by kernel_rfl) Tryz.func7
  (witness_row_at (enc:=enc) (C:=Tryz.checked) false (Ly os) #[.slice none 0 0] rfl (by kernel_rfl) (by kernel_rfl) (by kernel_rfl)
   (OpenSpec.preRow_of_cond 8 hx (by kernel_rfl) (fun k hk=>by cases hk;kernel_rfl) (by kernel_rfl) (ajE os))) ?_
 intro W base args ds gs before hval hW _ hcond _ hL _ _;exact contract H enc W base args ds gs before hval hW (hcond _ rfl) hL
theorem ajG:Rows.RestsUptoSaid:=
 OpenClaim.holds_of_cond 7 Tryz.f7 rfl rfl rfl rfl rfl rfl rfl ⟨rfl,rfl,rfl,rfl,rfl⟩ rfl rfl rfl rfl rfl (by kernel_rfl) Tryz.func7 (by kernel_rfl)
  (of_decide_eq_true (by kernel_rfl)) (by unfold Func.isWrapper;first|(rw[if_pos (by decide+kernel)];kernel_rfl)|(rw[if_neg (by decide+kernel)];exact⟨rfl,rfl⟩))
  (fun os started H enc _ F=>by rw[OpenClaim.pre_eq_preRow];exact ajF os started H enc F)
theorem plain(f : FuncId)(fn : Func)(hf : Tryz.pinned.checked.prog.funcNamed "markup/markuplaw.Rests" = some f)(hfn : Tryz.pinned.checked.prog.funcs[f]? = some fn) :
 false=Tryz.pinned.checked.prog.looks []/\∀(j:Nat) t,fn.params[j]?=some t->Tryz.pinned.checked.prog.wantsStandIn t=false:=by
 obtain rfl : f = 7 := Option.some.inj ((show Tryz.prog.funcNamed "markup/markuplaw.Rests" = some 7 by kernel_rfl).symm.trans hf) |>.symm;obtain rfl:fn=Tryz.f7:=(Option.some.inj (Tryz.func7.symm.trans hfn)).symm;refine⟨by kernel_rfl,fun j t ht=>?_⟩;rw[Tryz.params7]at ht;have hm:=Array.mem_of_getElem? ht;have:t=22:=by simpa using hm
 rcases this with rfl;exact(show Tryz.prog.wantsStandIn 22=false by kernel_rfl)
theorem ajH:Rows.RestsUptoCardSaid:=
 Claim7.holds_tied_plain_at .later [] _ _ _ _ ajG (fun _ h=>by cases h) (by kernel_rfl) (fun _ h=>by cases h) restsUpto_row_tie rfl ⟨rfl,rfl⟩ (by kernel_rfl) rfl plain (by kernel_rfl)
end Go.Proofs.YtmgfijllcdadgaaGreatDoor.akg
namespace Go.Proofs.YtmgfijllcdadgaaGreatDoor
theorem restsUptoCard_holds:Rows.RestsUptoCardSaid:=akg.ajH
end Go.Proofs.YtmgfijllcdadgaaGreatDoor
