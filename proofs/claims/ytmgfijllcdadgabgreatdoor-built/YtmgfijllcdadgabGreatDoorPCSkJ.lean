/- SkJ, WcE, WsA, WsB, WsC -/
import Derived.Test.YtmgfijllcdadgabGreatDoorPCSkG
import Derived.Test.YtmgfijllcdadgabGreatDoorPCWcA
set_option linter.unusedVariables false
set_option linter.unusedSimpArgs false
namespace Go.Proofs.YtmgfijllcdadgabGreatDoor
open Go.RowKit
open Mk (St Bs Ev Att)
theorem Got.at2 {w:World} {v:Value} {l:List Ev} {fp:List Nat} (hg:Got w v l fp) (k:Nat) (hk:k<l.length) :
    ∃ g c aa ac,v = .slice (some ⟨g,0,none⟩) l.length c∧g<w.heap.size∧w.cell? ⟨g,k * 5,none⟩=some (.int .i64 l[k].kind)∧w.cell? ⟨g,k * 5 + 1,none⟩=some (.string ⟨l[k].name.toArray⟩)∧w.cell? ⟨g,k * 5 + 2,none⟩=some (.string ⟨l[k].space.toArray⟩)∧w.cell? ⟨g,k * 5 + 3,none⟩=some (.string ⟨l[k].val.toArray⟩)∧w.cell? ⟨g,k * 5 + 4,none⟩=some (.slice aa l[k].attrs.length ac)∧AtsAt w aa l[k].attrs∧(evRow (l[k],.slice aa l[k].attrs.length ac)).owned w 0:=by
  obtain ⟨es,hl,ho,ha,_,_⟩:=hg.ex
  have n1:es.length=l.length:=by rw [← hl];simp
  have k1:k<es.length:=by omega
  obtain ⟨g,d,f1,hlt,q⟩:=elem_cells (l:=es) (fun p=>evCells p.1 p.2) (fun _=>rfl) (by decide) ho n1.symm k k1
  have r1:es[k].1=l[k]:=by simp only [← hl,List.getElem_map]
  have o1:=ha _ (List.getElem_mem k1)
  obtain ⟨aa,ac,h2⟩:=slice_form o1
  have o2:w.ownsRow 0 112 3 es[k].2 es[k].1.attrs.length (atsRow es[k].1.attrs):=o1
  have h2:es[k].2 = .slice aa es[k].1.attrs.length ac:=h2
  rw [h2,r1] at o2
  have q0:=q 0 (by decide)
  have q1:=q 1 (by decide)
  have q2:=q 2 (by decide)
  have q3:=q 3 (by decide)
  have q4:=q 4 (by decide)
  rw [h2,r1] at q0 q1 q2 q3 q4
  exact ⟨g,d,aa,ac,f1,hlt,q0,q1,q2,q3,q4,AtsAt.of o2,o2⟩
structure RsI (w wx:World) (b:Nat) (bs:List (Bs × Bs)) (ms:List Nat) (L:SLay) (acc:List Ev) (ov:Value) (fp:List Nat):Prop where
  bel:Below w.heap.size w wx
  sc:ScK w.heap.size wx b (bs.map (·.1)) (bs.map (·.2)) ms L
  got:Got wx ov acc fp
  ow:∀ k,ov.ownBlock=some k→w.heap.size≤k
  ap:∀ k ∈ fp,k<wx.heap.size∧k ≠ b∧k ∉ scF (bs.map (·.1)) (bs.map (·.2)) ms L
section
variable {w wx w1 w2:World} {b:Nat} {bs bs' : List (Bs × Bs)} {ms ms' : List Nat} {L L' : SLay} {acc m:List Ev} {ov mv:Value} {fp fpm:List Nat} {f1:List Nat}
theorem RsI.bel1 (R:RsI w wx b bs ms L acc ov fp) (hf:Fr wx w1 b (scF (bs.map (·.1)) (bs.map (·.2)) ms L) f1):Below w.heap.size w w1∧Got w1 ov acc fp:=by
  have hb:=R.sc.hb
  refine ⟨R.bel.trans ⟨hf.os,hf.tape,hf.output,hf.size,fun k hk=>hf.block k (by have:=R.bel.size;omega) (by omega) (fun hm=>by have:=(R.sc.rows.lt k hm).1;omega)⟩,R.got.keep fun k hk => ?_⟩
  have:=R.ap k hk
  exact hf.block k this.1 this.2.1 this.2.2
theorem RsI.next (R:RsI w wx b bs ms L acc ov fp) (hs:ScK w.heap.size w1 b (bs'.map (·.1)) (bs'.map (·.2)) ms' L') (hf:Fr wx w1 b (scF (bs.map (·.1)) (bs.map (·.2)) ms L) (scF (bs'.map (·.1)) (bs'.map (·.2)) ms' L')) {es es2:List (Ev × Value)} (h1:GE w1 ov acc fp es) (hm:GE w1 mv m fpm es2) (hd:∀ k,ov.ownBlock=some k→k ∉ fpm) (hfm:∀ k ∈ fpm,k<w1.heap.size∧k ≠ b∧k ∉ scF (bs'.map (·.1)) (bs'.map (·.2)) ms' L')
    {g cap:Nat} (hown:w2.ownsRow 0 53 5 (.slice (some ⟨g,0,none⟩) (acc.length + m.length) cap) (acc.length + m.length) (evsRow es ++ evsRow es2)) (hgr:w1.grownBy w2 ov.ownBlock) (hat:ov.ownBlock=some g∨g=w1.heap.size) (hgl:g<w2.heap.size) :
    RsI w w2 b bs' ms' L' (acc ++ m) (.slice (some ⟨g,0,none⟩) (acc.length + m.length) cap) (g :: (fp ++ fpm)):=by
  obtain ⟨hb1,hg1⟩:=R.bel1 hf
  have hsz:=hf.size
  have hwx:=R.bel.size
  have hap1:∀ k ∈ fp,k<w1.heap.size∧k ≠ b∧k ∉ scF (bs'.map (·.1)) (bs'.map (·.2)) ms' L' := fun k hk=>by
    have h:=R.ap k hk
    refine ⟨by omega,h.2.1,fun hm => ?_⟩
    rcases hf.foot k hm with g | g
    · exact h.2.2 g
    · omega
  have hovf:∀ k,ov.ownBlock=some k→k ∈ fp:=R.got.own
  have hbl:=BR.lt hs
  have hsl:∀ k ∈ scF (bs'.map (·.1)) (bs'.map (·.2)) ms' L', k<w1.heap.size:=fun k hk=>(hs.rows.lt k hk).2
  refine ⟨hb1.trans ⟨hgr.os,hgr.tape,hgr.output,hgr.size,fun k hk=>hgr.block k (by omega) fun e=>by have:=R.ow k e.symm;omega⟩,BR.keep hs fun k hk=>hgr.block k (by
    rcases hk with rfl | hk
    · exact hbl
    · exact hsl k hk) fun e => ?_,Got.cat h1 hm hd (fun k hk=>(hap1 k hk).1) (fun k hk=>(hfm k hk).1) hown hgr hat,fun k hk => ?_,fun k hk => ?_⟩
  · have h:=hap1 k (hovf k e.symm)
    rcases hk with hk | hk
    · exact h.2.1 hk
    · exact h.2.2 hk
  · have e:g=k:=by simpa [Value.ownBlock] using hk
    subst e
    rcases hat with h | h
    · exact R.ow g h
    · omega
  · rcases List.mem_cons.1 hk with rfl | hk
    · rcases hat with h | h
      · have h2:=hap1 k (hovf k h)
        exact ⟨hgl,h2.2⟩
      · exact ⟨hgl,by omega,fun hm=>by have:=hsl k hm;omega⟩
    · have hz:=hgr.size
      rcases List.mem_append.1 hk with hk | hk
      · have h2:=hap1 k hk
        exact ⟨by omega,h2.2⟩
      · have h2:=hfm k hk
        exact ⟨by omega,h2.2⟩
end
theorem RsP.small {l:List Ev} {i:Nat} {bs:List (Bs × Bs)} {ms:List Nat} {o:List Bs} (P:RsP l i bs ms o) {H:Sh} (hs:shs Sh.zero l=some H) (hdp:H.dep≤64):bs.length≤2048∧ms.length≤64:=by
  obtain ⟨h,h1,h2⟩:=P.st
  have hs2:=hs
  rw [← List.take_append_drop i l,shs_app,h1] at hs2
  dsimp only at hs2
  have m1:=shs_mono (l.take i) Sh.zero h h1 (Nat.le_refl _)
  have m2:=shs_mono (l.drop i) h H hs2 m1.2.2.2.1
  have h3:=P.ln
  rw [← h2] at h3
  have h4:=P.sm
  have h5:=sum_le ms P.m32
  have h6:ms.length≤64:=by have:=m1.2.2.2.1;omega
  exact ⟨by omega,h6⟩
theorem hasColon_eq:∀ (n:Bs),Mk.hasColon n=n.any (· == 58)
  | []=>rfl
  | x :: r=>by
    have h:=hasColon_eq r
    unfold Mk.hasColon at h ⊢
    rw [colon_cons,List.any_cons]
    cases hx:(x == 58)
    · simp only [Bool.false_eq_true,if_false,Bool.false_or,List.length_cons,Nat.add_lt_add_iff_right]
      exact h
    · simp
theorem left_op (bs:List (Bs × Bs)) (ms0:List Nat) (m:Nat) (hm:m≤bs.length):kLeft ⟨xmlB :: bs,ms0 ++ [m]⟩=⟨xmlB :: bs.take (bs.length - m),ms0⟩∧Sc.tag ⟨xmlB :: bs,ms0 ++ [m]⟩=bs.drop (bs.length - m):=by
  have hf:Sc.fst ⟨xmlB :: bs,ms0 ++ [m]⟩=(bs.length - m) + 1:=by
    unfold Sc.fst
    dsimp only
    rw [List.getLast?_concat]
    dsimp only
    rw [if_neg (by simp;omega)]
    simp
    omega
  unfold kLeft Sc.tag
  rw [hf]
  exact ⟨by simp,by simp⟩
theorem RsI.one {w wr w5:World} {b:Nat} {bs:List (Bs × Bs)} {ms:List Nat} {L:SLay} {acc:List Ev} {ov:Value} {fp:List Nat} (R:RsI w wr b bs ms L acc ov fp) {x:Ev} {av:Value} (hev:(evRow (x,av)).owned w 0) {o:Obj} {g5 cap5:Nat} (hown:w5.ownsRow 0 53 5 (.slice (some ⟨g5,0,none⟩) 1 cap5) 1 (evCells x av)) (hgr:(wr.alloc o).grownBy w5 none) (hat:g5=wr.heap.size + 1) :
    ScK w.heap.size w5 b (bs.map (·.1)) (bs.map (·.2)) ms L∧Fr wr w5 b (scF (bs.map (·.1)) (bs.map (·.2)) ms L) (scF (bs.map (·.1)) (bs.map (·.2)) ms L)∧GE w5 (.slice (some ⟨g5,0,none⟩) 1 cap5) [x] (g5 :: av.ownBlock.toList) [(x,av)]∧(∀ k,ov.ownBlock=some k→k ∉ g5 :: av.ownBlock.toList)∧∀ k ∈ g5 :: av.ownBlock.toList,k<w5.heap.size∧k ≠ b∧k ∉ scF (bs.map (·.1)) (bs.map (·.2)) ms L:=by
  have hb:Below wr.heap.size wr w5:=((Below.refl _ _).alloc (Nat.le_refl _) o).trans ((spBelowG hgr).mono (by simp))
  have hvl:∀ k,av.ownBlock=some k→k<w.heap.size:=fun k hk=>(hev.lt k hk).2
  have hwx:=R.bel.size
  have hbb:=R.sc.hb
  have hbl:=BR.lt R.sc
  have hg5:=(World.ownsRow.lt hown g5 rfl).2
  have hsl:∀ k ∈ scF (bs.map (·.1)) (bs.map (·.2)) ms L,w.heap.size≤k∧k<wr.heap.size:=fun k hk=>R.sc.rows.lt k hk
  refine ⟨BR.below R.sc hb,⟨hb.os,hb.tape,hb.output,hb.size,fun k hk _ _=>hb.block k hk,fun k hk => .inl hk⟩,⟨rfl,by simpa [evsRow] using hown,fun p hp => ?_,fun k hk => ?_,fun k hk => ?_⟩,fun k hk hm => ?_,fun k hk => ?_⟩
  · simp at hp;subst hp
    refine owned_keep (w:=w) hev fun k hk => ?_
    have:=hvl k hk
    rw [hb.block k (by omega)]
    exact R.bel.block k this
  · have e:g5=k:=by simpa [Value.ownBlock] using hk
    subst e;exact List.mem_cons_self
  · obtain ⟨r,hr,hv⟩:=List.mem_filterMap.1 hk
    simp at hr;subst hr
    have hv:av.ownBlock=some k:=hv
    have:=hvl k hv
    refine ⟨List.mem_cons_of_mem _ (by rw [hv];simp),fun e => ?_⟩
    have e:g5=k:=by simpa [Value.ownBlock] using e
    omega
  · have h1:=R.ap k (R.got.own k hk)
    have h2:=R.ow k hk
    rcases List.mem_cons.1 hm with rfl | hm
    · omega
    · have hv:av.ownBlock=some k:=by simpa using hm
      have:=hvl k hv
      omega
  · rcases List.mem_cons.1 hk with rfl | hk
    · exact ⟨hg5,by omega,fun hm=>by have:=hsl k hm;omega⟩
    · have hv:av.ownBlock=some k:=by simpa using hk
      have:=hvl k hv
      have:=hb.size
      exact ⟨by omega,by omega,fun hm=>by have:=hsl k hm;omega⟩
set_option maxHeartbeats 8000000 in
set_option maxRecDepth 100000 in
theorem resolved_any {w:World} {v:Value} {l:List Ev} {fp:List Nat} {H:Sh} (hg:Got w v l fp) (hfp:∀ k ∈ fp,k<w.heap.size) (hs:shs Sh.zero l=some H) (hdp:H.dep≤64) (hat:H.att≤32) (hl:l.length≤100000000)
    (hb:∀ e ∈ l,e.name.length≤100000000∧∀ y ∈ e.attrs,y.space=[]∧y.name.length≤100000000) (hka:∀ e ∈ l,e.kind ≠ 1→e.attrs=[]) :
    Calls Tryz.prog 24 #[v] w fun e w' => ∃ v' fp', e = .returned (.tuple #[v', .bool (kRes Sc.zero [] l).2.2])∧Got w' v' (kRes Sc.zero [] l).2.1 fp' ∧ (∀ k ∈ fp', k<w'.heap.size)∧Below w.heap.size w w' := by
  obtain ⟨FIN,hFIN⟩:∃ FIN,FIN=kRes Sc.zero [] l:=⟨_,rfl⟩
  rw [← hFIN]
  have HFN:=hide hFIN
  obtain ⟨va,vc,hv⟩:=hg.slice
  subst hv
  have HG:=hide hg
  have HFP:=hide hfp
  have HS:=hide hs
  have HB:=hide hb
  have HKA:=hide hka
  obtain ⟨i0,hi,hz0,hz1,hz2⟩:=info_parts infoEv
  clear hg hfp hs hb hka hFIN
  go_enter Tryz.func24,Tryz.ntmps24
  have hR0:RsI w (w.alloc (.cells #[.slice none 0 0,.slice none 0 0,.slice none 0 0] 89)) w.heap.size [] [] ⟨none,0,none,0,none,0⟩ [] (.slice none 0 0) []:=
    ⟨(Below.refl _ _).alloc (Nat.le_refl _) _,⟨heap_alloc_new w _,⟨fun r hr=>owned_nil (by simp [scRows,pRow,vRow,mRow] at hr;rcases hr with rfl | rfl <;> exact ⟨rfl,rfl,rfl⟩),by simp [scRows,pRow,vRow,mRow,blks,Value.ownBlock]⟩,by simp [scRows,pRow,vRow,mRow,blks,Value.ownBlock],Nat.le_refl _⟩,got_nil _,(fun k hk=>by cases hk),(fun k hk=>by cases hk)⟩
  have hP0:RsP l 0 [] [] []:=⟨(fun x hx=>by cases hx),rfl,(fun m hm=>by cases hm),⟨Sh.zero,rfl,rfl⟩,rfl,(fun n hn=>by cases hn)⟩
  have HR0:=hide hR0
  have HP0:=hide hP0
  clear hR0 hP0
  go_wp2_with fail
  go_loopg [5,6] l.length (fun g s5 s6 wx=>∃ (i:Nat) (bs:List (Bs × Bs)) (ms:List Nat) (o:List Bs) (L:SLay) (acc:List Ev) (oa:Option Addr) (oc:Nat) (fp' : List Nat),i≤l.length∧g=l.length - i∧s5 = .slice oa acc.length oc∧s6 = .int .i64 i∧acc.length≤34 * i∧Hid (RsI w wx w.heap.size bs ms L acc (.slice oa acc.length oc) fp')∧Hid (RsP l i bs ms o)∧Hid (FIN=kRes ⟨xmlB :: bs,ms⟩ acc (l.drop i)))
  case atStart=>exact ⟨0,[],[],[],_,[],none,0,[],by omega,rfl,rfl,rfl,by simp,unhide HR0,unhide HP0,unhide HFN⟩
  case round =>
    obtain ⟨i,bs,ms,o,L,acc,oa,oc,fp', hi', rfl,rfl,rfl,hacc,HR,HP,HF⟩:=hrel
    clear HR0 HP0
    by_cases h3:i<l.length
    · have e1:decide ((i:Int)<(l.length:Int))=true:=by simp;omega
      have hk1:(i:Int)<(l.length:Int):=by omega
      obtain ⟨g,c,aa,ac,hva,hgl,c0,c1,c2,c3,c4,hats,hev⟩:=(unhide HG).at2 i h3
      injection hva with hva _ hvc
      subst hva hvc
      have hbel:=(unhide HR).bel
      have hcw:∀ j,wr.cell? ⟨g,j,none⟩=w.cell? ⟨g,j,none⟩:=fun j=>by simp only [World.cell?];rw [hbel.block _ hgl]
      have hgl2:g<wr.heap.size:=by have:=hbel.size;omega
      rw [← hcw] at c0 c1 c2 c3 c4
      have hatx:=hats.keep hbel
      obtain ⟨hb1,hb2⟩:=unhide HB l[i] (List.getElem_mem h3)
      have hka:=unhide HKA l[i] (List.getElem_mem h3)
      have hsm:=(unhide HP).small (unhide HS) hdp
      have hatt:=((shs_mono l Sh.zero H (unhide HS) (Nat.le_refl _)).2.2.2.2 l[i] (List.getElem_mem h3)).1
      have hf:=unhide HF
      have hkr:∀ (x:Ev) r,kRes ⟨xmlB :: bs,ms⟩ acc (x :: r)=match kOne ⟨xmlB :: bs,ms⟩ x with | none=>(⟨xmlB :: bs,ms⟩,acc,false) | some (c', m)=>kRes c' (acc ++ m) r:=fun _ _=>rfl
      rw [List.drop_eq_getElem_cons h3,hkr] at hf
      have hPs:=fun hk bs' ms' r hF=>(unhide HP).start (bs' := bs') (ms' := ms') (r:=r) h3 hk (unhide HS) hat hF
      have hPe:=fun hk=>(unhide HP).end_ h3 hk (unhide HS)
      have hPo:=fun hk1 hk2=>(unhide HP).else_ h3 hk1 hk2 (unhide HS)
      generalize l[i]=x at *
      have hda:∀ g', aa=some ⟨g', 0,none⟩→g' ≠ w.heap.size∧g' ∉ scF (bs.map (·.1)) (bs.map (·.2)) ms L:=fun g' hg' => by
        have h1:g' < w.heap.size:=(hev.lt g' (by show (Value.slice aa x.attrs.length ac).ownBlock=some g'; rw [hg'];rfl)).2
        exact ⟨by omega,fun hm=>by have:=((unhide HR).sc.rows.lt g' hm).1;omega⟩
      clear hcw hkr HF hats
      by_cases hk1' : x.kind=1
      · have t1:(x.kind == 1)=true:=by simpa using hk1'
        have HOp:=hide (opens_any (c:=ac) (unhide HR).sc (unhide HP).gd (by omega) (by omega) hatx hda hb2 (by omega) 1 x.name x.space x.val hb1)
        have hko:kOne ⟨xmlB :: bs,ms⟩ x=match kStart ⟨xmlB :: bs,ms⟩ x.name x.attrs with | none=>none | some (c', l)=>some (c', kTold c' x.name l):=by
          unfold kOne
          rw [if_pos hk1']
          cases kStart ⟨xmlB :: bs,ms⟩ x.name x.attrs <;> rfl
        rw [hko] at hf
        have HF:=hide hf
        have HPS:=hide (hPs hk1')
        have HM34:Hid (∀ bs' ms' r,kStart ⟨xmlB :: bs,ms⟩ x.name x.attrs=some (⟨xmlB :: bs', ms'⟩,r)→(kTold ⟨xmlB :: bs', ms'⟩ x.name r).length≤34):=fun bs' ms' r hF=>by
          rw [kStart_op] at hF
          cases hop:opGo x.attrs [] with
          | none=>rw [hop] at hF;cases hF
          | some D =>
            rw [hop] at hF
            dsimp only at hF
            split at hF
            · cases hF
            · split at hF
              · cases hF
              · split at hF
                · cases hF
                · have hF:=Option.some.inj hF
                  have h1:(⟨xmlB :: (bs ++ D),ms ++ [D.length]⟩:Sc)=⟨xmlB :: bs', ms'⟩:=congrArg Prod.fst hF
                  rw [← h1]
                  unfold kTold
                  rw [tag_op]
                  have:=opGo_len _ _ _ hop
                  simp [kBinds] at this ⊢
                  omega
        clear hf hko hPs hPe hPo hda hatx hev hb1 hb2 hka
        go_wp2_with fail
        refine (unhide HOp).mono ?_
        rintro e w1 (⟨hF0,⟨mv,rfl⟩,hfr⟩ | ⟨bs', ms', r,L', mv,fpm,hF0,hgd', rfl,hs', hfr,hgm,hfpm⟩)
        · have hfin:=unhide HF
          rw [hF0] at hfin
          have hfin:FIN=(⟨xmlB :: bs,ms⟩,acc,false):=hfin
          have HF2:=hide hfin
          have hK:=(unhide HR).bel1 hfr
          have HK:=hide (And.intro hK hfr.size)
          clear hfin hF0 hfr hK
          go_wp2
          go_ret2
          rw [unhide HF2]
          exact ⟨_,fp', rfl,(unhide HK).1.2,fun k hk=>by have:=((unhide HR).ap k hk).1;have:=(unhide HK).2;omega,(unhide HK).1.1⟩
        · have hfin:=unhide HF
          rw [hF0] at hfin
          have hfin:FIN=kRes ⟨xmlB :: bs', ms'⟩ (acc ++ kTold ⟨xmlB :: bs', ms'⟩ x.name r) (l.drop (i + 1)):=hfin
          have HF2:=hide hfin
          have HP2:=hide (unhide HPS bs' ms' r hF0)
          obtain ⟨ma,mc,rfl⟩:=hgm.slice
          have HRS:=hide (And.intro hs' (And.intro hfr (And.intro hgm hfpm)))
          have hmidl:0<(kTold ⟨xmlB :: bs', ms'⟩ x.name r).length:=by simp [kTold]
          have hml33:(kTold ⟨xmlB :: bs', ms'⟩ x.name r).length≤34:=unhide HM34 bs' ms' r hF0
          obtain ⟨M,hM⟩:∃ M,M=kTold ⟨xmlB :: bs', ms'⟩ x.name r:=⟨_,rfl⟩
          rw [← hM] at hgm hmidl hml33 hfin
          clear HF2
          have HF2:=hide hfin
          rw [← hM]
          clear hM HRS
          have hd:∀ k,(Value.slice oa acc.length oc).ownBlock=some k→k ∉ fpm:=fun k hk hm=>by
            have h1:=(unhide HR).ap k ((unhide HR).got.own k hk)
            have h2:=hfpm k hm
            omega
          have hfm:=fun k hk=>(hfpm k hk).2
          have hmid:=(unhide HR).bel1 hfr
          obtain ⟨es,x1⟩:=hmid.2.ex
          obtain ⟨es2,x2⟩:=hgm.ex
          have x1:GE w1 (.slice oa acc.length oc) acc fp' es:=x1
          have x2:GE w1 (.slice ma M.length mc) M fpm es2:=x2
          obtain ⟨gm,rfl,hgml,hnews,hone,hlen2⟩:=ge_news x2 hmidl
          have HX:=hide (And.intro x1 (And.intro x2 (And.intro hd (And.intro hfm (And.intro hs' hfr)))))
          have HO:=hide x1.2.1
          have HNW:=hide hnews
          have HON:=hide hone
          have HLN:=hide hlen2
          have H63:=hide (show acc.length + M.length≤maxLen by unfold maxLen;omega)
          clear hfin hF0 hs' hfr hgm hfpm hmid x1 x2 hnews hone hlen2 hd hfm
          go_wp2_with (at_builtin;refine wpList_append_lies _ rfl (.tmp 85) (.tmp 86) 35 rfl 0 53 i0 _ 5 80 Tryz.underlying35 hi hz0 hz1 hz2 rfl (by decide) (.slice oa acc.length oc) acc.length (evsRow es) (by simp [Act.eval]) (unhide HO) ⟨gm,0,none⟩ M.length mc (evsRow es2) (by simp [Act.eval]) (unhide HLN) (unhide HNW) (unhide HON) hmidl (unhide H63) (by omega) (Nat.zero_le _) w1.heap.size rfl ?_;intro g9 cap9 w9 hown hgrow hat9 hlt9;have HNX:=hide (RsI.next (unhide HR) (unhide HX).2.2.2.2.1 (unhide HX).2.2.2.2.2 (unhide HX).1 (unhide HX).2.1 (unhide HX).2.2.1 (unhide HX).2.2.2.1 hown hgrow hat9 hlt9);clear hown hgrow hat9)
          go_roundg (l.length - (i + 1))
          case measure=>omega
          case rel=>exact ⟨i + 1,bs', ms', (o ++ [x.name]),L', acc ++ M,some ⟨g9,0,none⟩,cap9,_,by omega,rfl,by simp,by simp,by simp;omega,by show RsI _ _ _ _ _ _ _ _ _;simpa using unhide HNX,unhide HP2,unhide HF2⟩
      · by_cases hk2' : x.kind=2
        · obtain ⟨ms0,m,hms,hm,hqn,hP'⟩:=hPe hk2'
          subst hms
          have HCl:=hide (closes_any (a:=aa) (c:=ac) (l:=x.attrs.length) (unhide HR).sc hm (by omega) (by simp at hsm;omega) 2 x.name x.space x.val hb1 hqn)
          have hko:kOne ⟨xmlB :: bs,ms0 ++ [m]⟩ x=some (⟨xmlB :: bs.take (bs.length - m),ms0⟩,⟨2,x.name,lkS bs (Mk.prefixOf x.name),[],[]⟩ :: kUnbinds ((bs.drop (bs.length - m)).reverse)):=by
            unfold kOne
            rw [if_neg hk1', if_pos hk2', if_neg (by simp),(left_op bs ms0 m hm).1]
            unfold kEnd
            rw [(left_op bs ms0 m hm).2]
            dsimp only
            rw [look_value (unhide HP).gd]
          rw [hko] at hf
          dsimp only at hf
          have hm32:m≤32:=(unhide HP).m32 m (by simp)
          have HP2:=hide hP'
          obtain ⟨M,hM⟩:∃ M:List Ev,M=⟨2,x.name,lkS bs (Mk.prefixOf x.name),[],[]⟩ :: kUnbinds ((bs.drop (bs.length - m)).reverse):=⟨_,rfl⟩
          have hmidl:0<M.length:=by rw [hM];simp
          have hml33:M.length≤34:=by rw [hM];simp [kUnbinds];omega
          have HM:=hide hM
          rw [← hM] at hf
          have HF2:=hide hf
          clear hf hko hPs hPe hPo hda hatx hev hb1 hb2 hka hP' hM
          go_wp2_with fail
          refine (unhide HCl).mono ?_
          rintro e w1 ⟨L', mv,fpm,rfl,hs', hfr,hgm,hfpm⟩
          rw [← unhide HM] at hgm
          obtain ⟨ma,mc,rfl⟩:=hgm.slice
          have hd:∀ k,(Value.slice oa acc.length oc).ownBlock=some k→k ∉ fpm:=fun k hk hm=>by
            have h1:=(unhide HR).ap k ((unhide HR).got.own k hk)
            have h2:=hfpm k hm
            omega
          have hfm:=fun k hk=>(hfpm k hk).2
          have hmid:=(unhide HR).bel1 hfr
          obtain ⟨es,x1⟩:=hmid.2.ex
          obtain ⟨es2,x2⟩:=hgm.ex
          have x1:GE w1 (.slice oa acc.length oc) acc fp' es:=x1
          have x2:GE w1 (.slice ma M.length mc) M fpm es2:=x2
          obtain ⟨gm,rfl,hgml,hnews,hone,hlen2⟩:=ge_news x2 hmidl
          have HX:=hide (And.intro x1 (And.intro x2 (And.intro hd (And.intro hfm (And.intro hs' hfr)))))
          have HO:=hide x1.2.1
          have HNW:=hide hnews
          have HON:=hide hone
          have HLN:=hide hlen2
          have H63:=hide (show acc.length + M.length≤maxLen by unfold maxLen;omega)
          clear hs' hfr hgm hfpm hmid x1 x2 hnews hone hlen2 hd hfm
          go_wp2_with (at_builtin;refine wpList_append_lies _ rfl (.tmp 85) (.tmp 86) 35 rfl 0 53 i0 _ 5 80 Tryz.underlying35 hi hz0 hz1 hz2 rfl (by decide) (.slice oa acc.length oc) acc.length (evsRow es) (by simp [Act.eval]) (unhide HO) ⟨gm,0,none⟩ M.length mc (evsRow es2) (by simp [Act.eval]) (unhide HLN) (unhide HNW) (unhide HON) hmidl (unhide H63) (by omega) (Nat.zero_le _) w1.heap.size rfl ?_;intro g9 cap9 w9 hown hgrow hat9 hlt9;have HNX:=hide (RsI.next (unhide HR) (unhide HX).2.2.2.2.1 (unhide HX).2.2.2.2.2 (unhide HX).1 (unhide HX).2.1 (unhide HX).2.2.1 (unhide HX).2.2.2.1 hown hgrow hat9 hlt9);clear hown hgrow hat9)
          go_roundg (l.length - (i + 1))
          case measure=>omega
          case rel=>exact ⟨i + 1,(bs.take (bs.length - m)),ms0,o.dropLast,L', acc ++ M,some ⟨g9,0,none⟩,cap9,_,by omega,rfl,by simp,by simp,by simp;omega,by show RsI _ _ _ _ _ _ _ _ _;simpa using unhide HNX,unhide HP2,unhide HF2⟩
        · have hP' := hPo hk1' hk2'
          have hno:=hka hk1'
          have t1:(x.kind == 1)=false:=by simpa using hk1'
          have t2:(x.kind == 2)=false:=by simpa using hk2'
          have HP2:=hide hP'
          have HEV:=hide hev
          have hkon:kOne ⟨xmlB :: bs,ms⟩ x=if x.kind=5 then (if Mk.hasColon x.name then none else some (⟨xmlB :: bs,ms⟩,[x])) else some (⟨xmlB :: bs,ms⟩,[x]):=by unfold kOne;rw [if_neg hk1', if_neg hk2']
          rw [hkon] at hf
          by_cases hk5:x.kind=5
          · have t5:(x.kind == 5)=true:=by simpa using hk5
            rw [if_pos hk5] at hf
            have hcl:=hasColon_eq x.name
            have HCL:=hide hcl
            have HF:=hide hf
            clear hf hkon hPs hPe hPo hda hatx hev hb2 hka hP' hk1' hk2' hno hcl hk5
            go_wp2_with fail
            go_loopg [8,9] x.name.length (fun g s8 s9 wx=>∃ (k:Nat) (B:Bool),wx=wr∧k≤x.name.length∧g=x.name.length - k∧s8 = .bool B∧s9 = .int .i64 k∧Hid (B = !((x.name.take k).any (· == 58))))
            case atStart=>exact ⟨0,true,rfl,by omega,rfl,rfl,rfl,rfl⟩
            case round =>
              obtain ⟨k,B,hwr,hk,rfl,rfl,rfl,HK⟩:=hrel
              obtain rfl:=hwr.symm
              by_cases h7:k<x.name.length
              · have f1:decide ((k:Int)<(x.name.length:Int))=true:=by simp;omega
                have f2:(k:Int)<(x.name.length:Int):=by omega
                obtain ⟨y,hy⟩:∃ y,x.name[k]? = some y:=⟨x.name[k],by simp [h7]⟩
                have hsa:∀ h,(ByteArray.mk x.name.toArray)[k]'h=y:=fun h=>(List.getElem?_eq_some_iff.1 hy).2
                have hyk:x.name[k]=y:=(List.getElem?_eq_some_iff.1 hy).2
                have hu:=spByte y 58 (by omega)
                have hn:(!((x.name.take (k + 1)).any (· == 58)))=(B && !(y == 58)):=by
                  rw [List.take_succ_eq_append_getElem h7,List.any_append,unhide HK,hyk]
                  simp
                have HN:=hide hn
                have e58:((y.toNat:Int) == 58)=(y == 58):=hu
                have e59:((y.toNat:Int) != 58) = !(y == 58):=by rw [bne,e58]
                clear hn hu hy HK hyk
                generalize (y == 58)=Y at *
                cases B <;> cases Y
                all_goals
                  go_wp2
                  go_roundg (x.name.length - (k + 1))
                  case measure=>omega
                  case rel=>exact ⟨k + 1,_,rfl,by omega,rfl,rfl,by simp,by show _=_;rw [unhide HN];rfl⟩
              · have f1:decide ((k:Int)<(x.name.length:Int))=false:=by simp;omega
                have f3:decide (k<x.name.length)=false:=by simp;omega
                have hB:=unhide HK
                rw [List.take_of_length_le (by omega), ← unhide HCL] at hB
                have hC2:Mk.hasColon x.name=false∨Mk.hasColon x.name=true:=by cases Mk.hasColon x.name <;> simp
                rcases hC2 with hC | hC
                · have hB2:B=true:=by rw [hB,hC];rfl
                  clear hB
                  subst hB2
                  have hf:=unhide HF
                  rw [hC] at hf
                  have hf:FIN=kRes ⟨xmlB :: bs,ms⟩ (acc ++ [x]) (l.drop (i + 1)):=hf
                  have HF2:=hide hf
                  clear hf HK hC
                  have HOa:=hide (show (wr.alloc (.cells #[.int .i64 x.kind,.string ⟨x.name.toArray⟩,.string ⟨x.space.toArray⟩,.string ⟨x.val.toArray⟩,.slice aa x.attrs.length ac] 53)).ownsRow 0 53 5 (.slice none 0 0) 0 [] from owned_nil (r:=⟨53,5,.slice none 0 0,0,[]⟩) ⟨rfl,rfl,rfl⟩)
                  have HBa:=hide (show (wr.alloc (.cells #[.int .i64 x.kind,.string ⟨x.name.toArray⟩,.string ⟨x.space.toArray⟩,.string ⟨x.val.toArray⟩,.slice aa x.attrs.length ac] 53)).heap[wr.heap.size]? = _ from heap_alloc_new wr _)
                  have H63:=hide (show acc.length + 1≤maxLen by unfold maxLen;omega)
                  go_wp2_with (at_builtin;first | (refine wpList_append_lies _ rfl (.tmp 75) (.tmp 80) 35 rfl 0 53 i0 _ 5 80 Tryz.underlying35 hi hz0 hz1 hz2 rfl (by decide) (.slice none 0 0) 0 [] (by simp [Act.eval]) (unhide HOa) ⟨wr.heap.size,0,none⟩ 1 1 (evCells x (.slice aa x.attrs.length ac)) (by simp [Act.eval]) rfl (World.news_of_block (unhide HBa)) (by intro u hu;simp [evCells] at hu;rcases hu with rfl | rfl | rfl | rfl | rfl <;> rfl) (by decide) (by unfold maxLen;decide) (by decide) (Nat.zero_le _) (wr.heap.size + 1) (by simp) ?_;intro g5 cap5 w1 hown hgrow hat5 hlt5;obtain ⟨hs', hfr,x2,hd,hfm⟩:=RsI.one (unhide HR) (unhide HEV) hown hgrow (by rcases hat5 with h | h;cases h;exact h);have hmid:=(unhide HR).bel1 hfr;obtain ⟨es,x1⟩:=hmid.2.ex;have x1:GE w1 (.slice oa acc.length oc) acc fp' es:=x1;obtain ⟨gm,hgm,hgml,hnews,hone,hlen2⟩:=ge_news x2 (by simp);injection hgm with hgm;injection hgm with hgm _ _;subst hgm;have HX:=hide (And.intro x1 (And.intro x2 (And.intro hd (And.intro hfm (And.intro hs' hfr)))));have HO:=hide x1.2.1;have HNW:=hide hnews;have HON:=hide hone;clear hown hgrow hat5 hs' hfr x1 x2 hd hfm hmid hnews hone hlen2 hgml) | (refine wpList_append_lies _ rfl (.tmp 85) (.tmp 86) 35 rfl 0 53 i0 _ 5 80 Tryz.underlying35 hi hz0 hz1 hz2 rfl (by decide) (.slice oa acc.length oc) acc.length (evsRow es) (by simp [Act.eval]) (unhide HO) ⟨g5,0,none⟩ 1 cap5 (evsRow [(x,Value.slice aa x.attrs.length ac)]) (by simp [Act.eval]) rfl (unhide HNW) (unhide HON) (by decide) (unhide H63) (by omega) (Nat.zero_le _) w1.heap.size rfl ?_;intro g9 cap9 w9 hown hgrow hat9 hlt9;have HNX:=hide (RsI.next (unhide HR) (unhide HX).2.2.2.2.1 (unhide HX).2.2.2.2.2 (unhide HX).1 (unhide HX).2.1 (unhide HX).2.2.1 (unhide HX).2.2.2.1 hown hgrow hat9 hlt9);clear hown hgrow hat9))
                  go_roundg (l.length - (i + 1))
                  case measure=>omega
                  case rel=>exact ⟨i + 1,bs,ms,o,L,acc ++ [x],some ⟨g9,0,none⟩,cap9,_,by omega,rfl,by simp,by simp,by simp;omega,by show RsI _ _ _ _ _ _ _ _ _;simpa using unhide HNX,unhide HP2,unhide HF2⟩
                · have hB2:B=false:=by rw [hB,hC];rfl
                  clear hB
                  subst hB2
                  have hf:=unhide HF
                  rw [hC] at hf
                  have hf:FIN=(⟨xmlB :: bs,ms⟩,acc,false):=hf
                  have HF2:=hide hf
                  clear hf HK hC
                  have HOa:=hide (show (wr.alloc (.cells #[.int .i64 x.kind,.string ⟨x.name.toArray⟩,.string ⟨x.space.toArray⟩,.string ⟨x.val.toArray⟩,.slice aa x.attrs.length ac] 53)).ownsRow 0 53 5 (.slice none 0 0) 0 [] from owned_nil (r:=⟨53,5,.slice none 0 0,0,[]⟩) ⟨rfl,rfl,rfl⟩)
                  have HBa:=hide (show (wr.alloc (.cells #[.int .i64 x.kind,.string ⟨x.name.toArray⟩,.string ⟨x.space.toArray⟩,.string ⟨x.val.toArray⟩,.slice aa x.attrs.length ac] 53)).heap[wr.heap.size]? = _ from heap_alloc_new wr _)
                  have H63:=hide (show acc.length + 1≤maxLen by unfold maxLen;omega)
                  go_wp2_with (at_builtin;(refine wpList_append_lies _ rfl (.tmp 75) (.tmp 80) 35 rfl 0 53 i0 _ 5 80 Tryz.underlying35 hi hz0 hz1 hz2 rfl (by decide) (.slice none 0 0) 0 [] (by simp [Act.eval]) (unhide HOa) ⟨wr.heap.size,0,none⟩ 1 1 (evCells x (.slice aa x.attrs.length ac)) (by simp [Act.eval]) rfl (World.news_of_block (unhide HBa)) (by intro u hu;simp [evCells] at hu;rcases hu with rfl | rfl | rfl | rfl | rfl <;> rfl) (by decide) (by unfold maxLen;decide) (by decide) (Nat.zero_le _) (wr.heap.size + 1) (by simp) ?_;intro g5 cap5 w1 hown hgrow hat5 hlt5;obtain ⟨hs', hfr,x2,hd,hfm⟩:=RsI.one (unhide HR) (unhide HEV) hown hgrow (by rcases hat5 with h | h;cases h;exact h);have hmid:=(unhide HR).bel1 hfr;obtain ⟨es,x1⟩:=hmid.2.ex;have x1:GE w1 (.slice oa acc.length oc) acc fp' es:=x1;obtain ⟨gm,hgm,hgml,hnews,hone,hlen2⟩:=ge_news x2 (by simp);injection hgm with hgm;injection hgm with hgm _ _;subst hgm;have HX:=hide (And.intro x1 (And.intro x2 (And.intro hd (And.intro hfm (And.intro hs' hfr)))));have HO:=hide x1.2.1;have HNW:=hide hnews;have HON:=hide hone;clear hown hgrow hat5 hs' hfr x1 x2 hd hfm hmid hnews hone hlen2 hgml))
                  go_ret2
                  have hmid:=(unhide HR).bel1 (unhide HX).2.2.2.2.2
                  exact ⟨_,rfl,fp', hmid.2,fun k hk=>by have:=((unhide HR).ap k hk).1;have:=(unhide HX).2.2.2.2.2.size;omega,hmid.1⟩
          · have t5:(x.kind == 5)=false:=by simpa using hk5
            rw [if_neg hk5] at hf
            dsimp only at hf
            have HF2:=hide hf
            clear hf hkon hPs hPe hPo hda hatx hev hb1 hb2 hka hP' hk1' hk2' hk5 hno
            have HOa:=hide (show (wr.alloc (.cells #[.int .i64 x.kind,.string ⟨x.name.toArray⟩,.string ⟨x.space.toArray⟩,.string ⟨x.val.toArray⟩,.slice aa x.attrs.length ac] 53)).ownsRow 0 53 5 (.slice none 0 0) 0 [] from owned_nil (r:=⟨53,5,.slice none 0 0,0,[]⟩) ⟨rfl,rfl,rfl⟩)
            have HBa:=hide (show (wr.alloc (.cells #[.int .i64 x.kind,.string ⟨x.name.toArray⟩,.string ⟨x.space.toArray⟩,.string ⟨x.val.toArray⟩,.slice aa x.attrs.length ac] 53)).heap[wr.heap.size]? = _ from heap_alloc_new wr _)
            have H63:=hide (show acc.length + 1≤maxLen by unfold maxLen;omega)
            go_wp2_with (at_builtin;first | (refine wpList_append_lies _ rfl (.tmp 23) (.tmp 28) 35 rfl 0 53 i0 _ 5 80 Tryz.underlying35 hi hz0 hz1 hz2 rfl (by decide) (.slice none 0 0) 0 [] (by simp [Act.eval]) (unhide HOa) ⟨wr.heap.size,0,none⟩ 1 1 (evCells x (.slice aa x.attrs.length ac)) (by simp [Act.eval]) rfl (World.news_of_block (unhide HBa)) (by intro u hu;simp [evCells] at hu;rcases hu with rfl | rfl | rfl | rfl | rfl <;> rfl) (by decide) (by unfold maxLen;decide) (by decide) (Nat.zero_le _) (wr.heap.size + 1) (by simp) ?_;intro g5 cap5 w1 hown hgrow hat5 hlt5;obtain ⟨hs', hfr,x2,hd,hfm⟩:=RsI.one (unhide HR) (unhide HEV) hown hgrow (by rcases hat5 with h | h;cases h;exact h);have hmid:=(unhide HR).bel1 hfr;obtain ⟨es,x1⟩:=hmid.2.ex;have x1:GE w1 (.slice oa acc.length oc) acc fp' es:=x1;obtain ⟨gm,hgm,hgml,hnews,hone,hlen2⟩:=ge_news x2 (by simp);injection hgm with hgm;injection hgm with hgm _ _;subst hgm;have HX:=hide (And.intro x1 (And.intro x2 (And.intro hd (And.intro hfm (And.intro hs' hfr)))));have HO:=hide x1.2.1;have HNW:=hide hnews;have HON:=hide hone;clear hown hgrow hat5 hs' hfr x1 x2 hd hfm hmid hnews hone hlen2 hgml) | (refine wpList_append_lies _ rfl (.tmp 85) (.tmp 86) 35 rfl 0 53 i0 _ 5 80 Tryz.underlying35 hi hz0 hz1 hz2 rfl (by decide) (.slice oa acc.length oc) acc.length (evsRow es) (by simp [Act.eval]) (unhide HO) ⟨g5,0,none⟩ 1 cap5 (evsRow [(x,Value.slice aa x.attrs.length ac)]) (by simp [Act.eval]) rfl (unhide HNW) (unhide HON) (by decide) (unhide H63) (by omega) (Nat.zero_le _) w1.heap.size rfl ?_;intro g9 cap9 w9 hown hgrow hat9 hlt9;have HNX:=hide (RsI.next (unhide HR) (unhide HX).2.2.2.2.1 (unhide HX).2.2.2.2.2 (unhide HX).1 (unhide HX).2.1 (unhide HX).2.2.1 (unhide HX).2.2.2.1 hown hgrow hat9 hlt9);clear hown hgrow hat9))
            go_roundg (l.length - (i + 1))
            case measure=>omega
            case rel=>exact ⟨i + 1,bs,ms,o,L,acc ++ [x],some ⟨g9,0,none⟩,cap9,_,by omega,rfl,by simp,by simp,by simp;omega,by show RsI _ _ _ _ _ _ _ _ _;simpa using unhide HNX,unhide HP2,unhide HF2⟩
    · have e1:decide ((i:Int)<(l.length:Int))=false:=by simp;omega
      have hf:=unhide HF
      rw [List.drop_of_length_le (by omega)] at hf
      have hf:FIN=(⟨xmlB :: bs,ms⟩,acc,true):=hf
      have HF2:=hide hf
      clear hf
      go_wp2
      go_ret2
      rw [unhide HF2]
      exact ⟨_,fp', rfl,(unhide HR).got,fun k hk=>((unhide HR).ap k hk).1,(unhide HR).bel⟩
theorem wGo_cons (bs:List Ev) (e:Ev) (r:List Ev):wGo bs (e :: r)=if e.kind=6 then wGo (bs ++ [e]) r else if e.kind=1 then wStart e bs ++ wGo [] r else wOther e ++ wGo [] r:=rfl
structure SmE (l:List Ev):Prop where
  n:l.length≤1000000
  e:∀ x ∈ l,x.name.length≤1000000∧x.val.length≤100000000∧(x.kind=6→x.val.length≤1000000)∧x.attrs.length≤1000000∧∀ y ∈ x.attrs,y.name.length≤1000000∧y.val.length≤1000000
set_option maxHeartbeats 2000000 in
set_option maxRecDepth 100000 in
theorem wtext_all {w:World} {v:Value} {l:List Ev} {fp:List Nat} (hg:Got w v l fp) (hs:SmE l) (hl:(wAll l).length≤300000000) :
    Calls Tryz.prog 52 #[v] w fun e w' => ∃ a c,e = .returned (.slice a (wAll l).length c)∧w'.ownsRow (w.heap.size + 1) 5 1 (.slice a (wAll l).length c) (wAll l).length ((wAll l).map bv)∧Below w.heap.size w w' := by
  obtain ⟨va,vc,hv⟩:=hg.slice
  subst hv
  have hln:=hs.n
  have hcap:=hg.cap
  have HG:=hide hg
  have HS:=hide hs
  have HL:Hid ((wAll l).length≤300000000):=hl
  have H0:Hid (WTx (w.alloc (.cells #[.slice none 0 0] 124)) w.heap.size [] []∧Below w.heap.size w (w.alloc (.cells #[.slice none 0 0] 124))):=⟨⟨none,0,⟨heap_alloc_new w _,World.ownsRow_nil _ _ _ _⟩,rfl⟩,(Below.refl _ _).alloc (Nat.le_refl _) _⟩
  clear hg hs hl
  go_enter Tryz.func52,Tryz.ntmps52
  go_wp2_with fail
  go_loopg [4,5] l.length (fun g s4 s5 wx=>∃ (i fs:Nat) (T:Bs) (f:List Nat),i≤l.length∧fs≤i∧g=l.length - i∧s4 = .int .i64 (fs:Int)∧s5 = .int .i64 (i:Int)∧Hid (WTx wx w.heap.size T f∧Below w.heap.size w wx)∧Hid ((wAll l=T ++ wGo ((l.take i).drop fs) (l.drop i))∧∀ y ∈ (l.take i).drop fs,y.kind=6))
  case atStart=>exact ⟨0,0,[],[],by omega,by omega,rfl,rfl,rfl,unhide H0,⟨by show wAll l=[] ++ wGo [] l;rfl,fun y hy=>by cases hy⟩⟩
  case round =>
    obtain ⟨i,fs,T,f,hi,hfs,rfl,rfl,rfl,HQ,HE⟩:=hrel
    clear H0
    by_cases h3:i<l.length
    · have e1:decide ((i:Int)<(l.length:Int))=true:=by simp;omega
      have hk1:(i:Int)<(l.length:Int):=by omega
      obtain ⟨g,c,aa,ac,hva,hgl,c0,c1,c2,c3,c4,hats,hev⟩:=(unhide HG).at2 i h3
      injection hva with hva _ hvc
      subst hva hvc
      have hbel:=(unhide HQ).2
      have hcw:∀ j,wr.cell? ⟨g,j,none⟩=w.cell? ⟨g,j,none⟩:=fun j=>by simp only [World.cell?];rw [hbel.block _ hgl]
      have hgl2:g<wr.heap.size:=by have:=hbel.size;omega
      rw [← hcw] at c0 c1 c2 c3 c4
      have he:=(unhide HE).1
      have hk6s:=(unhide HE).2
      rw [List.drop_eq_getElem_cons h3,wGo_cons] at he
      have hsn:(l.take (i + 1)).drop fs=(l.take i).drop fs ++ [l[i]]:=by
        rw [List.take_add_one,List.getElem?_eq_getElem h3]
        rw [List.drop_append_of_le_length (by rw [List.length_take];omega)]
        rfl
      have hmm:=unhide HS |>.e l[i] (List.getElem_mem h3)
      have hbs:∀ y ∈ (l.take i).drop fs,y ∈ l:=fun y hy=>List.mem_of_mem_take (List.mem_of_mem_drop hy)
      by_cases hk6:l[i].kind=6
      · have t6:(l[i].kind == 6)=true:=by simpa using hk6
        rw [if_pos hk6, ← hsn] at he
        have hks2:∀ y ∈ (l.take (i + 1)).drop fs,y.kind=6:=fun y hy=>by
          rw [hsn] at hy
          rcases List.mem_append.1 hy with q | q
          · exact hk6s y q
          · rw [List.mem_singleton.1 q];exact hk6
        have HE2:=hide (And.intro he hks2)
        clear he hsn HE hcw hbel hats hev hmm hbs hks2 hk6s
        generalize l[i]=x at *
        go_wp2
        go_roundg (l.length - (i + 1))
        case measure=>omega
        case rel=>exact ⟨i + 1,fs,T,f,by omega,by omega,rfl,rfl,by simp,unhide HQ,unhide HE2⟩
      · have t6:(l[i].kind == 6)=false:=by simpa using hk6
        by_cases hk11:l[i].kind=1
        · have t1:(l[i].kind == 1)=true:=by simpa using hk11
          rw [if_neg hk6,if_pos hk11, ← List.append_assoc] at he
          have hblen:((l.take i).drop fs).length=i - fs:=by rw [List.length_drop,List.length_take];omega
          have k1:(fs:Int)≤(i:Int):=by omega
          have k2:(i:Int)≤(vc:Int):=by omega
          have k3:¬ (vc:Int)<(i:Int):=by omega
          have k4:¬ (i:Int)<(fs:Int):=by omega
          have k5:¬ (fs:Int)<0:=by omega
          have k6:¬ vc=fs:=by omega
          have hB:BsAt w (some ⟨g,fs * 5,none⟩) ((l.take i).drop fs):=fun k hk=>by
            rw [hblen] at hk
            obtain ⟨g', c', aa', ac', hva', hgl', _,d1,_,d3,_⟩:=(unhide HG).at2 (fs + k) (by omega)
            injection hva' with hva' _ _
            cases hva'
            have eg:((l.take i).drop fs)[k]'(by rw [hblen];exact hk)=l[fs + k]'(by omega):=by simp
            refine ⟨g,fs * 5,rfl,hgl,?_,?_⟩
            · rw [eg, ← d1,show fs * 5 + k * 5 + 1=(fs + k) * 5 + 1 by omega]
            · rw [eg, ← d3,show fs * 5 + k * 5 + 3=(fs + k) * 5 + 3 by omega]
          have hwd:WTx wr.drew w.heap.size T f:=wtx_keep (unhide HQ).1 ⟨rfl,rfl,rfl,Nat.le_refl _,fun _ _=>rfl⟩
          have hbd:Below w.heap.size w wr.drew:=(unhide HQ).2.trans ⟨rfl,rfl,rfl,Nat.le_refl _,fun _ _=>rfl⟩
          have hTl:T.length + (wStart l[i] ((l.take i).drop fs)).length≤300000000:=by
            have:=unhide HL
            rw [he] at this
            simp only [List.length_append] at this
            omega
          have HSB:=hide (And.intro hats (And.intro hmm.1 (And.intro hmm.2.2.2.2 hmm.2.2.2.1)))
          have hk6b:∀ y ∈ (l.take i).drop fs,y.name.length≤1000000∧y.val.length≤1000000:=fun y hy=>by
            have q:=(unhide HS).e y (hbs y hy)
            exact ⟨q.1,q.2.2.1 (hk6s y hy)⟩
          have HW:=hide (wstart_any hwd hbd ⟨1,l[i].name,l[i].space,l[i].val,l[i].attrs⟩ aa (some ⟨g,fs * 5,none⟩) ac (vc - fs) ((l.take i).drop fs) hats hB hmm.1 hmm.2.2.2.2 hk6b hmm.2.2.2.1 (by rw [hblen];omega) (by show T.length + (wStart l[i] ((l.take i).drop fs)).length≤900000000;omega))
          rw [hblen] at HW
          have e9:(l.take (i + 1)).drop (i + 1)=[]:=List.drop_eq_nil_of_le (by rw [List.length_take];omega)
          have HE2:Hid ((wAll l=(T ++ wStart l[i] ((l.take i).drop fs)) ++ wGo ((l.take (i + 1)).drop (i + 1)) (l.drop (i + 1)))∧∀ y ∈ (l.take (i + 1)).drop (i + 1),y.kind=6):=by
            refine ⟨?_,?_⟩
            · rw [e9];exact he
            · rw [e9];intro y hy;cases hy
          have ew:wStart ⟨1,l[i].name,l[i].space,l[i].val,l[i].attrs⟩ ((l.take i).drop fs)=wStart l[i] ((l.take i).drop fs):=rfl
          rw [ew] at HW
          clear e9 hk6s ew he hsn HE hcw hbel hats hev hmm hbs hB hwd hbd hTl HSB hk6b hblen
          generalize wStart l[i] ((l.take i).drop fs)=X at *
          generalize l[i]=x at *
          go_wp2_with fail
          go_region_with (go_at_call 69;refine (unhide HW).mono ?_;rintro e w3 ⟨rfl,f4,h3', b3⟩;have b3' : Below w.heap.size w w3:=(unhide HQ).2.trans ⟨b3.os,b3.tape,b3.output,b3.size,(fun k hk=>b3.block k (by have:=(unhide HQ).2.size;show k<wr.heap.size;omega) (by omega) (fun hm=>by have:=((wtx_lt (unhide HQ).1).2 k hm).1;omega))⟩;have HN:=hide (And.intro h3' b3');clear h3' b3 b3' HW HQ c0 c1 c2 c3 c4)
          all_goals
            go_wp2
            go_roundg (l.length - (i + 1))
            case measure=>omega
            case rel=>exact ⟨i + 1,i + 1,T ++ X,f4,by omega,by omega,rfl,by simp,by simp,unhide HN,unhide HE2⟩
        · have t1:(l[i].kind == 1)=false:=by simpa using hk11
          rw [if_neg hk6,if_neg hk11, ← List.append_assoc] at he
          have hwd:WTx wr.drew w.heap.size T f:=wtx_keep (unhide HQ).1 ⟨rfl,rfl,rfl,Nat.le_refl _,fun _ _=>rfl⟩
          have hTl:T.length≤300000000:=by
            have:=unhide HL
            rw [he] at this
            simp only [List.length_append] at this
            omega
          have HW:=hide (wother_any hwd l[i] (.slice aa l[i].attrs.length ac) (by have:=hmm.1;have:=hmm.2.1;omega))
          have HW0:=hide (wother_any (unhide HQ).1 l[i] (.slice aa l[i].attrs.length ac) (by have:=hmm.1;have:=hmm.2.1;omega))
          have e9:(l.take (i + 1)).drop (i + 1)=[]:=List.drop_eq_nil_of_le (by rw [List.length_take];omega)
          have HE2:Hid ((wAll l=(T ++ wOther l[i]) ++ wGo ((l.take (i + 1)).drop (i + 1)) (l.drop (i + 1)))∧∀ y ∈ (l.take (i + 1)).drop (i + 1),y.kind=6):=by
            refine ⟨?_,?_⟩
            · rw [e9];exact he
            · rw [e9];intro y hy;cases hy
          clear e9 hk6s he hsn HE hcw hbel hats hev hmm hbs hwd hTl HW
          generalize wOther l[i]=X at *
          generalize l[i]=x at *
          go_wp2_with fail
          refine (unhide HW0).mono ?_
          rintro e w3 ⟨rfl,f4,h3', b3⟩
          have b3' : Below w.heap.size w w3:=(unhide HQ).2.trans ⟨b3.os,b3.tape,b3.output,b3.size,(fun k hk=>b3.block k (by have:=(unhide HQ).2.size;omega) (by omega) (fun hm=>by have:=((wtx_lt (unhide HQ).1).2 k hm).1;omega))⟩
          have HN:=hide (And.intro h3' b3')
          clear h3' b3 b3' HW0 HQ c0 c1 c2 c3 c4
          go_wp2
          go_roundg (l.length - (i + 1))
          case measure=>omega
          case rel=>exact ⟨i + 1,i + 1,T ++ X,f4,by omega,by omega,rfl,by simp,by simp,unhide HN,unhide HE2⟩
    · have e1:decide ((i:Int)<(l.length:Int))=false:=by simp;omega
      have hil:i=l.length:=by omega
      have he:wAll l=T:=by
        have he0:=(unhide HE).1
        rw [hil,List.drop_length] at he0
        rw [he0];show T ++ []=T;simp
      have HQ2:=unhide HQ
      rw [← he] at HQ2
      obtain ⟨⟨a,c,hWT,hf⟩,hbl⟩:=HQ2
      have hcell:=hWT.cell
      have hltb:=hWT.lt
      have HF:=hide (And.intro hWT.row hbl)
      clear he hil HE HQ hWT hbl
      go_wp2
      go_ret
      exact ⟨a,c,rfl,unhide HF⟩
set_option maxHeartbeats 1000000 in
theorem msameAttrs_eq {w:World} {v1 v2:Value} {l:List Att} (h1:w.ownsRow 0 112 3 v1 l.length (atsRow l)) (h2:w.ownsRow 0 112 3 v2 l.length (atsRow l)) :
    Calls Tryz.prog 108 #[v1,v2] w fun e w' => e = .returned (.bool true)∧∃ n,w' = w.drewN n:=by
  have hl:=own_len h1
  have HE1:=hide (fun k hk=>elem_cells atCells (fun _=>rfl) (by decide) h1 rfl k hk)
  have HE2:=hide (fun k hk=>elem_cells atCells (fun _=>rfl) (by decide) h2 rfl k hk)
  obtain ⟨a1,c1,rfl⟩:=slice_form h1
  obtain ⟨a2,c2,rfl⟩:=slice_form h2
  clear h1 h2
  have e0:((l.length:Int) != (l.length:Int))=false:=by simp
  go_enter Tryz.func108,Tryz.ntmps108
  go_wp2
  go_loopw [5] (fun i w' => ∃ k:Nat,k≤l.length∧i = .int .i64 k∧∃ n,w' = w.drewN n) (fun i _=>l.length - (intOf i).toNat)
  case atStart=>exact ⟨0,by omega,rfl,0,rfl⟩
  case round =>
    obtain ⟨k,hk,rfl,n,rfl⟩:=hrel
    by_cases hlt:k<l.length
    · obtain ⟨g1,d1,f1,_,q1⟩:=(unhide HE1) k hlt
      obtain ⟨g2,d2,f2,_,q2⟩:=(unhide HE2) k hlt
      injection f1 with f1 _ f1c
      injection f2 with f2 _ f2c
      subst f1
      subst f2
      subst f1c
      subst f2c
      have p10:=q1 0 (by decide)
      have p11:=q1 1 (by decide)
      have p12:=q1 2 (by decide)
      have p20:=q2 0 (by decide)
      have p21:=q2 1 (by decide)
      have p22:=q2 2 (by decide)
      simp [atCells] at p10 p11 p12 p20 p21 p22
      clear q1 q2 HE1 HE2
      generalize l[k]=x at *
      go_wp2
      go_quiet (fail)
      go_wp2
      go_roundw
      case rel=>exact ⟨k + 1,by omega,by go_num,_,rfl⟩
      case measure=>simp [intOf];omega
    · have e1:decide ((k:Int)<(l.length:Int))=false:=by simp;omega
      clear HE1 HE2
      go_wp2
      go_ret
      exact ⟨rfl,n,rfl⟩
set_option maxRecDepth 100000 in
theorem msameEvent_eq {w:World} {a1 a2:Option Addr} {c1 c2:Nat} (x:Ev) (h1:w.ownsRow 0 112 3 (.slice a1 x.attrs.length c1) x.attrs.length (atsRow x.attrs)) (h2:w.ownsRow 0 112 3 (.slice a2 x.attrs.length c2) x.attrs.length (atsRow x.attrs)) :
    Calls Tryz.prog 86 #[.agg #[.int .i64 x.kind,.string ⟨x.name.toArray⟩,.string ⟨x.space.toArray⟩,.string ⟨x.val.toArray⟩,.slice a1 x.attrs.length c1],.agg #[.int .i64 x.kind,.string ⟨x.name.toArray⟩,.string ⟨x.space.toArray⟩,.string ⟨x.val.toArray⟩,.slice a2 x.attrs.length c2]] w fun e w' => e = .returned (.bool true)∧Below w.heap.size w w' := by
  obtain ⟨k,n,s,v,ats⟩:=x
  dsimp only at h1 h2 ⊢
  have HA:=hide (fun (W:World) (hb:Below w.heap.size w W)=>msameAttrs_eq (owned_keep (r:=⟨112,3,_,_,_⟩) h1 fun q hq=>hb.block q (World.ownsRow.lt h1 q hq).2) (owned_keep (r:=⟨112,3,_,_,_⟩) h2 fun q hq=>hb.block q (World.ownsRow.lt h2 q hq).2))
  clear h1 h2
  have e1:(k == k)=true:=by simp
  have e2:(n == n)=true:=by simp
  have e3:(s == s)=true:=by simp
  have e4:(v == v)=true:=by simp
  have hb2:Below w.heap.size w ((w.alloc (.cells #[.int .i64 k,.string ⟨n.toArray⟩,.string ⟨s.toArray⟩,.string ⟨v.toArray⟩,.slice a1 ats.length c1] 53)).alloc (.cells #[.int .i64 k,.string ⟨n.toArray⟩,.string ⟨s.toArray⟩,.string ⟨v.toArray⟩,.slice a2 ats.length c2] 53)):=((Below.refl _ _).alloc (Nat.le_refl _) _).alloc (by simp) _
  have HB:=hide hb2
  clear hb2
  go_enter Tryz.func86,Tryz.ntmps86
  go_wp2_with fail
  refine (unhide HA _ (unhide HB)).mono ?_
  rintro e w1 ⟨rfl,m,rfl⟩
  go_wp2
  go_ret
  exact ⟨rfl,(unhide HB).trans ⟨rfl,rfl,rfl,Nat.le_of_eq (by rw [heap_drewN]),fun _ _=>by rw [heap_drewN]⟩⟩
set_option maxHeartbeats 1000000 in
set_option maxRecDepth 100000 in
theorem msameEvents_eq {w:World} {v1 v2:Value} {l:List Ev} {fp1 fp2:List Nat} (h1:Got w v1 l fp1) (h2:Got w v2 l fp2) :
    Calls Tryz.prog 71 #[v1,v2] w fun e w' => e = .returned (.bool true)∧Below w.heap.size w w' := by
  have hl:l.length≤9223372036854775807:=by
    obtain ⟨es1,hl1,ho1,_⟩:=h1.ex
    exact own_len ho1
  obtain ⟨a1,c1,hv1⟩:=h1.slice
  obtain ⟨a2,c2,hv2⟩:=h2.slice
  subst hv1 hv2
  have HG1:=hide h1
  have HG2:=hide h2
  clear h1 h2
  have e0:((l.length:Int) != (l.length:Int))=false:=by simp
  go_enter Tryz.func71,Tryz.ntmps71
  go_wp2_with fail
  go_loopg [5] l.length (fun g s5 wx=>∃ k:Nat,k≤l.length∧g=l.length - k∧s5 = .int .i64 (k:Int)∧Hid (Below w.heap.size w wx))
  case atStart=>exact ⟨0,by omega,rfl,rfl,Below.refl _ _⟩
  case round =>
    obtain ⟨k,hk,rfl,rfl,HB⟩:=hrel
    by_cases h3:k<l.length
    · have e1:decide ((k:Int)<(l.length:Int))=true:=by simp;omega
      have hk1:(k:Int)<(l.length:Int):=by omega
      obtain ⟨g,c,aa,ac,hva,hgl,p0,p1,p2,p3,p4,_,o1⟩:=(unhide HG1).at2 k h3
      obtain ⟨g', c', aa', ac', hva', hgl', q0,q1,q2,q3,q4,_,o2⟩:=(unhide HG2).at2 k h3
      injection hva with hva _ hvc
      injection hva' with hva' _ hvc'
      subst hva hva' hvc hvc'
      have hbel:=unhide HB
      have hcw:∀ j,wr.cell? ⟨g,j,none⟩=w.cell? ⟨g,j,none⟩:=fun j=>by simp only [World.cell?];rw [hbel.block _ hgl]
      have hcw' : ∀ j,wr.cell? ⟨g', j,none⟩=w.cell? ⟨g', j,none⟩:=fun j=>by simp only [World.cell?];rw [hbel.block _ hgl']
      have hgl2:g<wr.heap.size:=by have:=hbel.size;omega
      have hgl2' : g' < wr.heap.size:=by have:=hbel.size;omega
      rw [← hcw] at p0 p1 p2 p3 p4
      rw [← hcw'] at q0 q1 q2 q3 q4
      have o1' : wr.ownsRow 0 112 3 (.slice aa l[k].attrs.length ac) l[k].attrs.length (atsRow l[k].attrs):=owned_keep (r:=⟨112,3,_,_,_⟩) o1 fun q hq=>hbel.block q (World.ownsRow.lt o1 q hq).2
      have o2' : wr.ownsRow 0 112 3 (.slice aa' l[k].attrs.length ac') l[k].attrs.length (atsRow l[k].attrs):=owned_keep (r:=⟨112,3,_,_,_⟩) o2 fun q hq=>hbel.block q (World.ownsRow.lt o2 q hq).2
      have d1:wr.drew.ownsRow 0 112 3 (.slice aa l[k].attrs.length ac) l[k].attrs.length (atsRow l[k].attrs):=owned_drewN o1' 1
      have d2:wr.drew.ownsRow 0 112 3 (.slice aa' l[k].attrs.length ac') l[k].attrs.length (atsRow l[k].attrs):=owned_drewN o2' 1
      have HC:=hide (msameEvent_eq l[k] d1 d2)
      have HC0:=hide (msameEvent_eq l[k] o1' o2')
      clear hcw hcw' o1 o2 o1' o2' d1 d2 hbel HG1 HG2
      generalize l[k]=x at *
      go_wp2_with fail
      go_region_with (go_at_call 86;refine (unhide HC).mono ?_;rintro e w2 ⟨rfl,hb2⟩;have HN:=hide ((unhide HB).trans (Below.mono (show Below wr.heap.size wr w2 from ⟨hb2.os,hb2.tape,hb2.output,hb2.size,hb2.block⟩) (unhide HB).size));clear hb2 HC HC0 HB p0 p1 p2 p3 p4 q0 q1 q2 q3 q4)
      all_goals
        go_wp2
        go_roundg (l.length - (k + 1))
        case measure=>omega
        case rel=>exact ⟨k + 1,by omega,rfl,by simp,unhide HN⟩
    · have e1:decide ((k:Int)<(l.length:Int))=false:=by simp;omega
      clear HG1 HG2
      go_wp2
      go_ret
      exact ⟨rfl,unhide HB⟩
theorem endText_wT (s:St):(Mk.endText s).list=wT s:=by
  unfold Mk.endText wT
  split
  · rfl
  · rfl
theorem feed_parts {s:St} (h0:s.ended=0) (D:Bs):(Mk.feed s D).2.1=wT (Mk.feedAll s D)∧(Mk.feed s D).2.2=(Mk.feedAll s D).ended∧(Mk.close (Mk.feed s D).1).2=(Mk.close (Mk.feedAll s D)).2:=by
  unfold Mk.feed
  rw [if_pos h0]
  refine ⟨endText_wT _,rfl,?_⟩
  have e:(Mk.take (Mk.feedAll s D)).ended=(Mk.feedAll s D).ended∧Mk.isDocument (Mk.take (Mk.feedAll s D))=Mk.isDocument (Mk.feedAll s D):=by
    unfold Mk.take Mk.endText Mk.isDocument
    split <;> exact ⟨rfl,rfl⟩
  have key:∀ x y:St,x.ended=y.ended→Mk.isDocument x=Mk.isDocument y→(Mk.close x).2=(Mk.close y).2:=by
    intro x y h1 h2
    unfold Mk.close
    rw [h1,h2]
    split
    · split <;> rfl
    · rfl
  exact key _ _ e.1 e.2
structure Och (w w' : World) (b:Nat) (f:List Nat):Prop where
  os:w'.os=w.os
  tape:w'.tape=w.tape
  output:w'.output=w.output
  size:w.heap.size≤w'.heap.size
  block:∀ k,k<w.heap.size→k ≠ b→k ∉ f→w'.heap[k]? = w.heap[k]?
theorem Fr.och {w w' : World} {b:Nat} {f f' : List Nat} (h:Fr w w' b f f'):Och w w' b f:=⟨h.os,h.tape,h.output,h.size,h.block⟩
theorem Och.below {w w1 w2:World} {b:Nat} {f:List Nat} (h:Och w w1 b f) (hb:Below w1.heap.size w1 w2):Och w w2 b f:=
  ⟨hb.os.trans h.os,hb.tape.trans h.tape,hb.output.trans h.output,Nat.le_trans h.size hb.size,fun k h1 h2 h3=>(hb.block k (Nat.lt_of_lt_of_le h1 h.size)).trans (h.block k h1 h2 h3)⟩
section
variable {w:World} {b:Nat} {d a t:Int} {nm:Bool} {D:Bs} {l:List Ev} {v:Value} {fp:List Nat} {g c:Nat}
set_option maxHeartbeats 1000000 in
set_option maxRecDepth 100000 in
theorem gives_yes (h:RdL w b (Mk.make_ d a t nm) (L0 b)) (a2:a≤32) (hD:D.length≤1120000) (hG:Gl w) (hb2:6 + 1<b) (hg:g<w.heap.size) (hgb:g ≠ b) (hgf:g ∉ foot (Mk.make_ d a t nm) (L0 b))
    (hp:∀ j (hj:j<D.length),w.cell? ⟨g,j,none⟩=some (.int .u8 (D[j].toNat:Int))) (hl:Got w v l fp) (hfp:∀ k ∈ fp,k<w.heap.size∧k ≠ b∧k ∉ foot (Mk.make_ d a t nm) (L0 b))
    (h0:(Mk.feedAll (Mk.make_ d a t nm) D).ended=0) (h1:(Mk.close (Mk.feedAll (Mk.make_ d a t nm) D)).2=0) (h2:wT (Mk.feedAll (Mk.make_ d a t nm) D)=l) :
    Calls Tryz.prog 53 #[.pointer (some ⟨b,0,none⟩),.slice (some ⟨g,0,none⟩) D.length c,v] w fun e w' => e = .returned (.bool true)∧Och w w' b (foot (Mk.make_ d a t nm) (L0 b)):=by
  have HF:=hide (Feed_any h (inv_make d a t nm a2) D (by omega) hG hb2 (Int.le_refl 0) (by show (0:Int)≤1000000000;decide) g c hg hgb hgf hp)
  obtain ⟨q1,q2,q3⟩:=feed_parts (s:=Mk.make_ d a t nm) rfl D
  rw [h2] at q1
  rw [h0] at q2
  rw [h1] at q3
  rw [q1,q2] at HF
  have HGL:=hide hl
  have HFP:=hide hfp
  clear hl hfp h hp hG q1 q2 h0 h1 h2
  generalize foot (Mk.make_ d a t nm) (L0 b)=F at *
  generalize (Mk.feed (Mk.make_ d a t nm) D).1=s1 at *
  have e0:((0:Int) != 0)=false:=rfl
  have e1:((0:Int) == 0)=true:=rfl
  go_enter Tryz.func53,Tryz.ntmps53
  go_wp2_with fail
  refine (unhide HF).mono ?_
  rintro e w1 ⟨v1,fp1,L1,rfl,hg1,⟨sa,sn,sc,hv1⟩,hm1,hf1⟩
  have HC:=hide (close_any hm1.rd)
  rw [show Mk.close s1=((Mk.close s1).1,0) from by rw [← q3]] at HC
  subst hv1
  have hl1:Got w1 v l fp:=(unhide HGL).keep fun k hk=>by
    have:=unhide HFP k hk
    exact hm1.fr.block k this.1 this.2.1 this.2.2
  have HM1:=hide hm1
  have HL1:=hide (And.intro hl1 (And.intro hg1 hf1))
  clear hm1 hg1 hf1 hl1 HF HGL q3
  go_wp2_with fail
  refine (unhide HC).mono ?_
  rintro e w2 ⟨rfl,L2,hm2⟩
  have hl2:Got w2 v l fp:=(unhide HL1).1.keep fun k hk=>by
    have q:=unhide HFP k hk
    have hs1:=(unhide HM1).fr.size
    refine hm2.fr.block k (by omega) q.2.1 fun hm => ?_
    rcases (unhide HM1).fr.foot k hm with x | x
    · exact q.2.2 x
    · omega
  have hg2:Got w2 (.slice sa sn sc) l fp1:=(unhide HL1).2.1.keep fun k hk=>by
    have q:=(unhide HL1).2.2 k hk
    exact hm2.fr.block k q.2.1 q.1.2 q.2.2.1
  have HS:=hide (msameEvents_eq hg2 hl2)
  have HO:=hide ((unhide HM1).fr.trans hm2.fr)
  clear hm2 hl2 hg2 HC HM1 HL1
  go_wp2_with fail
  refine (unhide HS).mono ?_
  rintro e w3 ⟨rfl,hb3⟩
  have HOC:=hide ((unhide HO).och.below hb3)
  clear hb3 HS HO
  go_wp2
  go_ret
  exact ⟨rfl,unhide HOC⟩
set_option maxHeartbeats 1000000 in
set_option maxRecDepth 100000 in
theorem gives_no (h:RdL w b (Mk.make_ d a t nm) (L0 b)) (a2:a≤32) (hD:D.length≤1120000) (hG:Gl w) (hb2:6 + 1<b) (hg:g<w.heap.size) (hgb:g ≠ b) (hgf:g ∉ foot (Mk.make_ d a t nm) (L0 b))
    (hp:∀ j (hj:j<D.length),w.cell? ⟨g,j,none⟩=some (.int .u8 (D[j].toNat:Int))) (hv:∃ va vn vc,v = .slice va vn vc)
    (h0:¬ ((Mk.feedAll (Mk.make_ d a t nm) D).ended=0∧(Mk.close (Mk.feedAll (Mk.make_ d a t nm) D)).2=0)) :
    Calls Tryz.prog 53 #[.pointer (some ⟨b,0,none⟩),.slice (some ⟨g,0,none⟩) D.length c,v] w fun e w' => e = .returned (.bool false)∧Och w w' b (foot (Mk.make_ d a t nm) (L0 b)):=by
  have HF:=hide (Feed_any h (inv_make d a t nm a2) D (by omega) hG hb2 (Int.le_refl 0) (by show (0:Int)≤1000000000;decide) g c hg hgb hgf hp)
  obtain ⟨q1,q2,q3⟩:=feed_parts (s:=Mk.make_ d a t nm) rfl D
  obtain ⟨va,vn,vc,rfl⟩:=hv
  rw [q2] at HF
  rw [← q3] at h0
  clear h hp hG q1 q2 q3
  generalize foot (Mk.make_ d a t nm) (L0 b)=F at *
  generalize (Mk.feed (Mk.make_ d a t nm) D).1=s1 at *
  generalize (Mk.feed (Mk.make_ d a t nm) D).2.1=l1 at *
  generalize (Mk.feedAll (Mk.make_ d a t nm) D).ended=en at *
  by_cases h5:en=0
  · subst h5
    have h6:¬ (Mk.close s1).2=0:=fun k=>h0 ⟨rfl,k⟩
    have e0:((0:Int) != 0)=false:=rfl
    have e1:((Mk.close s1).2 == 0)=false:=by simpa using h6
    clear h0 h6
    go_enter Tryz.func53,Tryz.ntmps53
    go_wp2_with fail
    refine (unhide HF).mono ?_
    rintro e w1 ⟨v1,fp1,L1,rfl,hg1,⟨sa,sn,sc,hv1⟩,hm1,hf1⟩
    have HC:=hide (close_any hm1.rd)
    subst hv1
    have HM1:=hide hm1
    clear hm1 hg1 hf1 HF
    go_wp2_with fail
    refine (unhide HC).mono ?_
    rintro e w2 ⟨rfl,L2,hm2⟩
    have HO:=hide ((unhide HM1).fr.trans hm2.fr)
    clear hm2 HC HM1
    go_wp2
    go_ret
    exact ⟨rfl,(unhide HO).och⟩
  · have e0:(en != 0)=true:=by simpa using h5
    clear h0
    go_enter Tryz.func53,Tryz.ntmps53
    go_wp2_with fail
    refine (unhide HF).mono ?_
    rintro e w1 ⟨v1,fp1,L1,rfl,hg1,⟨sa,sn,sc,hv1⟩,hm1,hf1⟩
    subst hv1
    have HM1:=hide hm1
    clear hm1 hg1 hf1 HF h5
    go_wp2
    go_ret
    exact ⟨rfl,(unhide HM1).fr.och⟩
end
theorem bytes_at {w:World} {base:Nat} {D:Bs} {a:Option Addr} {c:Nat} (h:w.ownsRow base 5 1 (.slice a D.length c) D.length (D.map bv)) (h0:0<D.length):∃ g,a=some ⟨g,0,none⟩∧base≤g∧g<w.heap.size∧∀ j (hj:j<D.length),w.cell? ⟨g,j,none⟩=some (.int .u8 (D[j].toNat:Int)):=by
  obtain ⟨g,c', hv,hb,hlt⟩:=World.ownsRow.form h (by omega)
  injection hv with hv _ hc
  subst hv hc
  refine ⟨g,rfl,?_,hlt,fun j hj => ?_⟩
  · exact (World.ownsRow.lt h g rfl).1
  · rw [row_cell h j (by omega)]
    simp [bv,hj]
section
variable {w:World} {d a t:Int} {nm:Bool} {l:List Ev} {v:Value} {fp:List Nat}
theorem write_pre {w1 w2:World} {b:Nat} {a1:Option Addr} {c1:Nat} (hg:Got w v l fp) (hfp:∀ k ∈ fp,k<w.heap.size) (hG:Gl w) (hn:6<w.heap.size) (hb:w.heap.size<b) (hbl:Below w.heap.size w w1) (hr:RdL w1 b (Mk.make_ d a t nm) (L0 b))
    (hrow:w2.ownsRow (w1.heap.size + 1) 5 1 (.slice a1 (wAll l).length c1) (wAll l).length ((wAll l).map bv)) (hb2:Below w1.heap.size w1 w2) (hpos:0<(wAll l).length) :
    ∃ g,a1=some ⟨g,0,none⟩∧w1.heap.size + 1≤g∧RdL w2 b (Mk.make_ d a t nm) (L0 b)∧Gl w2∧6 + 1<b∧g<w2.heap.size∧g ≠ b∧g ∉ foot (Mk.make_ d a t nm) (L0 b)∧(∀ j (hj:j<(wAll l).length),w2.cell? ⟨g,j,none⟩=some (.int .u8 ((wAll l)[j].toNat:Int)))∧Got w2 v l fp∧(∀ k ∈ fp,k<w2.heap.size∧k ≠ b∧k ∉ foot (Mk.make_ d a t nm) (L0 b))
      ∧ ∀ w3,Och w2 w3 b (foot (Mk.make_ d a t nm) (L0 b))→Below w.heap.size w w3∧w3.ownsRow w.heap.size 5 1 (.slice a1 (wAll l).length c1) (wAll l).length ((wAll l).map bv):=by
  obtain ⟨g,rfl,hg1,hg2,hcs⟩:=bytes_at hrow hpos
  have hlt:=hr.lt
  have hfl:=hr.foot_lt
  have s1:=hbl.size
  have s2:=hb2.size
  have hG1:=hG.below hn hbl
  have hG2:=hG1.below (by omega) hb2
  rw [foot_L0] at hfl ⊢
  have hgot:∀ w', (∀ k,k<w.heap.size→w'.heap[k]? = w.heap[k]?)→Got w' v l fp:=fun w' h=>hg.keep fun k hk=>h k (hfp k hk)
  refine ⟨g,rfl,hg1,hr.keep fun k hk=>hb2.block k (by rcases hk with rfl | hk;exact hlt;exact (hr.foot_lt k hk).2),hG2,by omega,hg2,by omega,by simp;omega,hcs,hgot _ fun k hk=>(hb2.block k (by omega)).trans (hbl.block k hk),fun k hk=>⟨by have:=hfp k hk;omega,by have:=hfp k hk;omega,by have:=hfp k hk;simp;omega⟩,fun w3 ho=>⟨⟨ho.os.trans (hb2.os.trans hbl.os),ho.tape.trans (hb2.tape.trans hbl.tape),ho.output.trans (hb2.output.trans hbl.output),by have:=ho.size;omega,fun k hk => ?_⟩,?_⟩⟩
  · rw [ho.block k (by omega) (by omega) (by simp;omega),hb2.block k (by omega)]
    exact hbl.block k hk
  · refine ownsRow_base (owned_keep (r:=⟨5,1,_,_,_⟩) hrow fun k hk => ?_) (by omega)
    have q:=World.ownsRow.lt hrow k hk
    exact ho.block k q.2 (by omega) (by simp;omega)
set_option maxHeartbeats 1000000 in
set_option maxRecDepth 100000 in
theorem write_yes (hg:Got w v l fp) (hfp:∀ k ∈ fp,k<w.heap.size) (d1:1≤d) (d2:d≤64) (a1:0≤a) (a2:a≤32) (t1:8≤t) (t2:t≤1024) (hs:SmE l) (hD:(wAll l).length≤1120000) (hpos:0<(wAll l).length) (hG:Gl w) (hn:6<w.heap.size)
    (h0:(Mk.feedAll (Mk.make_ d a t nm) (wAll l)).ended=0) (h1:(Mk.close (Mk.feedAll (Mk.make_ d a t nm) (wAll l))).2=0) (h2:wT (Mk.feedAll (Mk.make_ d a t nm) (wAll l))=l) :
    Calls Tryz.prog 26 #[.agg #[.int .i64 d,.int .i64 a,.int .i64 t,.bool nm],v] w fun e w' => ∃ xa xc,e = .returned (.tuple #[.slice xa (wAll l).length xc,.int .i64 0])∧w'.ownsRow w.heap.size 5 1 (.slice xa (wAll l).length xc) (wAll l).length ((wAll l).map bv)∧Below w.heap.size w w' := by
  have HN:=hide (fun W=>new_any d a t nm d1 d2 a1 a2 t1 t2 W)
  have HP:=hide (And.intro hg (And.intro hfp (And.intro hG (And.intro hs (And.intro h0 (And.intro h1 h2))))))
  obtain ⟨va,vc,rfl⟩:=hg.slice
  have e0:((0:Int) != 0)=false:=rfl
  clear hg hfp hG hs h0 h1 h2
  go_enter Tryz.func26,Tryz.ntmps26
  go_wp2_with fail
  refine (unhide HN _).mono ?_
  rintro e w1 ⟨b,rfl,hb0,hbl0,hr⟩
  have hb:w.heap.size<b:=by simp at hb0;omega
  have hbl:Below w.heap.size w w1:=Below.trans ((Below.refl _ _).alloc (Nat.le_refl _) _) (hbl0.mono (by simp))
  clear hb0 hbl0
  have hg1:Got w1 (.slice va l.length vc) l fp:=(unhide HP).1.keep fun k hk=>hbl.block k ((unhide HP).2.1 k hk)
  have HT:=hide (wtext_all hg1 (unhide HP).2.2.2.1 (by omega))
  have HR:=hide (And.intro hbl hr)
  clear hg1 hbl hr HN
  go_wp2_with fail
  refine (unhide HT).mono ?_
  rintro e w2 ⟨xa,xc,rfl,hrow,hb2⟩
  obtain ⟨g,rfl,p1,p2,p3,p4,p5,p6,p7,p8,p9,p10,p11⟩:=write_pre (unhide HP).1 (unhide HP).2.1 (unhide HP).2.2.1 hn hb (unhide HR).1 (unhide HR).2 hrow hb2 hpos
  have HGV:=hide (gives_yes (c:=xc) p2 a2 hD p3 p4 p5 p6 p7 p8 p9 p10 (unhide HP).2.2.2.2.1 (unhide HP).2.2.2.2.2.1 (unhide HP).2.2.2.2.2.2)
  have HFIN:=hide p11
  clear hrow hb2 p1 p2 p3 p4 p5 p6 p7 p8 p9 p10 p11 HT HR HP
  go_wp2_with fail
  refine (unhide HGV).mono ?_
  rintro e w3 ⟨rfl,ho⟩
  have HF:=hide (unhide HFIN w3 ho)
  clear ho HGV HFIN
  go_wp2
  go_ret2
  exact ⟨some ⟨g,0,none⟩,xc,rfl,(unhide HF).2,(unhide HF).1⟩
set_option maxHeartbeats 1000000 in
set_option maxRecDepth 100000 in
theorem write_no (hg:Got w v l fp) (hfp:∀ k ∈ fp,k<w.heap.size) (d1:1≤d) (d2:d≤64) (a1:0≤a) (a2:a≤32) (t1:8≤t) (t2:t≤1024) (hs:SmE l) (hD:(wAll l).length≤1120000) (hpos:0<(wAll l).length) (hG:Gl w) (hn:6<w.heap.size)
    (h0:¬ ((Mk.feedAll (Mk.make_ d a t nm) (wAll l)).ended=0∧(Mk.close (Mk.feedAll (Mk.make_ d a t nm) (wAll l))).2=0)) :
    Calls Tryz.prog 26 #[.agg #[.int .i64 d,.int .i64 a,.int .i64 t,.bool nm],v] w fun e w' => e = .returned (.tuple #[.slice none 0 0,.int .i64 11])∧Below w.heap.size w w' := by
  have HN:=hide (fun W=>new_any d a t nm d1 d2 a1 a2 t1 t2 W)
  have HP:=hide (And.intro hg (And.intro hfp (And.intro hG (And.intro hs h0))))
  obtain ⟨va,vc,rfl⟩:=hg.slice
  have e0:((0:Int) != 0)=false:=rfl
  clear hg hfp hG hs h0
  go_enter Tryz.func26,Tryz.ntmps26
  go_wp2_with fail
  refine (unhide HN _).mono ?_
  rintro e w1 ⟨b,rfl,hb0,hbl0,hr⟩
  have hb:w.heap.size<b:=by simp at hb0;omega
  have hbl:Below w.heap.size w w1:=Below.trans ((Below.refl _ _).alloc (Nat.le_refl _) _) (hbl0.mono (by simp))
  clear hb0 hbl0
  have hg1:Got w1 (.slice va l.length vc) l fp:=(unhide HP).1.keep fun k hk=>hbl.block k ((unhide HP).2.1 k hk)
  have HT:=hide (wtext_all hg1 (unhide HP).2.2.2.1 (by omega))
  have HR:=hide (And.intro hbl hr)
  clear hg1 hbl hr HN
  go_wp2_with fail
  refine (unhide HT).mono ?_
  rintro e w2 ⟨xa,xc,rfl,hrow,hb2⟩
  obtain ⟨g,rfl,p1,p2,p3,p4,p5,p6,p7,p8,p9,p10,p11⟩:=write_pre (unhide HP).1 (unhide HP).2.1 (unhide HP).2.2.1 hn hb (unhide HR).1 (unhide HR).2 hrow hb2 hpos
  have HGV:=hide (gives_no (c:=xc) p2 a2 hD p3 p4 p5 p6 p7 p8 ⟨_,_,_,rfl⟩ (v:=.slice va l.length vc) (unhide HP).2.2.2.2)
  have HFIN:=hide p11
  clear hrow hb2 p1 p2 p3 p4 p5 p6 p7 p8 p9 p10 p11 HT HR HP
  go_wp2_with fail
  refine (unhide HGV).mono ?_
  rintro e w3 ⟨rfl,ho⟩
  have HF:=hide (unhide HFIN w3 ho)
  clear ho HGV HFIN
  go_wp2
  go_ret2
  exact ⟨rfl,(unhide HF).1⟩
end
end Go.Proofs.YtmgfijllcdadgabGreatDoor
