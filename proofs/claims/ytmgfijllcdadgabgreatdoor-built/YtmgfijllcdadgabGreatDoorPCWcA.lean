/- WcA, WcB, WcC, NstA, NstB, NstC, WcD -/
import Derived.Test.YtmgfijllcdadgabGreatDoorPCWr5
import Derived.Test.YtmgfijllcdadgabGreatDoorPM28
import Derived.Lib.AppendStr
import Derived.Test.YtmgfijllcdadgabGreatDoorPCWrong
import Derived.Test.YtmgfijllcdadgabGreatDoorPM03
import Derived.Test.YtmgfijllcdadgabGreatDoorPM26
import Derived.Test.YtmgfijllcdadgabGreatDoorPM25
import Derived.Test.YtmgfijllcdadgabGreatDoorPM11
set_option linter.unusedVariables false
set_option linter.unusedSimpArgs false
namespace Go.Proofs.YtmgfijllcdadgabGreatDoor
open Go.RowKit
open Mk (St Bs Ev Att)
theorem strC (l:Bs):Lib.strCells ⟨l.toArray⟩=l.map bv:=by unfold Lib.strCells bv;simp
theorem str_at {P:Program} {w w' : World} {base:Nat} {t u ty e:TypeId} {i:TypeInfo} (ht:P.underlying t=some (.slice e)) (hu:P.underlying u=some .string) (hi:P.info? e=some i) (hz:i.zero=some (.int .u8 0)) (hsize:i.size=1) (hby:i.bytes=1)
    {v v' : Value} {n:Nat} {xs:List Value} (hown:w.ownsRow base e 1 v n xs) (s:ByteArray) (h63:n + s.size≤maxLen) (hbytes:n + s.size≤140737488355328)
    (hr:(Builtin.append_ #[t,u] ty #[v,.string s]).run P w = .ok v' w') (hnil:v' = .slice none 0 0 ↔ v = .slice none 0 0∧s.size=0):v'.ownBlock=v.ownBlock∨v'.ownBlock=some w.heap.size:=by
  have hsmall:n + s.size≤9223372036854775807:=by simp only [maxLen] at h63;omega
  have hxl:xs.length=n:=by simpa using hown.1
  have hrow:=hown
  rcases hown.2 with ⟨rfl,rfl⟩ | ⟨g,cap,cur,rfl,hbg,hg,hnc,hcm,hcs,htake⟩
  · by_cases hm:s.size=0
    · rw [hnil.2 ⟨rfl,hm⟩];exact .inl rfl
    · have h2:=run_append_nil_string (P:=P) w t u ty e i (.int .u8 0) ht hu hi hz s (by omega) (by omega) (by rw [hby];omega)
      rw [hr] at h2
      injection h2 with h3 _
      rw [h3];exact .inr rfl
  · by_cases hroom:n + s.size≤cap
    · have hcs' : cur.size=cap:=by simpa using hcs
      have h2:=Lib.run_append_room_string (P:=P) w t u ty e i ht hu hi hsize g n cap cur hg s hroom (by omega)
      rw [hr] at h2
      injection h2 with h3 _
      rw [h3];exact .inl rfl
    · have holds:∀ j u,xs[j]? = some u→w.cell? ((⟨g,0,none⟩:Addr).add j)=some u:=hrow.cells (g:=g) rfl
      have h2:=Lib.run_append_grow_string (P:=P) w t u ty e i (.int .u8 0) ht hu hi hz ⟨g,0,none⟩ n cap xs (by rw [hsize];simpa using hxl) holds s (by omega) (by omega) (by rw [hby];exact growslice_fits (by omega) (by omega))
      rw [hr] at h2
      injection h2 with h3 _
      rw [h3];exact .inr rfl
theorem wpList_append_str {P:Program} {w:World} {ops:Array Oper} {rest:List Oper} {o:Oper} {a:Act} {Q:Exit→Act→World→Prop} (hgd:o.guard=none) (sl x:Operand) (t u:TypeId)
    (ho:o.op = .call { callee:=.builtin .append,args:=#[sl,x],argTypes:=#[t,u] })
    (base:Nat) (e:TypeId) (i:TypeInfo) (ht:P.underlying t=some (.slice e)) (hu:P.underlying u=some .string) (hi:P.info? e=some i) (hz:i.zero=some (.int .u8 0))
    (hsize:i.size=1) (hby:i.bytes=1)
    (v:Value) (n:Nat) (xs:List Value) (hs:a.eval sl=v) (hown:w.ownsRow base e 1 v n xs) (s:ByteArray) (hx:a.eval x = .string s)
    (h63:n + s.size≤maxLen) (hbytes:n + s.size≤140737488355328) (hbase:base≤w.heap.size)
    (h:∀ v' w', w'.ownsRow base e 1 v' (n + s.size) (xs ++ Lib.strCells s)→w.grownBy w' v.ownBlock→(v'.ownBlock=v.ownBlock∨v'.ownBlock=some w.heap.size)→wpList P ops Q rest (a.put o.dst v') w'):wpList P ops Q (o :: rest) a w:=by
  refine wpList_plain hgd fun K hK => ?_
  obtain ⟨v', w', hr,h2,h3,h4⟩:=Lib.run_append_own_string (P:=P) w base t u o.type e i ht hu hi hz hsize hby v n xs hown s h63 hbytes hbase
  have h5:=str_at ht hu hi hz hsize hby hown s h63 hbytes hr h4
  unfold Oper.wp execOp
  simp only [ho,resolve,invoke,builtin,Sem.run_bind,Sem.run_pure,Result.andThen_ok,List.map_toArray,List.map_cons,List.map_nil,hs,hx,hr]
  exact hK _ _ (h v' w' h2 h3 h5)
structure WT (w:World) (b:Nat) (t:Bs) (a:Option Addr) (c:Nat):Prop where
  blk:w.heap[b]? = some (.cells #[.slice a t.length c] 124 (0,0))
  row:w.ownsRow (b + 1) 5 1 (.slice a t.length c) t.length (t.map bv)
def WTx (w:World) (b:Nat) (t:Bs) (f:List Nat):Prop := ∃ a c,WT w b t a c∧f=(Value.slice a t.length c).ownBlock.toList
section
variable {w w' : World} {b:Nat} {t:Bs} {a:Option Addr} {c:Nat} {f:List Nat}
theorem WT.lt (h:WT w b t a c):b<w.heap.size:=(Array.getElem?_eq_some_iff.1 h.blk).1
theorem WT.cell (h:WT w b t a c):w.cell? ⟨b,0,none⟩=some (.slice a t.length c):=by simp [World.cell?,h.blk]
theorem WT.keep (h:WT w b t a c) (hb:Below w.heap.size w w'):WT w' b t a c:=
  ⟨(hb.block b h.lt).trans h.blk,owned_keep (r:=⟨5,1,_,_,_⟩) h.row fun k hv=>hb.block k (World.ownsRow.lt h.row k hv).2⟩
theorem wtx_lt (h:WTx w b t f):b<w.heap.size∧∀ k ∈ f,b<k∧k<w.heap.size:=by
  obtain ⟨wa,wc,hW,rfl⟩:=h
  refine ⟨hW.lt,fun k hk => ?_⟩
  have h1:(Value.slice wa t.length wc).ownBlock=some k:=by simpa using hk
  have h2:=World.ownsRow.lt hW.row k h1
  omega
theorem wtx_keep (h:WTx w b t f) (hb:Below w.heap.size w w'):WTx w' b t f:=by
  obtain ⟨wa,wc,hW,rfl⟩:=h
  exact ⟨wa,wc,hW.keep hb,rfl⟩
theorem wtx_alloc (h:WTx w b t f) (o:Obj):WTx (w.alloc o) b t f∧Fr w (w.alloc o) b f f:=⟨wtx_keep h ((Below.refl _ _).alloc (Nat.le_refl _) _),Fr.alloc _ _ _ _⟩
theorem WT.grow (h:WT w b t a c) {m:Bs} {v:Value} (ho:w'.ownsRow (b + 1) 5 1 v (t.length + m.length) (t.map bv ++ m.map bv)) (hg:w.grownBy w' (Value.slice a t.length c).ownBlock) (hat:v.ownBlock=(Value.slice a t.length c).ownBlock∨v.ownBlock=some w.heap.size) :
    (∃ f', WTx (w'.setCell ⟨b,0,none⟩ v) b (t ++ m) f' ∧ Fr w (w'.setCell ⟨b,0,none⟩ v) b (Value.slice a t.length c).ownBlock.toList f')∧w'.cell? ⟨b,0,none⟩=some (.slice a t.length c)∧w'.frozen? ⟨b,0,none⟩=false∧b<w'.heap.size:=by
  have hne:some b ≠ (Value.slice a t.length c).ownBlock:=fun e=>by
    have:=(World.ownsRow.lt h.row b e.symm).1
    omega
  have hblk:w'.heap[b]? = some (.cells #[.slice a t.length c] 124 (0,0)):=(hg.block b h.lt hne).trans h.blk
  have hlt:b<w'.heap.size:=(Array.getElem?_eq_some_iff.1 hblk).1
  obtain ⟨a', c', hv⟩:=slice_form ho
  subst hv
  refine ⟨⟨(Value.slice a' (t.length + m.length) c').ownBlock.toList,⟨a', c', ⟨?_,?_⟩,by simp⟩,?_⟩,by simp [World.cell?,hblk],by simp [World.frozen?,hblk],hlt⟩
  · simp [World.setCell,Array.getElem?_modify,hblk]
  · have:(w'.setCell ⟨b,0,none⟩ (.slice a' (t.length + m.length) c')).ownsRow (b + 1) 5 1 (.slice a' (t.length + m.length) c') (t.length + m.length) (t.map bv ++ m.map bv):=owned_keep (r:=⟨5,1,_,_,_⟩) ho fun k hk=>Below.heap_setCell _ _ _ _ (by
      have:=(World.ownsRow.lt ho k hk).1
      show k ≠ b
      omega)
    simpa using this
  · refine ⟨hg.os,hg.tape,hg.output,by simpa using hg.size,fun k hk hkb hkf => ?_,fun k hk => ?_⟩
    · rw [Below.heap_setCell _ _ _ _ (show k ≠ b from hkb)]
      refine hg.block k hk fun e=>hkf ?_
      rw [← e];simp
    · have hk:(Value.slice a' (t.length + m.length) c').ownBlock=some k:=by simpa using hk
      rcases hat with q | q
      · left;rw [← q,hk];simp
      · right;rw [hk] at q;cases q;exact Nat.le_refl _
end
set_option maxRecDepth 100000 in
theorem wput_any {w:World} {b:Nat} {t:Bs} {f:List Nat} (h:WTx w b t f) (s:Bs) (hl:t.length + s.length≤1000000000) :
    Calls Tryz.prog 81 #[.pointer (some ⟨b,0,none⟩),.string ⟨s.toArray⟩] w fun e w' => e = .returned (.tuple #[])∧∃ f', WTx w' b (t ++ s) f' ∧ Fr w w' b f f' := by
  obtain ⟨a,c,h,rfl⟩:=h
  have hc:=h.cell
  have hlt:=h.lt
  obtain ⟨i0,hi,hz0,hz1,hz2⟩:=info_parts infoU8
  have HO:=hide h
  clear h
  go_enter Tryz.func81,Tryz.ntmps81
  go_wp2_with (at_builtin;refine wpList_append_str rfl _ _ _ _ rfl (b + 1) 5 i0 Tryz.underlying54 Tryz.underlying9 hi hz0 hz1 hz2 (.slice a t.length c) t.length (t.map bv) rfl (unhide HO).row ⟨s.toArray⟩ rfl (by show t.length + s.length≤_;unfold maxLen;omega) (by show t.length + s.length≤_;omega) (by omega) ?_;intro v3 w3 ho3 hg3 hat3;rw [strC] at ho3;obtain ⟨a3,c3,rfl⟩:=slice_form ho3;obtain ⟨hw,hc3,hf3,hl3⟩:=(unhide HO).grow (m:=s) ho3 hg3 hat3;have HF:=hide hw;clear hw ho3 hg3 hat3)
  go_end0
  exact ⟨rfl,unhide HF⟩
theorem refT_any (x:UInt8) (w:World):Calls Tryz.prog 106 #[.int .u8 (x.toNat:Int)] w fun e w' => e = .returned (.string ⟨(refT x).toArray⟩)∧w' = w:=by
  have hx:∀ k:UInt8,x=k ↔ (x.toNat:Int)=(k.toNat:Int):=fun k=>⟨fun e=>by rw [e],fun e=>UInt8.toNat_inj.1 (by omega)⟩
  obtain ⟨FIN,hF⟩:∃ F,F=refT x:=⟨_,rfl⟩
  rw [← hF]
  by_cases c1:(x.toNat:Int)=60
  · have e1:((x.toNat:Int) == 60)=true:=by simpa using c1
    have:FIN=[38,108,116,59]:=by rw [hF,(hx 60).2 c1];rfl
    subst this
    clear hF
    go_enter Tryz.func106,Tryz.ntmps106
    go_wp2
    go_ret
    exact ⟨rfl,rfl⟩
  by_cases c2:(x.toNat:Int)=62
  · have e1:((x.toNat:Int) == 60)=false:=by simpa using c1
    have e2:((x.toNat:Int) == 62)=true:=by simpa using c2
    have:FIN=[38,103,116,59]:=by rw [hF,(hx 62).2 c2];rfl
    subst this
    clear hF
    go_enter Tryz.func106,Tryz.ntmps106
    go_wp2
    go_ret
    exact ⟨rfl,rfl⟩
  by_cases c3:(x.toNat:Int)=38
  · have e1:((x.toNat:Int) == 60)=false:=by simpa using c1
    have e2:((x.toNat:Int) == 62)=false:=by simpa using c2
    have e3:((x.toNat:Int) == 38)=true:=by simpa using c3
    have:FIN=[38,97,109,112,59]:=by rw [hF,(hx 38).2 c3];rfl
    subst this
    clear hF
    go_enter Tryz.func106,Tryz.ntmps106
    go_wp2
    go_ret
    exact ⟨rfl,rfl⟩
  by_cases c4:(x.toNat:Int)=13
  · have e1:((x.toNat:Int) == 60)=false:=by simpa using c1
    have e2:((x.toNat:Int) == 62)=false:=by simpa using c2
    have e3:((x.toNat:Int) == 38)=false:=by simpa using c3
    have e4:((x.toNat:Int) == 13)=true:=by simpa using c4
    have:FIN=[38,35,49,51,59]:=by rw [hF,(hx 13).2 c4];rfl
    subst this
    clear hF
    go_enter Tryz.func106,Tryz.ntmps106
    go_wp2
    go_ret
    exact ⟨rfl,rfl⟩
  · have e1:((x.toNat:Int) == 60)=false:=by simpa using c1
    have e2:((x.toNat:Int) == 62)=false:=by simpa using c2
    have e3:((x.toNat:Int) == 38)=false:=by simpa using c3
    have e4:((x.toNat:Int) == 13)=false:=by simpa using c4
    have:FIN=[]:=by
      rw [hF]
      unfold refT
      rw [if_neg (fun k=>c1 ((hx 60).1 k)),if_neg (fun k=>c2 ((hx 62).1 k)),if_neg (fun k=>c3 ((hx 38).1 k)),if_neg (fun k=>c4 ((hx 13).1 k))]
    subst this
    clear hF
    go_enter Tryz.func106,Tryz.ntmps106
    go_wp2
    go_ret
    exact ⟨rfl,rfl⟩
theorem refV_any (x:UInt8) (w:World):Calls Tryz.prog 135 #[.int .u8 (x.toNat:Int)] w fun e w' => e = .returned (.string ⟨(refV x).toArray⟩)∧w' = w:=by
  have hx:∀ k:UInt8,x=k ↔ (x.toNat:Int)=(k.toNat:Int):=fun k=>⟨fun e=>by rw [e],fun e=>UInt8.toNat_inj.1 (by omega)⟩
  obtain ⟨FIN,hF⟩:∃ F,F=refV x:=⟨_,rfl⟩
  rw [← hF]
  by_cases c1:(x.toNat:Int)=34
  · have e1:((x.toNat:Int) == 34)=true:=by simpa using c1
    have:FIN=[38,113,117,111,116,59]:=by rw [hF,(hx 34).2 c1];rfl
    subst this
    clear hF
    go_enter Tryz.func135,Tryz.ntmps135
    go_wp2
    go_ret
    exact ⟨rfl,rfl⟩
  by_cases c2:(x.toNat:Int)=9
  · have e1:((x.toNat:Int) == 34)=false:=by simpa using c1
    have e2:((x.toNat:Int) == 9)=true:=by simpa using c2
    have:FIN=[38,35,57,59]:=by rw [hF,(hx 9).2 c2];rfl
    subst this
    clear hF
    go_enter Tryz.func135,Tryz.ntmps135
    go_wp2
    go_ret
    exact ⟨rfl,rfl⟩
  by_cases c3:(x.toNat:Int)=10
  · have e1:((x.toNat:Int) == 34)=false:=by simpa using c1
    have e2:((x.toNat:Int) == 9)=false:=by simpa using c2
    have e3:((x.toNat:Int) == 10)=true:=by simpa using c3
    have:FIN=[38,35,49,48,59]:=by rw [hF,(hx 10).2 c3];rfl
    subst this
    clear hF
    go_enter Tryz.func135,Tryz.ntmps135
    go_wp2
    go_ret
    exact ⟨rfl,rfl⟩
  · have e1:((x.toNat:Int) == 34)=false:=by simpa using c1
    have e2:((x.toNat:Int) == 9)=false:=by simpa using c2
    have e3:((x.toNat:Int) == 10)=false:=by simpa using c3
    have:FIN=refT x:=by
      rw [hF]
      unfold refV
      rw [if_neg (fun k=>c1 ((hx 34).1 k)),if_neg (fun k=>c2 ((hx 9).1 k)),if_neg (fun k=>c3 ((hx 10).1 k))]
    subst this
    clear hF
    go_enter Tryz.func135,Tryz.ntmps135
    go_wp2_with fail
    refine (refT_any x _).mono ?_
    rintro e w1 ⟨rfl,rfl⟩
    go_wp2
    go_ret
    exact ⟨rfl,rfl⟩
set_option maxRecDepth 100000 in
theorem weither_any {w:World} {b:Nat} {t:Bs} {f:List Nat} (h:WTx w b t f) (x:UInt8) (r:Bs) (hl:t.length + r.length + 1≤1000000000) :
    Calls Tryz.prog 107 #[.pointer (some ⟨b,0,none⟩),.int .u8 (x.toNat:Int),.string ⟨r.toArray⟩] w fun e w' => e = .returned (.tuple #[])∧∃ f', WTx w' b (t ++ either x r) f' ∧ Fr w w' b f f' := by
  cases r with
  | cons y r =>
    have e0:((y :: r) == ([]:Bs))=false:=rfl
    have HP:=hide (wput_any h (y :: r) (by omega))
    have hE:either x (y :: r)=y :: r:=by unfold either;rw [if_neg (by simp)]
    rw [hE]
    generalize (y :: r)=z at *
    clear hE h
    go_enter Tryz.func107,Tryz.ntmps107
    go_wp2_with fail
    refine (unhide HP).mono ?_
    rintro e w1 ⟨rfl,h1⟩
    have HF:=hide h1
    clear h1
    go_wp2
    go_end0
    exact ⟨rfl,unhide HF⟩
  | nil =>
    obtain ⟨a,c,h,rfl⟩:=h
    obtain ⟨i0,hi,hz0,hz1,hz2⟩:=info_parts infoU8
    have hc:=h.cell
    have hlt:=h.lt
    have hA:=h.keep ((Below.refl w.heap.size w).alloc (Nat.le_refl _) (.cells #[.int .u8 (x.toNat:Int)] 5))
    have HA:=hide hA
    have HB:=hide (show (w.alloc (.cells #[.int .u8 (x.toNat:Int)] 5)).heap[w.heap.size]? = _ from heap_alloc_new w _)
    have hE:either x []=[x]:=rfl
    rw [hE]
    clear h hA hE
    go_enter Tryz.func107,Tryz.ntmps107
    go_wp2_with (at_builtin;refine wpList_append_lies _ rfl _ _ 54 rfl (b + 1) 5 i0 _ 1 1 Tryz.underlying54 hi hz0 hz1 hz2 rfl (by decide) (.slice a t.length c) t.length (t.map bv) (by simp [Act.eval]) (unhide HA).row ⟨w.heap.size,0,none⟩ 1 1 [.int .u8 (x.toNat:Int)] (by simp [Act.eval]) rfl (World.news_of_block (unhide HB)) (by intro u hu;simp at hu;subst hu;rfl) (by decide) (by unfold maxLen;omega) (by omega) (by simp;omega) (w.heap.size + 1) (by simp) ?_;intro g3 cap3 w3 ho3 hg3 hat3 hlt3;obtain ⟨hw,hc3,hf3,hl3⟩:=(unhide HA).grow (m:=[x]) ho3 hg3 (by rcases hat3 with q | q;exact .inl q.symm;exact .inr (by rw [q];simp [Value.ownBlock]));have HF:=hide hw;clear hw ho3 hg3 hat3)
    refine bodyPost_ret (results_none rfl _ _ _) rfl ?_
    obtain ⟨f', q1,q2⟩:=unhide HF
    exact ⟨rfl,f', q1,(Fr.alloc _ _ _ _).trans q2⟩
theorem wText_take (s:Bs) (i:Nat) (y:UInt8) (hy:s[i]? = some y):wText (s.take (i + 1))=wText (s.take i) ++ either y (refT y):=by
  rw [List.take_add_one,hy,wText_app]
  congr 1
  unfold wText
  simp
theorem wVal_take (s:Bs) (i:Nat) (y:UInt8) (hy:s[i]? = some y):wVal (s.take (i + 1))=wVal (s.take i) ++ either y (refV y):=by
  rw [List.take_add_one,hy,wVal_app]
  congr 1
  unfold wVal
  simp
theorem ref_small (y:UInt8):(refT y).length≤6∧(refV y).length≤6:=by
  unfold refV refT
  constructor <;> (repeat' split) <;> simp
theorem wT_small:∀ (s:Bs),(wText s).length≤6 * s.length∧(wVal s).length≤6 * s.length
  | []=>⟨Nat.le_refl _,Nat.le_refl _⟩
  | x :: r=>by
    have e:wText (x :: r)=either x (refT x) ++ wText r:=rfl
    have e2:wVal (x :: r)=either x (refV x) ++ wVal r:=rfl
    have h:=wT_small r
    have h1:=ref_small x
    have k:∀ z:Bs,z.length≤6→(either x z).length≤6:=fun z hz=>by
      unfold either
      split
      · simp
      · exact hz
    rw [e,e2,List.length_append,List.length_append,List.length_cons]
    have:=k _ h1.1
    have:=k _ h1.2
    omega
set_option maxHeartbeats 1000000 in
theorem wtext_any {w:World} {b:Nat} {t:Bs} {f:List Nat} (h:WTx w b t f) (s:Bs) (hl:t.length + 6 * s.length + 10≤1000000000) :
    Calls Tryz.prog 84 #[.pointer (some ⟨b,0,none⟩),.string ⟨s.toArray⟩] w fun e w' => e = .returned (.tuple #[])∧∃ f', WTx w' b (t ++ wText s) f' ∧ Fr w w' b f f' := by
  have H0:=hide h
  have HT:=hide (wText_take s)
  clear h
  go_enter Tryz.func84,Tryz.ntmps84
  go_wp2_with fail
  go_loopg [4] s.length (fun g s4 wx=>∃ i:Nat,i≤s.length∧g=s.length - i∧s4 = .int .i64 (i:Int)∧Hid (∃ f', WTx wx b (t ++ wText (s.take i)) f' ∧ Fr w wx b f f'))
  case atStart=>exact ⟨0,by omega,rfl,rfl,⟨f,by show WTx w b (t ++ wText []) f;simpa [wText] using unhide H0,Fr.refl _ _ _⟩⟩
  case round =>
    obtain ⟨i,hi,rfl,rfl,f1,HF⟩:=hrel
    clear H0
    by_cases h3:i<s.length
    · have e1:decide ((i:Int)<(s.length:Int))=true:=by simp;omega
      have hk1:(i:Int)<(s.length:Int):=by omega
      obtain ⟨y,hy⟩:∃ y,s[i]? = some y:=⟨s[i],by simp [h3]⟩
      have hsa:∀ h,(ByteArray.mk s.toArray)[i]'h=y:=fun h=>(List.getElem?_eq_some_iff.1 hy).2
      have HE:=hide (weither_any HF.1 y (refT y) (by have h5:=(wT_small (s.take i)).1;have:=(ref_small y).1;rw [List.length_take] at h5;rw [List.length_append];omega))
      rw [List.append_assoc, ← unhide HT i y hy] at HE
      clear hy HT
      go_wp2_with fail
      refine (refT_any y _).mono ?_
      rintro e w1 ⟨rfl,rfl⟩
      go_wp2_with fail
      refine (unhide HE).mono ?_
      rintro e w2 ⟨rfl,f2,g1,g2⟩
      have HN:=hide (And.intro g1 (HF.2.trans g2))
      clear g1 g2 HE HF
      go_wp2
      go_roundg (s.length - (i + 1))
      case measure=>omega
      case rel=>exact ⟨i + 1,by omega,rfl,by simp,f2,unhide HN⟩
    · have e1:decide ((i:Int)<(s.length:Int))=false:=by simp;omega
      have hil:i=s.length:=by omega
      have HN:Hid (∃ f', WTx wr b (t ++ wText s) f' ∧ Fr w wr b f f'):=by
        have:=HF
        rw [hil,List.take_length] at this
        exact ⟨f1,this⟩
      clear HF HT
      go_wp2
      go_end0
      exact ⟨rfl,unhide HN⟩
set_option maxHeartbeats 1000000 in
theorem wvalue_any {w:World} {b:Nat} {t:Bs} {f:List Nat} (h:WTx w b t f) (s:Bs) (hl:t.length + 6 * s.length + 10≤1000000000) :
    Calls Tryz.prog 105 #[.pointer (some ⟨b,0,none⟩),.string ⟨s.toArray⟩] w fun e w' => e = .returned (.tuple #[])∧∃ f', WTx w' b (t ++ wVal s) f' ∧ Fr w w' b f f' := by
  have H0:=hide h
  have HT:=hide (wVal_take s)
  clear h
  go_enter Tryz.func105,Tryz.ntmps105
  go_wp2_with fail
  go_loopg [4] s.length (fun g s4 wx=>∃ i:Nat,i≤s.length∧g=s.length - i∧s4 = .int .i64 (i:Int)∧Hid (∃ f', WTx wx b (t ++ wVal (s.take i)) f' ∧ Fr w wx b f f'))
  case atStart=>exact ⟨0,by omega,rfl,rfl,⟨f,by show WTx w b (t ++ wVal []) f;simpa [wVal] using unhide H0,Fr.refl _ _ _⟩⟩
  case round =>
    obtain ⟨i,hi,rfl,rfl,f1,HF⟩:=hrel
    clear H0
    by_cases h3:i<s.length
    · have e1:decide ((i:Int)<(s.length:Int))=true:=by simp;omega
      have hk1:(i:Int)<(s.length:Int):=by omega
      obtain ⟨y,hy⟩:∃ y,s[i]? = some y:=⟨s[i],by simp [h3]⟩
      have hsa:∀ h,(ByteArray.mk s.toArray)[i]'h=y:=fun h=>(List.getElem?_eq_some_iff.1 hy).2
      have HE:=hide (weither_any HF.1 y (refV y) (by have h5:=(wT_small (s.take i)).2;have:=(ref_small y).2;rw [List.length_take] at h5;rw [List.length_append];omega))
      rw [List.append_assoc, ← unhide HT i y hy] at HE
      clear hy HT
      go_wp2_with fail
      refine (refV_any y _).mono ?_
      rintro e w1 ⟨rfl,rfl⟩
      go_wp2_with fail
      refine (unhide HE).mono ?_
      rintro e w2 ⟨rfl,f2,g1,g2⟩
      have HN:=hide (And.intro g1 (HF.2.trans g2))
      clear g1 g2 HE HF
      go_wp2
      go_roundg (s.length - (i + 1))
      case measure=>omega
      case rel=>exact ⟨i + 1,by omega,rfl,by simp,f2,unhide HN⟩
    · have e1:decide ((i:Int)<(s.length:Int))=false:=by simp;omega
      have hil:i=s.length:=by omega
      have HN:Hid (∃ f', WTx wr b (t ++ wVal s) f' ∧ Fr w wr b f f'):=by
        have:=HF
        rw [hil,List.take_length] at this
        exact ⟨f1,this⟩
      clear HF HT
      go_wp2
      go_end0
      exact ⟨rfl,unhide HN⟩
theorem wattr_any {w:World} {b:Nat} {t:Bs} {f:List Nat} (h:WTx w b t f) (n v:Bs) (hl:t.length + n.length + 6 * v.length + 20≤1000000000) :
    Calls Tryz.prog 83 #[.pointer (some ⟨b,0,none⟩),.string ⟨n.toArray⟩,.string ⟨v.toArray⟩] w fun e w' => e = .returned (.tuple #[])∧∃ f', WTx w' b (t ++ wAttr n v) f' ∧ Fr w w' b f f' := by
  have H1:=hide (wput_any h (32 :: (n ++ [61,34])) (by simp;omega))
  clear h
  go_enter Tryz.func83,Tryz.ntmps83
  go_wp2_with fail
  refine (unhide H1).mono ?_
  rintro e w1 ⟨rfl,f1,h1,b1⟩
  have H2:=hide (wvalue_any h1 v (by simp;omega))
  have HB1:=hide b1
  clear h1 b1 H1
  go_wp2_with fail
  refine (unhide H2).mono ?_
  rintro e w2 ⟨rfl,f2,h2,b2⟩
  have H3:=hide (wput_any h2 [34] (by have:=(wT_small v).2;simp;omega))
  have HB2:=hide ((unhide HB1).trans b2)
  clear h2 b2 H2 HB1
  go_wp2_with fail
  refine (unhide H3).mono ?_
  rintro e w3 ⟨rfl,f3,h3,b3⟩
  have HF:Hid (WTx w3 b (t ++ wAttr n v) f3∧Fr w w3 b f f3):=by
    refine ⟨?_,(unhide HB2).trans b3⟩
    have e:t ++ 32 :: (n ++ [61,34]) ++ wVal v ++ [34]=t ++ wAttr n v:=by unfold wAttr;simp
    rw [← e]
    exact h3
  clear h3 b3 H3 HB2
  go_wp2
  go_end0
  exact ⟨rfl,f3,unhide HF⟩
theorem decl_any (p:Bs) (hl:p.length≤1000000000) (w:World):Calls Tryz.prog 82 #[.string ⟨p.toArray⟩] w fun e w' => e = .returned (.string ⟨(declN p).toArray⟩)∧w' = w:=by
  cases p with
  | nil =>
    have e0:(([]:Bs) == [])=true:=rfl
    show Calls _ _ _ _ fun e w' => e = .returned (.string ⟨#[120,109,108,110,115]⟩)∧w' = w
    go_enter Tryz.func82,Tryz.ntmps82
    go_wp2
    go_ret
    exact ⟨rfl,rfl⟩
  | cons y r =>
    have e0:((y :: r) == ([]:Bs))=false:=rfl
    have hE:declN (y :: r)=120 :: 109 :: 108 :: 110 :: 115 :: 58 :: (y :: r):=by unfold declN;rw [if_neg (by simp)];rfl
    rw [hE]
    generalize (y :: r)=z at *
    have hz:¬ 9223372036854775807<6 + z.length:=by omega
    clear hE
    go_enter Tryz.func82,Tryz.ntmps82
    go_wp2
    refine bodyPost_ret (results_tmp rfl _ _ _) rfl ⟨?_,rfl⟩
    show Ending.returned (.string (_ ++ _))=_
    congr 2
structure Bq (w:World) (E b:Nat) (f:List Nat) (o:Obj):Prop where
  blk:w.heap[E]? = some o
  nb:E ≠ b
  nf:E ∉ f
theorem Bq.fr {w w1:World} {E b:Nat} {f f1:List Nat} {o:Obj} (h:Bq w E b f o) (hf:Fr w w1 b f f1):Bq w1 E b f1 o:=by
  have hlt:=(Array.getElem?_eq_some_iff.1 h.blk).1
  refine ⟨(hf.block E hlt h.nb h.nf).trans h.blk,h.nb,fun hm => ?_⟩
  rcases hf.foot E hm with q | q
  · exact h.nf q
  · omega
theorem Bq.cell {w:World} {E b:Nat} {f:List Nat} {cs:Array Value} {ty:TypeId} (h:Bq w E b f (.cells cs ty (0,0))) (j:Nat):w.cell? ⟨E,j,none⟩=cs[j]? := by simp [World.cell?,h.blk]
theorem bq_new {w:World} {b:Nat} {t:Bs} {f:List Nat} (h:WTx w b t f) (o:Obj):Bq (w.alloc o) w.heap.size b f o:=by
  have hl:=wtx_lt h
  exact ⟨heap_alloc_new w o,by omega,fun hm=>by have:=(hl.2 _ hm).2;omega⟩
def pi5 (n x:Bs):Bs:=[60,63] ++ n ++ (if x=[] then [] else 32 :: x) ++ [63,62]
set_option maxRecDepth 100000 in
theorem wpi_any {w:World} {b:Nat} {t:Bs} {f:List Nat} (h:WTx w b t f) (k:Int) (n s x:Bs) (v:Value) (hl:t.length + n.length + x.length + 20≤1000000000) :
    Calls Tryz.prog 85 #[.pointer (some ⟨b,0,none⟩),.agg #[.int .i64 k,.string ⟨n.toArray⟩,.string ⟨s.toArray⟩,.string ⟨x.toArray⟩,v]] w fun r w' => r = .returned (.tuple #[])∧∃ f', WTx w' b (t ++ pi5 n x) f' ∧ Fr w w' b f f' := by
  obtain ⟨hA,hbA⟩:=wtx_alloc h (.cells #[.int .i64 k,.string ⟨n.toArray⟩,.string ⟨s.toArray⟩,.string ⟨x.toArray⟩,v] 53)
  have hlt:=(wtx_lt h).1
  have hk:=bq_new h (.cells #[.int .i64 k,.string ⟨n.toArray⟩,.string ⟨s.toArray⟩,.string ⟨x.toArray⟩,v] 53)
  have H1:=hide (wput_any hA (60 :: 63 :: n) (by simp;omega))
  have HBA:=hide (And.intro hbA hk)
  clear hA hbA h hk
  cases x with
  | nil =>
    have e0:(([]:Bs) == [])=true:=rfl
    have e1:(([]:Bs) != [])=false:=rfl
    go_enter Tryz.func85,Tryz.ntmps85
    go_wp2_with fail
    refine (unhide H1).mono ?_
    rintro e w1 ⟨rfl,f1,h1,b1⟩
    have hk1:=(unhide HBA).2.fr b1
    have c3:=hk1.cell 3
    have H2:=hide (wput_any h1 [63,62] (by simp at hl ⊢;omega))
    have HF1:=hide ((unhide HBA).1.trans b1)
    clear h1 b1 hk1 H1 HBA
    go_wp2_with fail
    refine (unhide H2).mono ?_
    rintro e w2 ⟨rfl,f2,h2,b2⟩
    have HF:Hid (WTx w2 b (t ++ pi5 n []) f2∧Fr w w2 b f f2):=⟨by have e:t ++ pi5 n []=t ++ (60 :: 63 :: n) ++ [63,62]:=(by simp [pi5]);rw [e];exact h2,(unhide HF1).trans b2⟩
    clear h2 b2 H2 HF1
    go_wp2
    go_end0
    exact ⟨rfl,f2,unhide HF⟩
  | cons y x =>
    have e0:((y :: x) == ([]:Bs))=false:=rfl
    have e1:((y :: x) != ([]:Bs))=true:=rfl
    have hE:pi5 n (y :: x)=[60,63] ++ n ++ (32 :: (y :: x)) ++ [63,62]:=by unfold pi5;rw [if_neg (by simp)]
    rw [hE]
    clear hE
    generalize (y :: x)=z at *
    go_enter Tryz.func85,Tryz.ntmps85
    go_wp2_with fail
    refine (unhide H1).mono ?_
    rintro e w1 ⟨rfl,f1,h1,b1⟩
    have hk1:=(unhide HBA).2.fr b1
    have c3:=hk1.cell 3
    have H2:=hide (wput_any h1 (32 :: z) (by simp;omega))
    have HF1:=hide ((unhide HBA).1.trans b1)
    clear h1 b1 hk1 H1 HBA
    go_wp2_with fail
    refine (unhide H2).mono ?_
    rintro e w2 ⟨rfl,f2,h2,b2⟩
    have H3:=hide (wput_any h2 [63,62] (by simp;omega))
    have HF2:=hide ((unhide HF1).trans b2)
    clear h2 b2 H2 HF1
    go_wp2_with fail
    refine (unhide H3).mono ?_
    rintro e w3 ⟨rfl,f3,h3,b3⟩
    have HF:Hid (WTx w3 b (t ++ ([60,63] ++ n ++ 32 :: z ++ [63,62])) f3∧Fr w w3 b f f3):=⟨by have e:t ++ ([60,63] ++ n ++ 32 :: z ++ [63,62])=t ++ (60 :: 63 :: n) ++ (32 :: z) ++ [63,62]:=(by simp);rw [e];exact h3,(unhide HF2).trans b3⟩
    clear h3 b3 H3 HF2
    go_wp2
    go_end0
    exact ⟨rfl,f3,unhide HF⟩
theorem wother_any {w:World} {b:Nat} {t:Bs} {f:List Nat} (h:WTx w b t f) (e:Ev) (v:Value) (hl:t.length + e.name.length + 6 * e.val.length + 30≤1000000000) :
    Calls Tryz.prog 70 #[.pointer (some ⟨b,0,none⟩),.agg #[.int .i64 e.kind,.string ⟨e.name.toArray⟩,.string ⟨e.space.toArray⟩,.string ⟨e.val.toArray⟩,v]] w fun r w' => r = .returned (.tuple #[])∧∃ f', WTx w' b (t ++ wOther e) f' ∧ Fr w w' b f f' := by
  obtain ⟨k,n,s,x,ats⟩:=e
  dsimp only at hl ⊢
  obtain ⟨hA,hbA⟩:=wtx_alloc h (.cells #[.int .i64 k,.string ⟨n.toArray⟩,.string ⟨s.toArray⟩,.string ⟨x.toArray⟩,v] 53)
  have hlt:=(wtx_lt h).1
  have HBA:=hide hbA
  have HA:=hide hA
  clear hA hbA h
  by_cases k2:k=2
  · subst k2
    have e1:((2:Int) == 2)=true:=rfl
    have H1:=hide (wput_any (unhide HA) (60 :: 47 :: (n ++ [62])) (by simp;omega))
    have hE:wOther ⟨2,n,s,x,ats⟩=60 :: 47 :: (n ++ [62]):=by unfold wOther;simp
    rw [hE]
    clear hE HA
    go_enter Tryz.func70,Tryz.ntmps70
    go_wp2_with fail
    refine (unhide H1).mono ?_
    rintro e w1 ⟨rfl,f1,h1,b1⟩
    have HF:=hide (And.intro h1 ((unhide HBA).trans b1))
    clear h1 b1 H1 HBA
    go_wp2
    go_end0
    exact ⟨rfl,f1,unhide HF⟩
  by_cases k3:k=3
  · subst k3
    have H1:=hide (wtext_any (unhide HA) x (by omega))
    have hE:wOther ⟨3,n,s,x,ats⟩=wText x:=by unfold wOther;simp
    rw [hE]
    clear hE HA
    go_enter Tryz.func70,Tryz.ntmps70
    go_wp2_with fail
    refine (unhide H1).mono ?_
    rintro e w1 ⟨rfl,f1,h1,b1⟩
    have HF:=hide (And.intro h1 ((unhide HBA).trans b1))
    clear h1 b1 H1 HBA
    go_wp2
    go_end0
    exact ⟨rfl,f1,unhide HF⟩
  by_cases k4:k=4
  · subst k4
    have H1:=hide (wput_any (unhide HA) (60 :: 33 :: 45 :: 45 :: (x ++ [45,45,62])) (by simp;omega))
    have hE:wOther ⟨4,n,s,x,ats⟩=60 :: 33 :: 45 :: 45 :: (x ++ [45,45,62]):=by unfold wOther;simp
    rw [hE]
    clear hE HA
    go_enter Tryz.func70,Tryz.ntmps70
    go_wp2_with fail
    refine (unhide H1).mono ?_
    rintro e w1 ⟨rfl,f1,h1,b1⟩
    have HF:=hide (And.intro h1 ((unhide HBA).trans b1))
    clear h1 b1 H1 HBA
    go_wp2
    go_end0
    exact ⟨rfl,f1,unhide HF⟩
  by_cases k5:k=5
  · subst k5
    have H1:=hide (wpi_any (unhide HA) 5 n s x v (by omega))
    have hE:wOther ⟨5,n,s,x,ats⟩=pi5 n x:=by unfold wOther pi5;simp
    rw [hE]
    clear hE HA
    go_enter Tryz.func70,Tryz.ntmps70
    go_wp2_with fail
    refine (unhide H1).mono ?_
    rintro e w1 ⟨rfl,f1,h1,b1⟩
    have HF:=hide (And.intro h1 ((unhide HBA).trans b1))
    clear h1 b1 H1 HBA
    go_wp2
    go_end0
    exact ⟨rfl,f1,unhide HF⟩
  · have e2:(k == 2)=false:=by simpa using k2
    have e3:(k == 3)=false:=by simpa using k3
    have e4:(k == 4)=false:=by simpa using k4
    have e5:(k == 5)=false:=by simpa using k5
    have hE:wOther ⟨k,n,s,x,ats⟩=[]:=by unfold wOther;simp [k2,k3,k4,k5]
    rw [hE]
    clear hE
    go_enter Tryz.func70,Tryz.ntmps70
    go_wp2
    go_end0
    exact ⟨rfl,f,by rw [List.append_nil];exact unhide HA,unhide HBA⟩
theorem stk1_2 {o o' : List Bs} {e:Ev} (hk:e.kind=2) (h:stk1 o e=some o'):∃ q,o=q ++ [e.name]∧o' = q:=by
  unfold stk1 at h
  rw [if_neg (by rw [hk];decide),if_pos hk] at h
  split at h
  · cases h
  · rename_i hn
    cases h
    refine ⟨o.dropLast,?_,rfl⟩
    have h1:o ≠ []:=fun e=>hn (.inl e)
    have h2:o.getLastD []=e.name:=by
      cases hd:decide (o.getLastD []=e.name)
      · exact absurd (.inr (by simpa using hd)) hn
      · simpa using hd
    rw [List.getLastD_eq_getLast?,List.getLast?_eq_some_getLast h1] at h2
    rw [← h2]
    exact (List.dropLast_concat_getLast h1).symm
def AtsAt (w:World) (aa:Option Addr) (l:List Att):Prop:=
  ∀ k (hk:k<l.length), ∃ g,aa=some ⟨g,0,none⟩∧g<w.heap.size∧w.cell? ⟨g,k * 3,none⟩=some (.string ⟨l[k].name.toArray⟩)∧w.cell? ⟨g,k * 3 + 2,none⟩=some (.string ⟨l[k].val.toArray⟩)
theorem AtsAt.of {w:World} {l:List Att} {a:Option Addr} {c:Nat} (h:w.ownsRow 0 112 3 (.slice a l.length c) l.length (atsRow l)):AtsAt w a l:=fun k hk=>by
  obtain ⟨g,h1,h2,h3⟩:=spElem (m:=3) (l:=l) atCells (fun _=>rfl) (by decide) h k hk
  exact ⟨g,h1,h2,h3 0 (by decide),h3 2 (by decide)⟩
theorem AtsAt.keep {w w' : World} {l:List Att} {a:Option Addr} (h:AtsAt w a l) (hb:Below w.heap.size w w'):AtsAt w' a l:=fun k hk=>by
  obtain ⟨g,h1,h2,h3,h4⟩:=h k hk
  have hc:∀ j,w'.cell? ⟨g,j,none⟩=w.cell? ⟨g,j,none⟩:=fun j=>by simp only [World.cell?];rw [hb.block _ h2]
  exact ⟨g,h1,by have:=hb.size;omega,by rw [hc];exact h3,by rw [hc];exact h4⟩
def BsAt (w:World) (ba:Option Addr) (l:List Ev):Prop:=
  ∀ k (hk:k<l.length), ∃ g o,ba=some ⟨g,o,none⟩∧g<w.heap.size∧w.cell? ⟨g,o + k * 5 + 1,none⟩=some (.string ⟨l[k].name.toArray⟩)∧w.cell? ⟨g,o + k * 5 + 3,none⟩=some (.string ⟨l[k].val.toArray⟩)
theorem flat_take {α:Type} (f:α→Bs) (l:List α) (i:Nat) (hi:i<l.length):(l.take (i + 1)).flatMap f=(l.take i).flatMap f ++ f l[i]:=by
  rw [List.take_add_one,List.flatMap_append]
  simp [List.getElem?_eq_getElem hi]
theorem flat_le {α:Type} (f:α→Bs) (l:List α) (i:Nat):((l.take i).flatMap f).length≤(l.flatMap f).length:=by
  conv=>rhs;rw [← List.take_append_drop i l,List.flatMap_append,List.length_append]
  omega
def wBs (l:List Ev):Bs:=l.flatMap fun x=>wAttr (declN x.name) x.val
def wAs (l:List Att):Bs:=l.flatMap fun x=>wAttr x.name x.val
theorem declN_len (p:Bs):(declN p).length≤p.length + 6:=by
  unfold declN
  split
  · simp [Mk.wXmlns]
  · simp [Mk.wXmlns]
set_option maxHeartbeats 2000000 in
set_option maxRecDepth 100000 in
theorem wstart_any {w0 w:World} {t:Bs} {f:List Nat} (h:WTx w w0.heap.size t f) (hW:Below w0.heap.size w0 w) (e:Ev) (aa ba:Option Addr) (ac bc:Nat) (bs:List Ev) (hA:AtsAt w0 aa e.attrs) (hB:BsAt w0 ba bs)
    (hn:e.name.length≤1000000) (hna:∀ y ∈ e.attrs,y.name.length≤1000000∧y.val.length≤1000000) (hnb:∀ y ∈ bs,y.name.length≤1000000∧y.val.length≤1000000) (hal:e.attrs.length≤1000000) (hbl:bs.length≤1000000)
    (hl:t.length + (wStart e bs).length≤900000000) :
    Calls Tryz.prog 69 #[.pointer (some ⟨w0.heap.size,0,none⟩),.agg #[.int .i64 e.kind,.string ⟨e.name.toArray⟩,.string ⟨e.space.toArray⟩,.string ⟨e.val.toArray⟩,.slice aa e.attrs.length ac],.slice ba bs.length bc] w fun r w' => r = .returned (.tuple #[])∧∃ f', WTx w' w0.heap.size (t ++ wStart e bs) f' ∧ Fr w w' w0.heap.size f f' := by
  obtain ⟨k,n,s,x,ats⟩:=e
  dsimp only at hA hn hna hal hl ⊢
  have hE:wStart ⟨k,n,s,x,ats⟩ bs=60 :: n ++ wBs bs ++ wAs ats ++ [62]:=rfl
  rw [hE] at hl ⊢
  simp only [List.length_append,List.length_cons,List.length_nil] at hl
  clear hE
  obtain ⟨hA1,hbA⟩:=wtx_alloc h (.cells #[.int .i64 k,.string ⟨n.toArray⟩,.string ⟨s.toArray⟩,.string ⟨x.toArray⟩,.slice aa ats.length ac] 53)
  have hlt:=(wtx_lt h).1
  have hk:=bq_new h (.cells #[.int .i64 k,.string ⟨n.toArray⟩,.string ⟨s.toArray⟩,.string ⟨x.toArray⟩,.slice aa ats.length ac] 53)
  have H1:=hide (wput_any hA1 (60 :: n) (by simp;omega))
  have HK:=hide (And.intro hbA hk)
  have HB0:=hide hW
  have HAT:=hide hA
  have HBS:=hide hB
  have HNA:=hide hna
  have HNB:=hide hnb
  have HFR:Hid (∀ w' f', Fr w w' w0.heap.size f f' → Below w0.heap.size w0 w'):=fun w' f' hf=>(unhide HB0).trans ⟨hf.os,hf.tape,hf.output,hf.size,fun k hk=>hf.block k (by omega) (by omega) fun hm=>by have:=((wtx_lt h).2 k hm).1;omega⟩
  clear hA1 hbA hk hW hA hB hna hnb h HB0
  go_enter Tryz.func69,Tryz.ntmps69
  go_wp2_with fail
  refine (unhide H1).mono ?_
  rintro e w1 ⟨rfl,f1,h1,b1⟩
  have HP:Hid (WTx w1 w0.heap.size (t ++ (60 :: n) ++ wBs (bs.take 0)) f1∧Fr w w1 w0.heap.size f f1∧Bq w1 w.heap.size w0.heap.size f1 (.cells #[.int .i64 k,.string ⟨n.toArray⟩,.string ⟨s.toArray⟩,.string ⟨x.toArray⟩,.slice aa ats.length ac] 53 (0,0))):=⟨by show WTx w1 w0.heap.size (t ++ (60 :: n) ++ []) f1;rw [List.append_nil];exact h1,(unhide HK).1.trans b1,(unhide HK).2.fr b1⟩
  clear h1 b1 H1 HK
  go_wp2_with fail
  go_loopg [6] bs.length (fun g s6 wx=>∃ (i:Nat) (f' : List Nat),i≤bs.length∧g=bs.length - i∧s6 = .int .i64 (i:Int)∧Hid (WTx wx w0.heap.size (t ++ (60 :: n) ++ wBs (bs.take i)) f' ∧ Fr w wx w0.heap.size f f' ∧ Bq wx w.heap.size w0.heap.size f' (.cells #[.int .i64 k,.string ⟨n.toArray⟩,.string ⟨s.toArray⟩,.string ⟨x.toArray⟩,.slice aa ats.length ac] 53 (0,0))))
  case atStart=>exact ⟨0,f1,by omega,rfl,rfl,unhide HP⟩
  case round =>
    obtain ⟨i,f2,hi,rfl,rfl,HQ⟩:=hrel
    clear HP
    by_cases h3:i<bs.length
    · have e1:decide ((i:Int)<(bs.length:Int))=true:=by simp;omega
      have hk1:(i:Int)<(bs.length:Int):=by omega
      obtain ⟨g,o,hba,hgl,c1,c3⟩:=unhide HBS i h3
      subst hba
      have hbel:=unhide HFR _ _ (unhide HQ).2.1
      have hcw:∀ j,wr.cell? ⟨g,j,none⟩=w0.cell? ⟨g,j,none⟩:=fun j=>by simp only [World.cell?];rw [hbel.block _ hgl]
      have hgl2:g<wr.heap.size:=by have:=hbel.size;omega
      rw [← hcw] at c1 c3
      have HD:=hide (decl_any bs[i].name (by have:=(unhide HNB bs[i] (List.getElem_mem h3)).1;omega))
      have hfl:=flat_take (fun x:Ev=>wAttr (declN x.name) x.val) bs i h3
      have hle:=flat_le (fun x:Ev=>wAttr (declN x.name) x.val) bs i
      have HW:=hide (wattr_any (unhide HQ).1 (declN bs[i].name) bs[i].val (by
        have q:=unhide HNB bs[i] (List.getElem_mem h3)
        have q1:=declN_len bs[i].name
        have hle:(wBs (bs.take i)).length≤(wBs bs).length:=hle
        rw [List.length_append,List.length_append,List.length_cons]
        omega))
      have hfl:wBs (bs.take (i + 1))=wBs (bs.take i) ++ wAttr (declN bs[i].name) bs[i].val:=hfl
      rw [List.append_assoc, ← hfl] at HW
      clear hfl hle hcw hbel
      generalize bs[i]=y at *
      go_wp2_with fail
      refine (unhide HD _).mono ?_
      rintro e w2 ⟨rfl,rfl⟩
      go_wp2_with fail
      refine (unhide HW).mono ?_
      rintro e w3 ⟨rfl,f3,h3', b3⟩
      have HN:=hide (And.intro h3' (And.intro ((unhide HQ).2.1.trans b3) ((unhide HQ).2.2.fr b3)))
      clear h3' b3 HW HQ HD c1 c3
      go_wp2
      go_roundg (bs.length - (i + 1))
      case measure=>omega
      case rel=>exact ⟨i + 1,f3,by omega,rfl,by simp,unhide HN⟩
    · have e1:decide ((i:Int)<(bs.length:Int))=false:=by simp;omega
      have hil:i=bs.length:=by omega
      subst hil
      have HP2:Hid (WTx wr w0.heap.size (t ++ (60 :: n) ++ wBs bs ++ wAs (ats.take 0)) f2∧Fr w wr w0.heap.size f f2∧Bq wr w.heap.size w0.heap.size f2 (.cells #[.int .i64 k,.string ⟨n.toArray⟩,.string ⟨s.toArray⟩,.string ⟨x.toArray⟩,.slice aa ats.length ac] 53 (0,0))):=by
        have q:=unhide HQ
        rw [List.take_length] at q
        exact ⟨by show WTx wr w0.heap.size (t ++ (60 :: n) ++ wBs bs ++ []) f2;rw [List.append_nil];exact q.1,q.2⟩
      have c4:=(unhide HP2).2.2.cell 4
      clear HQ HBS HNB
      go_wp2_with fail
      go_loopg [8] ats.length (fun g s8 wx=>∃ (j:Nat) (f' : List Nat),j≤ats.length∧g=ats.length - j∧s8 = .int .i64 (j:Int)∧Hid (WTx wx w0.heap.size (t ++ (60 :: n) ++ wBs bs ++ wAs (ats.take j)) f' ∧ Fr w wx w0.heap.size f f' ∧ Bq wx w.heap.size w0.heap.size f' (.cells #[.int .i64 k,.string ⟨n.toArray⟩,.string ⟨s.toArray⟩,.string ⟨x.toArray⟩,.slice aa ats.length ac] 53 (0,0))))
      case atStart=>exact ⟨0,f2,by omega,rfl,rfl,unhide HP2⟩
      case round =>
        obtain ⟨j,f3,hj,rfl,rfl,HQ⟩:=hrel
        clear HP2 c4
        have c4:=(unhide HQ).2.2.cell 4
        have hlx:w.heap.size<wr.heap.size:=(Array.getElem?_eq_some_iff.1 (unhide HQ).2.2.blk).1
        by_cases h4:j<ats.length
        · have e2:decide ((j:Int)<(ats.length:Int))=true:=by simp;omega
          have hk2:(j:Int)<(ats.length:Int):=by omega
          obtain ⟨g,haa,hgl,c0,c2⟩:=unhide HAT j h4
          subst haa
          have hbel:=unhide HFR _ _ (unhide HQ).2.1
          have hcw:∀ q,wr.cell? ⟨g,q,none⟩=w0.cell? ⟨g,q,none⟩:=fun q=>by simp only [World.cell?];rw [hbel.block _ hgl]
          have hgl2:g<wr.heap.size:=by have:=hbel.size;omega
          rw [← hcw] at c0 c2
          have hfl:=flat_take (fun x:Att=>wAttr x.name x.val) ats j h4
          have hle:=flat_le (fun x:Att=>wAttr x.name x.val) ats j
          have hq1:WTx wr.drew w0.heap.size (t ++ (60 :: n) ++ wBs bs ++ wAs (ats.take j)) f3:=wtx_keep (unhide HQ).1 ⟨rfl,rfl,rfl,Nat.le_refl _,fun _ _=>rfl⟩
          have HW:=hide (wattr_any hq1 ats[j].name ats[j].val (by
            have q:=unhide HNA ats[j] (List.getElem_mem h4)
            have hle:(wAs (ats.take j)).length≤(wAs ats).length:=hle
            rw [List.length_append,List.length_append,List.length_append,List.length_cons]
            omega))
          have hfl:wAs (ats.take (j + 1))=wAs (ats.take j) ++ wAttr ats[j].name ats[j].val:=hfl
          rw [List.append_assoc, ← hfl] at HW
          clear hfl hle hcw hbel
          generalize ats[j]=y at *
          clear hq1
          go_wp2_with fail
          go_region_with (go_at_call 83;refine (unhide HW).mono ?_;rintro e w3 ⟨rfl,f4,h3', b3⟩;have b3' : Fr wr w3 w0.heap.size f3 f4:=⟨b3.os,b3.tape,b3.output,b3.size,b3.block,b3.foot⟩;have HN:=hide (And.intro h3' (And.intro ((unhide HQ).2.1.trans b3') ((unhide HQ).2.2.fr b3')));clear h3' b3 b3' HW HQ c0 c2 c4)
          all_goals
            go_wp2
            go_roundg (ats.length - (j + 1))
            case measure=>omega
            case rel=>exact ⟨j + 1,f4,by omega,rfl,by simp,unhide HN⟩
        · have e2:decide ((j:Int)<(ats.length:Int))=false:=by simp;omega
          have hjl:j=ats.length:=by omega
          have H5:=hide (wput_any (unhide HQ).1 [62] (by
            have hle:(wAs (ats.take j)).length≤(wAs ats).length:=flat_le (fun x:Att=>wAttr x.name x.val) ats j
            simp only [List.length_append,List.length_cons,List.length_nil]
            omega))
          go_wp2_with fail
          refine (unhide H5).mono ?_
          rintro e w4 ⟨rfl,f5,h5,b5⟩
          have HF:Hid (WTx w4 w0.heap.size (t ++ (60 :: n ++ wBs bs ++ wAs ats ++ [62])) f5∧Fr w w4 w0.heap.size f f5):=by
            refine ⟨?_,(unhide HQ).2.1.trans b5⟩
            rw [hjl,List.take_length] at h5
            have e:t ++ (60 :: n ++ wBs bs ++ wAs ats ++ [62])=t ++ (60 :: n) ++ wBs bs ++ wAs ats ++ [62]:=by simp
            rw [e];exact h5
          clear h5 b5 H5 HQ c4
          go_wp2
          go_end0
          exact ⟨rfl,f5,unhide HF⟩
end Go.Proofs.YtmgfijllcdadgabGreatDoor
