/- Refs, Refs2 -/
import Derived.Test.YtmgfijllcdadgabGreatDoorPM01
import Derived.Laws.IdiomStrings
set_option linter.unusedVariables false
set_option linter.unusedSimpArgs false
namespace Go.Proofs.YtmgfijllcdadgabGreatDoor
open Go.RowKit
open Mk (Bs)
theorem ext_list (x:Bs) (n:Nat):(ByteArray.extract ⟨x.toArray⟩ 0 n).toList=x.take n:=by
  simp [ByteArray.toList_eq,ByteArray.data_extract]
theorem begins_any (x y:Bs) (hx:x.length≤100) (hy:y.length≤100) (w:World):Calls Tryz.prog 131 #[.string ⟨x.toArray⟩,.string ⟨y.toArray⟩] w fun e w' => e = .returned (.bool (y.isPrefixOf x))∧w' = w:=by
  by_cases h:y.length≤x.length
  · go_enter Tryz.func131,Tryz.ntmps131
    go_wp2
    go_ret
    refine ⟨retB ?_,rfl⟩
    rw [ext_list,Bool.eq_iff_iff,List.isPrefixOf_iff_prefix,List.prefix_iff_eq_take]
    rw [beq_iff_eq]
    exact eq_comm
  · have e0:decide ((y.length:Int)≤(x.length:Int))=false:=by simp;omega
    go_enter Tryz.func131,Tryz.ntmps131
    go_wp2
    go_ret
    refine ⟨retB ?_,rfl⟩
    cases hp:y.isPrefixOf x
    · rfl
    · rw [List.isPrefixOf_iff_prefix] at hp
      exact absurd hp.length_le h
theorem isOpen_any (p:Int) (n:Bs) (c:Int) (w:World):Calls Tryz.prog 88 #[.agg #[.int .i64 p,.string ⟨n.toArray⟩,.int .i64 c]] w fun e w' => e = .returned (.bool (Mk.isOpen p))∧w' = w.alloc (.cells #[.int .i64 p,.string ⟨n.toArray⟩,.int .i64 c] 101):=by
  cases h:(p != 0)
  all_goals
    go_enter Tryz.func88,Tryz.ntmps88
    go_wp2
    go_ret
    refine ⟨retB ?_,rfl⟩
    simp [Mk.isOpen,h]
theorem code_any (p:Int) (n:Bs) (c:Int) (w:World):Calls Tryz.prog 112 #[.agg #[.int .i64 p,.string ⟨n.toArray⟩,.int .i64 c]] w fun e w' => e = .returned (.int .i64 c)∧w' = w.alloc (.cells #[.int .i64 p,.string ⟨n.toArray⟩,.int .i64 c] 101):=by
  go_enter Tryz.func112,Tryz.ntmps112
  go_wp2
  all_goals (go_ret;exact ⟨rfl,rfl⟩)
theorem refBegin_any (w:World):Calls Tryz.prog 114 #[] w fun e w' => e = .returned (.agg #[.int .i64 1,.string ⟨#[]⟩,.int .i64 0])∧Below w.heap.size w w' := by
  go_enter Tryz.func114,Tryz.ntmps114
  go_wp2
  exact bodyPost_ret (v:=.agg #[.int .i64 1,.string ⟨#[]⟩,.int .i64 0]) (by simp [results,Tryz.results114,go_sem]) rfl ⟨rfl,(Below.refl _ _).alloc (Nat.le_refl _) _⟩
def refAgg (o:Option Mk.Rf):Array Value:=#[.int .i64 ((o.map (·.place)).getD 0),.string ⟨((o.map (·.name)).getD []).toArray⟩,.int .i64 ((o.map (·.code)).getD 0)]
def refRes (o:Option Mk.Rf):Value:=.tuple #[.agg (refAgg o),.bool o.isSome]
theorem digit_bd {b base v:Int} (h0:0≤b) (hb:0<base) (h:Mk.digit b base=some v):0≤v∧v<base:=by
  unfold Mk.digit at h
  split at h
  · cases h
  · cases h
    rename_i h1
    refine ⟨?_,by omega⟩
    unfold Mk.digitVal Mk.isDigit
    repeat' split
    all_goals simp_all
    all_goals omega
theorem refDigit_any (p:Int) (n:Bs) (c b base place:Int) (h0:0≤b) (h1:b≤255) (c0:0≤c) (c1:c≤1114111) (hb:base=10∨base=16) (w:World) :
    Calls Tryz.prog 137 #[.agg #[.int .i64 p,.string ⟨n.toArray⟩,.int .i64 c],.int .u8 b,.int .i64 base,.int .i64 place] w fun e w' => e = .returned (refRes (Mk.refDigit c b base place))∧w' = (w.alloc (.cells #[.int .i64 p,.string ⟨n.toArray⟩,.int .i64 c] 101)).alloc (.cells (refAgg (Mk.refDigit c b base place)) 101):=by
  have HD:=hide (fun w=>digit_any b base h0 h1 (by omega) (by omega) w)
  have hbb:0<base∧base≤16:=by omega
  cases hd:Mk.digit b base with
  | none =>
    rw [hd] at HD
    have hm:Mk.refDigit c b base place=none:=by simp [Mk.refDigit,hd]
    rw [hm]
    clear hm hd
    rcases hb with rfl | rfl
    all_goals
      go_enter Tryz.func137,Tryz.ntmps137
      go_wp2_with (go_at_call 159;refine (unhide HD _).mono ?_;rintro e w' ⟨rfl,rfl⟩)
      exact bodyPost_ret (v:=refRes none) (by simp [results,Tryz.results137,go_sem,refRes,refAgg]) rfl ⟨rfl,rfl⟩
  | some v =>
    rw [hd] at HD
    have hv:=digit_bd h0 hbb.1 hd
    by_cases hg:1114111<c * base + v
    · have hm:Mk.refDigit c b base place=none:=by simp [Mk.refDigit,hd,hg]
      rw [hm]
      clear hm hd
      rcases hb with rfl | rfl
      all_goals
        go_enter Tryz.func137,Tryz.ntmps137
        go_wp2_with (go_at_call 159;refine (unhide HD _).mono ?_;rintro e w' ⟨rfl,rfl⟩)
        exact bodyPost_ret (v:=refRes none) (by simp [results,Tryz.results137,go_sem,refRes,refAgg]) rfl ⟨rfl,rfl⟩
    · have hm:Mk.refDigit c b base place=some ⟨place,[],c * base + v⟩:=by simp [Mk.refDigit,hd];omega
      rw [hm]
      clear hm hd
      have hg' : c * base + v≤1114111:=by omega
      clear hg
      rcases hb with rfl | rfl
      · go_enter Tryz.func137,Tryz.ntmps137
        go_wp2_with (go_at_call 159;refine (unhide HD _).mono ?_;rintro e w' ⟨rfl,rfl⟩)
        exact bodyPost_ret (v:=refRes (some ⟨place,[],c * 10 + v⟩)) (by simp [results,Tryz.results137,go_sem,refRes,refAgg]) rfl ⟨rfl,rfl⟩
      · go_enter Tryz.func137,Tryz.ntmps137
        go_wp2_with (go_at_call 159;refine (unhide HD _).mono ?_;rintro e w' ⟨rfl,rfl⟩)
        exact bodyPost_ret (v:=refRes (some ⟨place,[],c * 16 + v⟩)) (by simp [results,Tryz.results137,go_sem,refRes,refAgg]) rfl ⟨rfl,rfl⟩
theorem digitOrEnd_any (p:Int) (n:Bs) (c b base place:Int) (h0:0≤b) (h1:b≤255) (c0:0≤c) (c1:c≤1114111) (hb:base=10∨base=16) (w:World) :
    Calls Tryz.prog 138 #[.agg #[.int .i64 p,.string ⟨n.toArray⟩,.int .i64 c],.int .u8 b,.int .i64 base,.int .i64 place] w fun e w' => e = .returned (refRes (Mk.digitOrEnd c b base place))∧Below w.heap.size w w' := by
  cases he:(b == 59)
  · have hm:Mk.digitOrEnd c b base place=Mk.refDigit c b base place:=by simp [Mk.digitOrEnd,he]
    rw [hm]
    have he' : (b != 59)=true:=by simp at he ⊢;exact he
    have HD:=hide (fun w=>refDigit_any p n c b base place h0 h1 c0 c1 hb w)
    clear hm
    cases hq:Mk.refDigit c b base place with
    | none =>
      rw [hq] at HD
      clear hq
      go_enter Tryz.func138,Tryz.ntmps138
      go_wp2_with (go_at_call 137;refine (unhide HD _).mono ?_;rintro e w1 ⟨rfl,rfl⟩;simp only [refRes,refAgg,Option.map_none,Option.getD_none,Option.isSome_none])
      exact bodyPost_ret (v:=refRes none) (by simp [results,Tryz.results138,go_sem,refRes,refAgg]) rfl ⟨rfl,by repeat (first | exact Below.refl _ _ | refine Below.alloc ?_ (by simp <;> omega) _)⟩
    | some r =>
      rw [hq] at HD
      clear hq
      go_enter Tryz.func138,Tryz.ntmps138
      go_wp2_with (go_at_call 137;refine (unhide HD _).mono ?_;rintro e w1 ⟨rfl,rfl⟩;simp only [refRes,refAgg,Option.map_some,Option.getD_some,Option.isSome_some])
      exact bodyPost_ret (v:=refRes (some r)) (by simp [results,Tryz.results138,go_sem,refRes,refAgg]) rfl ⟨rfl,by repeat (first | exact Below.refl _ _ | refine Below.alloc ?_ (by simp <;> omega) _)⟩
  · have he' : (b != 59)=false:=by simp at he ⊢;exact he
    cases hi:Mk.isChar c
    · have hm:Mk.digitOrEnd c b base place=none:=by simp [Mk.digitOrEnd,he,hi]
      rw [hm]
      clear hm
      go_enter Tryz.func138,Tryz.ntmps138
      go_wp2_with (go_at_call 132;refine (isChar_any _ _).mono ?_;rintro e w1 ⟨rfl,rfl⟩)
      exact bodyPost_ret (v:=refRes none) (by simp [results,Tryz.results138,go_sem,refRes,refAgg]) rfl ⟨rfl,by repeat (first | exact Below.refl _ _ | refine Below.alloc ?_ (by simp <;> omega) _)⟩
    · have hm:Mk.digitOrEnd c b base place=some ⟨7,[],c⟩:=by simp [Mk.digitOrEnd,he,hi]
      rw [hm]
      clear hm
      go_enter Tryz.func138,Tryz.ntmps138
      go_wp2_with (go_at_call 132;refine (isChar_any _ _).mono ?_;rintro e w1 ⟨rfl,rfl⟩)
      exact bodyPost_ret (v:=refRes (some ⟨7,[],c⟩)) (by simp [results,Tryz.results138,go_sem,refRes,refAgg]) rfl ⟨rfl,by repeat (first | exact Below.refl _ _ | refine Below.alloc ?_ (by simp <;> omega) _)⟩
structure Gl (w:World):Prop where
  names:∀ i,w.cell? ⟨5,i,none⟩=(Mk.refNames.map fun p=>Value.string ⟨p.1.toArray⟩)[i]?
  named:∀ i,w.cell? ⟨6,i,none⟩=(Mk.refNames.map fun p=>Value.int .i64 p.2)[i]?
theorem Gl.below {w w' : World} (h:Gl w) (hs:6<w.heap.size) (hb:Below w.heap.size w w'):Gl w' :=
  ⟨fun i=>(hb.cell (p:=⟨5,i,none⟩) (by show 5<_;omega)).trans (h.names i),fun i=>(hb.cell (p:=⟨6,i,none⟩) hs).trans (h.named i)⟩
theorem letter_step (name:Bs) (k:Nat) (hk:k<5):∃ x c,(Mk.refNames.map fun p=>Value.string ⟨p.1.toArray⟩)[k]? = some (.string ⟨x.toArray⟩)∧(Mk.refNames.map fun p=>Value.int .i64 p.2)[k]? = some (.int .i64 c)∧x.length≤5 ∧
    Mk.letterIn name (Mk.refNames.drop k)=if x=name then some ⟨7,[],c⟩ else if name.isPrefixOf x then some ⟨2,name,0⟩ else Mk.letterIn name (Mk.refNames.drop (k + 1)):=by
  match k,hk with
  | 0,_=>exact ⟨_,_,rfl,rfl,by decide,rfl⟩
  | 1,_=>exact ⟨_,_,rfl,rfl,by decide,rfl⟩
  | 2,_=>exact ⟨_,_,rfl,rfl,by decide,rfl⟩
  | 3,_=>exact ⟨_,_,rfl,rfl,by decide,rfl⟩
  | 4,_=>exact ⟨_,_,rfl,rfl,by decide,rfl⟩
theorem conv_one (b:Int) (h0:0≤b) (h1:b≤255) (g:Nat) (W:World) (h:W.cell? ⟨g,0,none⟩=some (.int .u8 b)) :
    (convert 54 9 (.slice (some ⟨g,0,none⟩) 1 1)).run Tryz.prog W = .ok (.string ⟨[Mk.u8 b].toArray⟩) W:=by
  refine run_convert_bytes_back W _ _ _ _ _ [Mk.u8 b] Tryz.underlying54 Tryz.underlying5 Tryz.underlying9 fun j hj => ?_
  have:j=0:=by simpa using hj
  subst this
  have e:((Mk.u8 b).toNat:Int)=b:=by
    unfold Mk.u8
    rw [UInt8.toNat_ofNat']
    omega
  simpa [Addr.add,e] using h
set_option maxHeartbeats 1000000 in
set_option maxRecDepth 100000 in
theorem letter_any (p:Int) (n:Bs) (c b:Int) (h0:0≤b) (h1:b≤255) (hn:n.length≤20) (w:World) (hG:Gl w) (hs:6<w.heap.size) :
    Calls Tryz.prog 136 #[.agg #[.int .i64 p,.string ⟨n.toArray⟩,.int .i64 c],.int .u8 b] w fun e w' => e = .returned (refRes (Mk.letter n b))∧Below w.heap.size w w' := by
  obtain ⟨g1,g2⟩:=hG
  have hs0:5<w.heap.size:=by omega
  have ha1:∀ o1 o2 o3 j,(((w.alloc o1).alloc o2).alloc o3).cell? ⟨5,j,none⟩=w.cell? ⟨5,j,none⟩:=fun o1 o2 o3 j=>by
    simp only [World.cell?];rw [Below.heap_alloc _ _ _ (by simp <;> omega),Below.heap_alloc _ _ _ (by simp <;> omega),Below.heap_alloc _ _ _ (by omega)]
  have ha2:∀ o1 o2 o3 j,(((w.alloc o1).alloc o2).alloc o3).cell? ⟨6,j,none⟩=w.cell? ⟨6,j,none⟩:=fun o1 o2 o3 j=>by
    simp only [World.cell?];rw [Below.heap_alloc _ _ _ (by simp <;> omega),Below.heap_alloc _ _ _ (by simp <;> omega),Below.heap_alloc _ _ _ (by omega)]
  have hs00:0<w.heap.size:=by omega
  have hs01:1<w.heap.size:=by omega
  obtain ⟨r,hr⟩:∃ r,Mk.letter n b=r:=⟨_,rfl⟩
  rw [hr]
  obtain ⟨nm,hnm⟩:∃ nm,n ++ [Mk.u8 b]=nm:=⟨_,rfl⟩
  have happ:(⟨n.toArray⟩:ByteArray) ++ (⟨#[Mk.u8 b]⟩:ByteArray)=⟨nm.toArray⟩:=by
    rw [← hnm]
    apply ByteArray.ext
    simp
  have hln:nm.length≤21:=by rw [← hnm];simp;omega
  unfold Mk.letter at hr
  rw [hnm] at hr
  have HR:=hide hr
  clear hr hnm
  have hcv:=conv_one b h0 h1 (w.heap.size + 1 + 1) (((w.alloc (.cells #[.int .i64 p,.string ⟨n.toArray⟩,.int .i64 c] 101)).alloc (.cells #[.int .i64 0,.string ⟨#[]⟩,.int .i64 0] 101)).alloc (.cells #[.int .u8 b] 5)) (by simp [go_sem])
  go_enter Tryz.func136,Tryz.ntmps136
  go_wp2
  go_loop [7] (fun i=>∃ k:Nat,k≤5∧i = .int .i64 k∧Hid (r=Mk.letterIn nm (Mk.refNames.drop k))) (fun i=>5 - (intOf i).toNat)
  case atStart=>exact ⟨0,by omega,rfl,(unhide HR).symm⟩
  case round =>
    obtain ⟨k,hk,rfl,HK⟩:=hrel
    by_cases hlt:k<5
    · obtain ⟨x,cd,q1,q2,q3,q4⟩:=letter_step nm k hlt
      have c1:=g1 k
      have c2:=g2 k
      rw [q1] at c1
      rw [q2] at c2
      rw [← unhide HK] at q4
      have HQ:=hide q4
      have HB:=hide (fun w=>begins_any x nm (by omega) (by omega) w)
      clear q1 q2 q4 hcv g1 g2 HR HK
      cases h3:(x == nm)
      · cases h4:nm.isPrefixOf x
        · rw [h4] at HB
          go_wp2_with (go_at_call 131;refine (unhide HB _).mono ?_;rintro e w' ⟨rfl,rfl⟩)
          go_round
          case rel=>exact ⟨k + 1,by omega,by go_num,by have:=unhide HQ;rw [if_neg (by simpa using h3),if_neg (by simp [h4])] at this;exact this⟩
          case measure=>simp [intOf];omega
        · rw [h4] at HB
          go_wp2_with (go_at_call 131;refine (unhide HB _).mono ?_;rintro e w' ⟨rfl,rfl⟩)
          have hq:=unhide HQ
          rw [if_neg (by simpa using h3),if_pos h4] at hq
          subst hq
          exact bodyPost_ret (v:=refRes (some ⟨2,nm,0⟩)) (by simp [results,Tryz.results136,go_sem,refRes,refAgg]) rfl ⟨rfl,by repeat (first | exact Below.refl _ _ | refine Below.alloc ?_ (by simp <;> omega) _)⟩
      · go_wp2
        have hq:=unhide HQ
        rw [if_pos (by simpa using h3)] at hq
        subst hq
        exact bodyPost_ret (v:=refRes (some ⟨7,[],cd⟩)) (by simp [results,Tryz.results136,go_sem,refRes,refAgg]) rfl ⟨rfl,by repeat (first | exact Below.refl _ _ | refine Below.alloc ?_ (by simp <;> omega) _)⟩
    · have hk5:k=5:=by omega
      have hq:r=none:=by have:=unhide HK;rw [hk5] at this;exact this
      subst hq
      clear HK HR g1 g2 hk5
      go_wp2
      exact bodyPost_ret (v:=refRes none) (by simp [results,Tryz.results136,go_sem,refRes,refAgg]) rfl ⟨rfl,by repeat (first | exact Below.refl _ _ | refine Below.alloc ?_ (by simp <;> omega) _)⟩
theorem bcell {W w1:World} (hb:Below W.heap.size W w1):(∀ b o,b<W.heap.size→w1.cell? ⟨b,o,none⟩=W.cell? ⟨b,o,none⟩)∧(∀ b o,b<W.heap.size→w1.frozen? ⟨b,o,none⟩=W.frozen? ⟨b,o,none⟩):=
  ⟨fun b o h=>hb.cell (p:=⟨b,o,none⟩) h,fun b o h=>hb.frozen (p:=⟨b,o,none⟩) h⟩
set_option maxHeartbeats 2000000 in
set_option maxRecDepth 100000 in
theorem refNext_any (p:Int) (n:Bs) (c b:Int) (h0:0≤b) (h1:b≤255) (hn:n.length≤20) (c0:0≤c) (c1:c≤1114111) (w:World) (hG:Gl w) (hs:6<w.heap.size) :
    Calls Tryz.prog 110 #[.agg #[.int .i64 p,.string ⟨n.toArray⟩,.int .i64 c],.int .u8 b] w fun e w' => e = .returned (refRes (Mk.refNext ⟨p,n,c⟩ b))∧Below w.heap.size w w' := by
  have hbl:Below w.heap.size w ((w.alloc (.cells #[.int .i64 p,.string ⟨n.toArray⟩,.int .i64 c] 101)).alloc (.cells #[.int .i64 0,.string ⟨#[]⟩,.int .i64 0] 101)):=((Below.refl _ _).alloc (Nat.le_refl _) _).alloc (by simp) _
  have HBL:=hide hbl
  have HL:=hide (letter_any p n c b h0 h1 hn _ (hG.below hs hbl) (by simp <;> omega))
  have HD:=hide (fun base place hb w=>refDigit_any p n c b base place h0 h1 c0 c1 hb w)
  have HE:=hide (fun base place hb w=>digitOrEnd_any p n c b base place h0 h1 c0 c1 hb w)
  clear hG hbl
  by_cases p1:p=1
  · subst p1
    cases he:(b == 35)
    · have hm:Mk.refNext ⟨1,n,c⟩ b=Mk.letter n b:=by simp [Mk.refNext,he]
      rw [hm]
      clear hm HD HE
      generalize Mk.letter n b=o at *
      go_enter Tryz.func110,Tryz.ntmps110
      go_wp2_with (go_at_call 136;refine (unhide HL).mono ?_;rintro e w1 ⟨rfl,hb⟩;have HB:=hide hb;obtain ⟨hc,hf⟩:=bcell hb;have hz:=hb.size;simp at hz;clear hb;simp only [refRes,refAgg])
      exact bodyPost_ret (v:=refRes o) (by simp [results,Tryz.results110,go_sem,refRes,refAgg,hc,hz]) rfl ⟨rfl,((((unhide HBL).trans ((unhide HB).mono (by simp <;> omega))).setCell (by simp) _).setCell (by simp) _).setCell (by simp) _⟩
    · have hm:Mk.refNext ⟨1,n,c⟩ b=some ⟨3,[],0⟩:=by simp [Mk.refNext,he]
      rw [hm]
      clear hm HD HE HL
      go_enter Tryz.func110,Tryz.ntmps110
      go_wp2
      exact bodyPost_ret (v:=refRes (some ⟨3,[],0⟩)) (by simp [results,Tryz.results110,go_sem,refRes,refAgg]) rfl ⟨rfl,by repeat (first | exact Below.refl _ _ | refine Below.alloc ?_ (by simp <;> omega) _)⟩
  have e1:(p == 1)=false:=by rw [beq_eq_false_iff_ne];exact p1
  clear p1
  by_cases p1:p=2
  · subst p1
    · have hm:Mk.refNext ⟨2,n,c⟩ b=Mk.letter n b:=by simp [Mk.refNext]
      rw [hm]
      clear hm HD HE
      generalize Mk.letter n b=o at *
      go_enter Tryz.func110,Tryz.ntmps110
      go_wp2_with (go_at_call 136;refine (unhide HL).mono ?_;rintro e w1 ⟨rfl,hb⟩;have HB:=hide hb;obtain ⟨hc,hf⟩:=bcell hb;have hz:=hb.size;simp at hz;clear hb;simp only [refRes,refAgg])
      exact bodyPost_ret (v:=refRes o) (by simp [results,Tryz.results110,go_sem,refRes,refAgg,hc,hz]) rfl ⟨rfl,((((unhide HBL).trans ((unhide HB).mono (by simp <;> omega))).setCell (by simp) _).setCell (by simp) _).setCell (by simp) _⟩
  have e2:(p == 2)=false:=by rw [beq_eq_false_iff_ne];exact p1
  clear p1 HL
  by_cases p1:p=3
  · subst p1
    cases he:(b == 120)
    · have hm:Mk.refNext ⟨3,n,c⟩ b=Mk.refDigit c b 10 5:=by simp [Mk.refNext,he]
      rw [hm]
      have HD' := hide (fun w=>(unhide HD) 10 5 (.inl rfl) w)
      clear hm HD HE
      generalize Mk.refDigit c b 10 5=o at *
      go_enter Tryz.func110,Tryz.ntmps110
      go_wp2_with (go_at_call 137;refine (unhide HD' _).mono ?_;rintro e w1 ⟨rfl,rfl⟩;simp only [refRes,refAgg])
      exact bodyPost_ret (v:=refRes o) (by simp [results,Tryz.results110,go_sem,refRes,refAgg]) rfl ⟨rfl,by repeat (first | exact Below.refl _ _ | refine Below.alloc ?_ (by simp <;> omega) _)⟩
    · have hm:Mk.refNext ⟨3,n,c⟩ b=some ⟨4,[],0⟩:=by simp [Mk.refNext,he]
      rw [hm]
      clear hm HD HE
      go_enter Tryz.func110,Tryz.ntmps110
      go_wp2
      exact bodyPost_ret (v:=refRes (some ⟨4,[],0⟩)) (by simp [results,Tryz.results110,go_sem,refRes,refAgg]) rfl ⟨rfl,by repeat (first | exact Below.refl _ _ | refine Below.alloc ?_ (by simp <;> omega) _)⟩
  have e3:(p == 3)=false:=by rw [beq_eq_false_iff_ne];exact p1
  clear p1
  by_cases p1:p=5
  · subst p1
    · have hm:Mk.refNext ⟨5,n,c⟩ b=Mk.digitOrEnd c b 10 5:=by simp [Mk.refNext]
      rw [hm]
      have HE' := hide (fun w=>(unhide HE) 10 5 (.inl rfl) w)
      clear hm HD HE
      generalize Mk.digitOrEnd c b 10 5=o at *
      go_enter Tryz.func110,Tryz.ntmps110
      go_wp2_with (go_at_call 138;refine (unhide HE' _).mono ?_;rintro e w1 ⟨rfl,hb⟩;have HB:=hide hb;obtain ⟨hc,hf⟩:=bcell hb;have hz:=hb.size;simp at hz;clear hb;simp only [refRes,refAgg])
      exact bodyPost_ret (v:=refRes o) (by simp [results,Tryz.results110,go_sem,refRes,refAgg,hc,hz]) rfl ⟨rfl,((((unhide HBL).trans ((unhide HB).mono (by simp <;> omega))).setCell (by simp) _).setCell (by simp) _).setCell (by simp) _⟩
  have e5:(p == 5)=false:=by rw [beq_eq_false_iff_ne];exact p1
  clear p1
  by_cases p1:p=4
  · subst p1
    · have hm:Mk.refNext ⟨4,n,c⟩ b=Mk.refDigit c b 16 6:=by simp [Mk.refNext]
      rw [hm]
      have HD' := hide (fun w=>(unhide HD) 16 6 (.inr rfl) w)
      clear hm HD HE
      generalize Mk.refDigit c b 16 6=o at *
      go_enter Tryz.func110,Tryz.ntmps110
      go_wp2_with (go_at_call 137;refine (unhide HD' _).mono ?_;rintro e w1 ⟨rfl,rfl⟩;simp only [refRes,refAgg])
      exact bodyPost_ret (v:=refRes o) (by simp [results,Tryz.results110,go_sem,refRes,refAgg]) rfl ⟨rfl,by repeat (first | exact Below.refl _ _ | refine Below.alloc ?_ (by simp <;> omega) _)⟩
  have e4:(p == 4)=false:=by rw [beq_eq_false_iff_ne];exact p1
  clear p1 HD
  by_cases p1:p=6
  · subst p1
    · have hm:Mk.refNext ⟨6,n,c⟩ b=Mk.digitOrEnd c b 16 6:=by simp [Mk.refNext]
      rw [hm]
      have HE' := hide (fun w=>(unhide HE) 16 6 (.inr rfl) w)
      clear hm HE
      generalize Mk.digitOrEnd c b 16 6=o at *
      go_enter Tryz.func110,Tryz.ntmps110
      go_wp2_with (go_at_call 138;refine (unhide HE' _).mono ?_;rintro e w1 ⟨rfl,hb⟩;have HB:=hide hb;obtain ⟨hc,hf⟩:=bcell hb;have hz:=hb.size;simp at hz;clear hb;simp only [refRes,refAgg])
      exact bodyPost_ret (v:=refRes o) (by simp [results,Tryz.results110,go_sem,refRes,refAgg,hc,hz]) rfl ⟨rfl,((((unhide HBL).trans ((unhide HB).mono (by simp <;> omega))).setCell (by simp) _).setCell (by simp) _).setCell (by simp) _⟩
  have e6:(p == 6)=false:=by rw [beq_eq_false_iff_ne];exact p1
  clear p1 HE
  have hm:Mk.refNext ⟨p,n,c⟩ b=none:=by simp [Mk.refNext,e1,e2,e3,e4,e5,e6]
  rw [hm]
  clear hm
  go_enter Tryz.func110,Tryz.ntmps110
  go_wp2
  exact bodyPost_ret (v:=refRes none) (by simp [results,Tryz.results110,go_sem,refRes,refAgg]) rfl ⟨rfl,by repeat (first | exact Below.refl _ _ | refine Below.alloc ?_ (by simp <;> omega) _)⟩
end Go.Proofs.YtmgfijllcdadgabGreatDoor
