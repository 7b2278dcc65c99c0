/- Chars, Parts -/
import Derived.Test.YtmgfijllcdadgabGreatDoorProg
import Derived.Test.YtmgfijllcdadgabGreatDoorPM00
import Derived.WalkKit
import Derived.WalkSpells
set_option linter.unusedVariables false
set_option linter.unusedSimpArgs false
namespace Go.Proofs.YtmgfijllcdadgabGreatDoor
open Go.RowKit
theorem hide {p:Prop} (h:p):Hid p:=h
theorem unhide {p:Prop} (h:Hid p):p:=h
theorem retB {a b:Bool} (h:a=b):Ending.returned (.bool a) = .returned (.bool b):=by rw [h]
theorem isSpace_any (b:Int) (w:World):Calls Tryz.prog 113 #[.int .u8 b] w fun e w' => e = .returned (.bool (Mk.isSpace b))∧w' = w:=by
  go_enter Tryz.func113,Tryz.ntmps113
  go_wp2
  all_goals (go_ret;exact ⟨retB (by rw [Bool.eq_iff_iff];simp [Mk.isSpace];try omega),rfl⟩)
theorem isLetter_any (b:Int) (w:World):Calls Tryz.prog 161 #[.int .u8 b] w fun e w' => e = .returned (.bool (Mk.isLetter b))∧w' = w:=by
  go_enter Tryz.func161,Tryz.ntmps161
  go_wp2
  all_goals (go_ret;exact ⟨retB (by rw [Bool.eq_iff_iff];simp [Mk.isLetter];try omega),rfl⟩)
theorem beginsName_any (b:Int) (w:World):Calls Tryz.prog 145 #[.int .u8 b] w fun e w' => e = .returned (.bool (Mk.beginsName b))∧w' = w:=by
  go_enter Tryz.func145,Tryz.ntmps145
  go_wp2
  all_goals (go_ret;exact ⟨retB (by rw [Bool.eq_iff_iff];simp [Mk.isLetter,Mk.beginsName];try omega),rfl⟩)
theorem inName_any (b:Int) (w:World):Calls Tryz.prog 147 #[.int .u8 b] w fun e w' => e = .returned (.bool (Mk.inName b))∧w' = w:=by
  go_enter Tryz.func147,Tryz.ntmps147
  go_wp2
  all_goals (go_ret;exact ⟨retB (by rw [Bool.eq_iff_iff];simp [Mk.isLetter,Mk.beginsName,Mk.inName,Mk.isDigit];try omega),rfl⟩)
theorem isChar_any (c:Int) (w:World):Calls Tryz.prog 132 #[.int .i64 c] w fun e w' => e = .returned (.bool (Mk.isChar c))∧w' = w:=by
  go_enter Tryz.func132,Tryz.ntmps132
  go_wp2
  all_goals (go_ret;exact ⟨retB (by rw [Bool.eq_iff_iff];unfold Mk.isChar;repeat' split <;> simp <;> try omega),rfl⟩)
theorem encode_any (c:Int) (h0:0≤c) (h1:c≤1114111) (w:World) :
    Calls Tryz.prog 139 #[.int .i64 c] w fun e w' => e = .returned (.slice (some ⟨w.heap.size,0,none⟩) (Mk.encodeI c).length (Mk.encodeI c).length)∧w' = w.alloc (.cells ((Mk.encodeI c).map (Value.int .u8)).toArray 5):=by
  go_enter Tryz.func139,Tryz.ntmps139
  go_wp2
  all_goals (go_ret;unfold Mk.encodeI;repeat (first | rw [if_pos (by omega)] | rw [if_neg (by omega)]))
  all_goals exact ⟨rfl,rfl⟩
theorem ret2 {k:IntKind} {a a' : Int} {b b' : Bool} (h:a=a') (h' : b=b'):Ending.returned (.tuple #[.int k a,.bool b]) = .returned (.tuple #[.int k a', .bool b']):=by rw [h,h']
theorem digit_any (b:Int) (base:Int) (h0:0≤b) (h1:b≤255) (_hb:0≤base) (_hb' : base≤16) (w:World):Calls Tryz.prog 159 #[.int .u8 b,.int .i64 base] w fun e w' =>
    e = .returned (.tuple #[.int .i64 ((Mk.digit b base).getD 0),.bool (Mk.digit b base).isSome])∧w' = w:=by
  go_enter Tryz.func159,Tryz.ntmps159
  go_wp2
  all_goals (go_ret2;refine ⟨ret2 ?_ ?_,rfl⟩)
  all_goals simp only [Mk.digit,Mk.digitVal,Mk.isDigit,Bool.and_eq_true,decide_eq_true_eq]
  all_goals (repeat' split) <;> simp <;> omega
theorem begin_any (b:Int) (h0:0≤b) (h1:b≤255) (w:World):Calls Tryz.prog 141 #[.int .u8 b] w fun e w' =>
    e = .returned (.tuple #[.agg #[.int .i64 ((Mk.begin_ b).getD (0,0)).1,.int .i64 ((Mk.begin_ b).getD (0,0)).2],.bool (Mk.begin_ b).isSome])∧Below w.heap.size w w' := by
  by_cases h:b<128
  · cases hi:Mk.isChar b
    · have hm:Mk.begin_ b=none:=by unfold Mk.begin_;rw [if_neg (by simp [hi]),if_neg (by omega),if_neg (by omega),if_neg (by omega)]
      rw [hm]
      go_enter Tryz.func141,Tryz.ntmps141
      go_wp2_with (go_at_call 132;refine (isChar_any _ _).mono ?_;rintro e w' ⟨rfl,rfl⟩)
      exact bodyPost_ret (v:=.tuple #[.agg #[.int .i64 0,.int .i64 0],.bool false]) (by simp [results,Tryz.results141,go_sem]) rfl ⟨rfl,(Below.refl _ _).alloc (Nat.le_refl _) _⟩
    · have hm:Mk.begin_ b=some (b,0):=by unfold Mk.begin_;rw [if_pos ⟨h,hi⟩]
      rw [hm]
      go_enter Tryz.func141,Tryz.ntmps141
      go_wp2_with (go_at_call 132;refine (isChar_any _ _).mono ?_;rintro e w' ⟨rfl,rfl⟩)
      exact bodyPost_ret (v:=.tuple #[.agg #[.int .i64 b,.int .i64 0],.bool true]) (by simp [results,Tryz.results141,go_sem]) rfl ⟨rfl,(Below.refl _ _).alloc (Nat.le_refl _) _⟩
  · obtain ⟨m,hm⟩:∃ m,Mk.begin_ b=m:=⟨_,rfl⟩
    rcases (by omega:(194≤b∧b≤223)∨(224≤b∧b≤239)∨(240≤b∧b≤244)∨(128≤b∧b<194)∨244<b) with ⟨g1,g2⟩ | ⟨g1,g2⟩ | ⟨g1,g2⟩ | ⟨g1,g2⟩ | g1
    · have hm:Mk.begin_ b=some (b - 192,1):=by unfold Mk.begin_;rw [if_neg (by omega),if_pos (by omega)]
      rw [hm]
      go_enter Tryz.func141,Tryz.ntmps141
      go_wp2
      exact bodyPost_ret (v:=.tuple #[.agg #[.int .i64 (b - 192),.int .i64 1],.bool true]) (by simp [results,Tryz.results141,go_sem]) rfl ⟨rfl,(Below.refl _ _).alloc (Nat.le_refl _) _⟩
    · have hm:Mk.begin_ b=some (b - 224,2):=by unfold Mk.begin_;rw [if_neg (by omega),if_neg (by omega),if_pos (by omega)]
      rw [hm]
      go_enter Tryz.func141,Tryz.ntmps141
      go_wp2
      exact bodyPost_ret (v:=.tuple #[.agg #[.int .i64 (b - 224),.int .i64 2],.bool true]) (by simp [results,Tryz.results141,go_sem]) rfl ⟨rfl,(Below.refl _ _).alloc (Nat.le_refl _) _⟩
    · have hm:Mk.begin_ b=some (b - 240,3):=by unfold Mk.begin_;rw [if_neg (by omega),if_neg (by omega),if_neg (by omega),if_pos (by omega)]
      rw [hm]
      go_enter Tryz.func141,Tryz.ntmps141
      go_wp2
      exact bodyPost_ret (v:=.tuple #[.agg #[.int .i64 (b - 240),.int .i64 3],.bool true]) (by simp [results,Tryz.results141,go_sem]) rfl ⟨rfl,(Below.refl _ _).alloc (Nat.le_refl _) _⟩
    · have hm:Mk.begin_ b=none:=by unfold Mk.begin_;rw [if_neg (by omega),if_neg (by omega),if_neg (by omega),if_neg (by omega)]
      rw [hm]
      go_enter Tryz.func141,Tryz.ntmps141
      go_wp2
      all_goals exact bodyPost_ret (v:=.tuple #[.agg #[.int .i64 0,.int .i64 0],.bool false]) (by simp [results,Tryz.results141,go_sem]) rfl ⟨rfl,(Below.refl _ _).alloc (Nat.le_refl _) _⟩
    · have hm:Mk.begin_ b=none:=by unfold Mk.begin_;rw [if_neg (by omega),if_neg (by omega),if_neg (by omega),if_neg (by omega)]
      rw [hm]
      go_enter Tryz.func141,Tryz.ntmps141
      go_wp2
      all_goals exact bodyPost_ret (v:=.tuple #[.agg #[.int .i64 0,.int .i64 0],.bool false]) (by simp [results,Tryz.results141,go_sem]) rfl ⟨rfl,(Below.refl _ _).alloc (Nat.le_refl _) _⟩
theorem canEnd_any (c l:Int) (w:World):Calls Tryz.prog 130 #[.agg #[.int .i64 c,.int .i64 l]] w fun e w' =>
    e = .returned (.bool (Mk.canEnd c l))∧w' = w.alloc (.cells #[.int .i64 c,.int .i64 l] 99):=by
  go_enter Tryz.func130,Tryz.ntmps130
  go_wp2_with (go_at_call 132;refine (isChar_any _ _).mono ?_;rintro e w' ⟨rfl,rfl⟩)
  all_goals (go_ret;refine ⟨retB ?_,rfl⟩)
  all_goals (unfold Mk.canEnd;simp_all)
  all_goals omega
theorem next_any (c l b:Int) (h0:0≤b) (h1:b≤255) (c0:0≤c) (c1:c≤2097151) (l0:0≤l) (l1:l≤3) (w:World):Calls Tryz.prog 98 #[.agg #[.int .i64 c,.int .i64 l],.int .u8 b] w fun e w' =>
    e = .returned (.tuple #[.agg #[.int .i64 ((Mk.nextPart c l b).getD (0,0)).1,.int .i64 ((Mk.nextPart c l b).getD (0,0)).2],.bool (Mk.nextPart c l b).isSome])∧Below w.heap.size w w' := by
  by_cases h:b<128∨191<b
  · have hm:Mk.nextPart c l b=none:=by unfold Mk.nextPart;rw [if_pos h]
    rw [hm]
    clear hm
    rcases h with h | h
    all_goals
      go_enter Tryz.func98,Tryz.ntmps98
      go_wp2
      exact bodyPost_ret (v:=.tuple #[.agg #[.int .i64 0,.int .i64 0],.bool false]) (by simp [results,Tryz.results98,go_sem]) rfl ⟨rfl,((Below.refl _ _).alloc (Nat.le_refl _) _).alloc (by simp) _⟩
  · have g1:128≤b:=by omega
    have g2:b≤191:=by omega
    cases hc:Mk.canEnd (c * 64 + b - 128) (l - 1)
    · have hm:Mk.nextPart c l b=none:=by unfold Mk.nextPart;rw [if_neg h,hc];rfl
      rw [hm]
      clear hm h
      go_enter Tryz.func98,Tryz.ntmps98
      go_wp2_with (go_at_call 130;refine (canEnd_any _ _ _).mono ?_;rintro e w' ⟨rfl,rfl⟩)
      exact bodyPost_ret (v:=.tuple #[.agg #[.int .i64 0,.int .i64 0],.bool false]) (by simp [results,Tryz.results98,go_sem]) rfl ⟨rfl,((((Below.refl _ _).alloc (Nat.le_refl _) _).alloc (by simp) _).alloc (by simp;omega) _).alloc (by simp;omega) _⟩
    · have hm:Mk.nextPart c l b=some (c * 64 + b - 128,l - 1):=by unfold Mk.nextPart;rw [if_neg h,hc];rfl
      rw [hm]
      clear hm h
      go_enter Tryz.func98,Tryz.ntmps98
      go_wp2_with (go_at_call 130;refine (canEnd_any _ _ _).mono ?_;rintro e w' ⟨rfl,rfl⟩)
      exact bodyPost_ret (v:=.tuple #[.agg #[.int .i64 (c * 64 + b - 128),.int .i64 (l - 1)],.bool true]) (by simp [results,Tryz.results98,go_sem]) rfl ⟨rfl,((((Below.refl _ _).alloc (Nat.le_refl _) _).alloc (by simp) _).alloc (by simp;omega) _).alloc (by simp;omega) _⟩
end Go.Proofs.YtmgfijllcdadgabGreatDoor
