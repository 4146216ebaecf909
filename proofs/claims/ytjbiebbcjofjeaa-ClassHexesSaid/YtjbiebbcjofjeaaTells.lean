/- The law ClassTells, walked. -/
import Derived.Test.YtjbiebbcjofjeaaHex
namespace Go.Proofs.Ytjbiebbcjofjeaa
open Go.RowKit Go.Lib

theorem lowerZ_bd {x : Int} (h1 : -2147483648 ≤ x) (h2 : x ≤ 2147483647) : -2147483648 ≤ lowerZ x ∧ lowerZ x ≤ 2147483647 := by
  rcases lower_cases x with ⟨a, b, e⟩ | ⟨a, e⟩ <;> rw [e] <;> omega
theorem hexZ_bd (x : Int) : -1 ≤ hexZ x ∧ hexZ x < 16 := by
  cases h : digitZ x
  · by_cases h2 : 97 ≤ lowerZ x ∧ lowerZ x ≤ 102
    · rw [hex_low h h2]; omega
    · rw [hex_none h h2]; omega
  · rw [hex_digit h]; have := digit_true h; omega

theorem below_two {a b c : World} (h1 : Below a.heap.size a b) (h2 : Below b.heap.size b c) : Below a.heap.size a c := h1.trans (h2.mono h1.size)

set_option maxHeartbeats 1000000 in
set_option maxRecDepth 100000 in
theorem classTells_walk (c : Int) (w : World) (hc1 : -2147483648 ≤ c) (hc2 : c ≤ 2147483647) :
    Calls Try.prog 3 #[.int .i32 c] w fun e w' => e = .returned (.bool true) ∧ Below w.heap.size w w' := by
  go_enter Try.func3, Try.ntmps3
  go_wp2_with fail
  refine (speaks_any w).mono ?_
  rintro e w1 ⟨rfl, hb1⟩
  go_wp2
  go_loopw [3] (fun v wr => (∃ i : Int, v = .int .i64 i ∧ -1 ≤ i ∧ i ≤ 257) ∧ w1 = wr) (fun v _ => (257 - RowKit.intOf v).toNat)
  case atStart => exact ⟨⟨-1, rfl, by omega, by omega⟩, rfl⟩
  case round =>
    obtain ⟨⟨i, rfl, hlo, hhi⟩, rfl⟩ := hrel
    by_cases hlt : i ≤ 256
    · by_cases heq : i = 256
      · subst heq
        have hH := hex_any c w1
        unfold HexRes at hH
        have hl := lowerZ_bd hc1 hc2
        have hx := hexZ_bd c
        go_wp2_with fail
        refine hH.mono ?_
        rintro e w' ⟨rfl, rfl⟩
        go_wp2_with fail
        refine (blank_any c w1).mono ?_
        rintro e w' ⟨rfl, rfl⟩
        go_wp2_with fail
        refine (refBlank_any c w1).mono ?_
        rintro e w' ⟨rfl, rfl⟩
        go_wp2_with fail
        refine (letter_any c w1).mono ?_
        rintro e w' ⟨rfl, rfl⟩
        go_wp2_with fail
        refine (refLetter_any c w1).mono ?_
        rintro e w' ⟨rfl, rfl⟩
        go_wp2_with fail
        refine (digit_any c w1).mono ?_
        rintro e w' ⟨rfl, rfl⟩
        go_wp2_with fail
        refine (refDigit_any c w1).mono ?_
        rintro e w' ⟨rfl, rfl⟩
        go_wp2_with fail
        refine (lower_any c w1).mono ?_
        rintro e w' ⟨rfl, rfl⟩
        go_wp2_with fail
        refine (refLower_any c w1).mono ?_
        rintro e w' ⟨rfl, rfl⟩
        go_wp2_with fail
        refine (refHex_any c w1 hc1).mono ?_
        rintro e w' ⟨rfl, rfl⟩
        go_wp2_with fail
        refine (refHex_any c w1 hc1).mono ?_
        rintro e w' ⟨rfl, rfl⟩
        go_wp2
        exact ⟨⟨⟨257, rfl, by omega, by omega⟩, trivial⟩, by decide⟩
      · have heq' : ((i : Int) == 256) = false := by simpa using heq
        clear heq
        have hH := hex_any i w1
        unfold HexRes at hH
        have hl := lowerZ_bd (x := i) (by omega) (by omega)
        have hx := hexZ_bd i
        go_wp2_with fail
        refine hH.mono ?_
        rintro e w' ⟨rfl, rfl⟩
        go_wp2_with fail
        refine (blank_any i w1).mono ?_
        rintro e w' ⟨rfl, rfl⟩
        go_wp2_with fail
        refine (refBlank_any i w1).mono ?_
        rintro e w' ⟨rfl, rfl⟩
        go_wp2_with fail
        refine (letter_any i w1).mono ?_
        rintro e w' ⟨rfl, rfl⟩
        go_wp2_with fail
        refine (refLetter_any i w1).mono ?_
        rintro e w' ⟨rfl, rfl⟩
        go_wp2_with fail
        refine (digit_any i w1).mono ?_
        rintro e w' ⟨rfl, rfl⟩
        go_wp2_with fail
        refine (refDigit_any i w1).mono ?_
        rintro e w' ⟨rfl, rfl⟩
        go_wp2_with fail
        refine (lower_any i w1).mono ?_
        rintro e w' ⟨rfl, rfl⟩
        go_wp2_with fail
        refine (refLower_any i w1).mono ?_
        rintro e w' ⟨rfl, rfl⟩
        go_wp2_with fail
        refine (refHex_any i w1 (by omega)).mono ?_
        rintro e w' ⟨rfl, rfl⟩
        go_wp2_with fail
        refine (refHex_any i w1 (by omega)).mono ?_
        rintro e w' ⟨rfl, rfl⟩
        go_wp2
        exact ⟨⟨⟨i + 1, rfl, by omega, by omega⟩, trivial⟩, by show (257 - (i + 1)).toNat < (257 - i).toNat; omega⟩
    · have hlt' : decide (i ≤ 256) = false := decide_eq_false hlt
      go_wp2
      go_ret
      exact ⟨rfl, hb1⟩
end Go.Proofs.Ytjbiebbcjofjeaa
