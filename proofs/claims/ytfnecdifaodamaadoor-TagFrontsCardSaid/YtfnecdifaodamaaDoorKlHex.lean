/- The digits of base 16 and the letters: class.Hex, class.Letter and the reference's. -/
import Derived.Test.YtfnecdifaodamaaDoorKlSmall
namespace Go.Proofs.YtfnecdifaodamaaDoor.Kl
open Go.RowKit Go.Lib

/-- the value of a digit of base 16, or -1 -/
def hexZ (x : Int) : Int := if digitZ x then x - 48 else if 97 ≤ x ∧ x ≤ 102 then x - 87 else if 65 ≤ x ∧ x ≤ 70 then x - 55 else -1
def letterZ (x : Int) : Bool := smallZ x || greatZ x

theorem ret_pair {a b : Int} {p q : Bool} (h1 : a = b) (h2 : p = q) : Ending.returned (.tuple #[.int .i64 a, .bool p]) = .returned (.tuple #[.int .i64 b, .bool q]) := by rw [h1, h2]
theorem ret_int {a b : Int} (h : a = b) : Ending.returned (.int .i64 a) = .returned (.int .i64 b) := by rw [h]

theorem digit_true {x : Int} (h : digitZ x = true) : 48 ≤ x ∧ x ≤ 57 := by simpa [digitZ] using h
theorem digit_false {x : Int} (h : digitZ x = false) : ¬ (48 ≤ x ∧ x ≤ 57) := by
  intro h'; rw [show digitZ x = true by simpa [digitZ] using h'] at h; cases h

theorem lower_cases (x : Int) : (65 ≤ x ∧ x ≤ 90 ∧ lowerZ x = x + 32) ∨ (¬ (65 ≤ x ∧ x ≤ 90) ∧ lowerZ x = x) := by
  by_cases h : 65 ≤ x ∧ x ≤ 90
  · exact Or.inl ⟨h.1, h.2, by simp [lowerZ, greatZ, h.1, h.2]⟩
  · refine Or.inr ⟨h, ?_⟩
    unfold lowerZ
    rw [if_neg (by simpa [greatZ] using h)]

theorem hex_low {x : Int} (h : digitZ x = false) (h2 : 97 ≤ lowerZ x ∧ lowerZ x ≤ 102) : hexZ x = lowerZ x - 97 + 10 := by
  unfold hexZ
  rw [h]
  simp only [Bool.false_eq_true, if_false]
  rcases lower_cases x with ⟨a, b, e⟩ | ⟨a, e⟩
  · rw [e] at h2 ⊢; rw [if_neg (by omega), if_pos (by omega)]; omega
  · rw [e] at h2 ⊢; rw [if_pos (by omega)]; omega
theorem hex_none {x : Int} (h : digitZ x = false) (h2 : ¬ (97 ≤ lowerZ x ∧ lowerZ x ≤ 102)) : hexZ x = -1 := by
  unfold hexZ
  rw [h]
  simp only [Bool.false_eq_true, if_false]
  rcases lower_cases x with ⟨a, b, e⟩ | ⟨a, e⟩
  · rw [e] at h2; rw [if_neg (by omega), if_neg (by omega)]
  · rw [e] at h2; rw [if_neg (by omega), if_neg (by omega)]
theorem hex_digit {x : Int} (h : digitZ x = true) : hexZ x = x - 48 := by unfold hexZ; rw [h]; rfl

def HexRes (x : Int) : Ending := .returned (.tuple #[.int .i64 (max (hexZ x) 0), .bool (decide (0 ≤ hexZ x))])

set_option maxHeartbeats 400000 in
theorem hex_any (x : Int) (w : World) :
    Calls Tryd.prog 96 #[.int .i32 x] w fun e w' => e = HexRes x ∧ w = w' := by
  have hD := digit_any x w
  have hL := lower_any x w
  cases hd : digitZ x
  · rw [hd] at hD
    by_cases h : 97 ≤ lowerZ x ∧ lowerZ x ≤ 102
    · have hv : Hid (Ending.returned (.tuple #[.int .i64 (lowerZ x - 97 + 10), .bool true]) = HexRes x) := Lib.hid (ret_pair (by rw [hex_low hd h]; omega) (by rw [hex_low hd h]; simp; omega))
      generalize lowerZ x = y at hL h hv
      obtain ⟨ha, hb⟩ := h
      clear hd
      go_enter Tryd.func96, Tryd.ntmps96
      go_wp2_with fail
      refine hD.mono ?_
      rintro e w' ⟨rfl, rfl⟩
      go_wp2_with fail
      refine hL.mono ?_
      rintro e w' ⟨rfl, rfl⟩
      go_wp2
      go_ret2
      exact ⟨hv.out, rfl⟩
    · have hv : Hid (Ending.returned (.tuple #[.int .i64 0, .bool false]) = HexRes x) := Lib.hid (ret_pair (by rw [hex_none hd h]; rfl) (by rw [hex_none hd h]; rfl))
      generalize lowerZ x = y at hL h hv
      clear hd
      by_cases ha : 97 ≤ y
      · have hb : decide (y ≤ 102) = false := decide_eq_false (fun hb => h ⟨ha, hb⟩)
        clear h
        go_enter Tryd.func96, Tryd.ntmps96
        go_wp2_with fail
        refine hD.mono ?_
        rintro e w' ⟨rfl, rfl⟩
        go_wp2_with fail
        refine hL.mono ?_
        rintro e w' ⟨rfl, rfl⟩
        go_wp2
        go_ret2
        exact ⟨hv.out, rfl⟩
      · have hb : decide (97 ≤ y) = false := decide_eq_false ha
        clear h ha
        go_enter Tryd.func96, Tryd.ntmps96
        go_wp2_with fail
        refine hD.mono ?_
        rintro e w' ⟨rfl, rfl⟩
        go_wp2_with fail
        refine hL.mono ?_
        rintro e w' ⟨rfl, rfl⟩
        go_wp2
        go_ret2
        exact ⟨hv.out, rfl⟩
  · rw [hd] at hD
    obtain ⟨ha, hb⟩ := digit_true hd
    have hv : Hid (Ending.returned (.tuple #[.int .i64 (x - 48), .bool true]) = HexRes x) := Lib.hid (ret_pair (by rw [hex_digit hd]; omega) (by rw [hex_digit hd]; simp; omega))
    clear hd hL
    go_enter Tryd.func96, Tryd.ntmps96
    go_wp2_with fail
    refine hD.mono ?_
    rintro e w' ⟨rfl, rfl⟩
    go_wp2
    go_ret2
    exact ⟨hv.out, rfl⟩

set_option maxHeartbeats 400000 in
theorem letter_any (x : Int) (w : World) :
    Calls Tryd.prog 18 #[.int .i32 x] w fun e w' => e = .returned (.bool (letterZ x)) ∧ w = w' := by
  have hS := small_any x w
  have hG := great_any x w
  unfold letterZ
  cases h1 : smallZ x <;> cases h2 : greatZ x <;> rw [h1] at hS <;> rw [h2] at hG
  · go_enter Tryd.func18, Tryd.ntmps18
    go_wp2_with fail
    refine hS.mono ?_
    rintro e w' ⟨rfl, rfl⟩
    go_wp2_with fail
    refine hG.mono ?_
    rintro e w' ⟨rfl, rfl⟩
    go_wp2
    go_ret
    exact ⟨rfl, rfl⟩
  · go_enter Tryd.func18, Tryd.ntmps18
    go_wp2_with fail
    refine hS.mono ?_
    rintro e w' ⟨rfl, rfl⟩
    go_wp2_with fail
    refine hG.mono ?_
    rintro e w' ⟨rfl, rfl⟩
    go_wp2
    go_ret
    exact ⟨rfl, rfl⟩
  all_goals
    go_enter Tryd.func18, Tryd.ntmps18
    go_wp2_with fail
    refine hS.mono ?_
    rintro e w' ⟨rfl, rfl⟩
    go_wp2
    go_ret
    exact ⟨rfl, rfl⟩

set_option maxHeartbeats 400000 in
theorem refLetter_any (x : Int) (w : World) :
    Calls Tryd.prog 35 #[.int .i64 x] w fun e w' => e = .returned (.bool (letterZ x)) ∧ w = w' := by
  unfold letterZ smallZ greatZ
  cases h1 : decide (65 ≤ x) <;> cases h2 : decide (x ≤ 90) <;> cases h3 : decide (97 ≤ x) <;> cases h4 : decide (x ≤ 122)
  all_goals first
    | (exfalso; simp at h1 h2 h3 h4; omega)
    | (go_enter Tryd.func35, Tryd.ntmps35; go_wp2; go_ret; exact ⟨rfl, rfl⟩)

set_option maxHeartbeats 400000 in
theorem refHex_any (x : Int) (w : World) (hlo : -2147483648 ≤ x) :
    Calls Tryd.prog 79 #[.int .i64 x] w fun e w' => e = .returned (.int .i64 (hexZ x)) ∧ w = w' := by
  have hD := refDigit_any x w
  unfold hexZ
  cases hd : digitZ x
  · rw [hd] at hD
    simp only [Bool.false_eq_true, if_false]
    by_cases c1 : 97 ≤ x
    · by_cases c2 : x ≤ 102
      · rw [if_pos ⟨c1, c2⟩]
        clear hd
        go_enter Tryd.func79, Tryd.ntmps79
        go_wp2_with fail
        refine hD.mono ?_
        rintro e w' ⟨rfl, rfl⟩
        go_wp2
        go_ret
        exact ⟨rfl, rfl⟩
      · rw [if_neg (by omega), if_neg (by omega)]
        have c2' : decide (x ≤ 102) = false := decide_eq_false c2
        have c3 : 65 ≤ x := by omega
        have c4 : decide (x ≤ 70) = false := decide_eq_false (by omega)
        clear hd c2
        go_enter Tryd.func79, Tryd.ntmps79
        go_wp2_with fail
        refine hD.mono ?_
        rintro e w' ⟨rfl, rfl⟩
        go_wp2
        go_ret
        exact ⟨rfl, rfl⟩
    · have c1' : decide (97 ≤ x) = false := decide_eq_false c1
      rw [if_neg (by omega)]
      by_cases c3 : 65 ≤ x
      · by_cases c4 : x ≤ 70
        · rw [if_pos ⟨c3, c4⟩]
          clear hd c1
          go_enter Tryd.func79, Tryd.ntmps79
          go_wp2_with fail
          refine hD.mono ?_
          rintro e w' ⟨rfl, rfl⟩
          go_wp2
          go_ret
          exact ⟨rfl, rfl⟩
        · rw [if_neg (by omega)]
          have c4' : decide (x ≤ 70) = false := decide_eq_false c4
          clear hd c1 c4
          go_enter Tryd.func79, Tryd.ntmps79
          go_wp2_with fail
          refine hD.mono ?_
          rintro e w' ⟨rfl, rfl⟩
          go_wp2
          go_ret
          exact ⟨rfl, rfl⟩
      · rw [if_neg (by omega)]
        have c3' : decide (65 ≤ x) = false := decide_eq_false c3
        clear hd c1 c3
        go_enter Tryd.func79, Tryd.ntmps79
        go_wp2_with fail
        refine hD.mono ?_
        rintro e w' ⟨rfl, rfl⟩
        go_wp2
        go_ret
        exact ⟨rfl, rfl⟩
  · rw [hd] at hD
    rw [if_pos rfl]
    have hx := digit_true hd
    obtain ⟨ha, hb⟩ := hx
    clear hd
    go_enter Tryd.func79, Tryd.ntmps79
    go_wp2_with fail
    refine hD.mono ?_
    rintro e w' ⟨rfl, rfl⟩
    go_wp2
    go_ret
    exact ⟨rfl, rfl⟩
end Go.Proofs.YtfnecdifaodamaaDoor.Kl
