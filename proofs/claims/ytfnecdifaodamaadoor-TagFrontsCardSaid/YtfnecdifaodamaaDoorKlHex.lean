/- Kinds of characters: the functions of class, and of the reference, that take one character. -/
import Derived.Test.YtfnecdifaodamaaDoorKlMath
import Derived.Test.YtfnecdifaodamaaDoorProg
import Derived.WalkKit
import Derived.WalkLawsBesides
import Derived.Lib.OthersKept
import Derived.Lib.ConvBytes
import Derived.Lib.Hide
import Derived.Deep.LoopGhost
import Derived.Laws.OwnMore
import Derived.Laws.BytesArg
namespace Go.Proofs.YtfnecdifaodamaaDoor.Kl
open Go.RowKit Go.Lib

def blankZ (x : Int) : Bool := x == 9 || x == 10 || x == 12 || x == 32
def greatZ (x : Int) : Bool := decide (65 ≤ x) && decide (x ≤ 90)
def smallZ (x : Int) : Bool := decide (97 ≤ x) && decide (x ≤ 122)
def digitZ (x : Int) : Bool := decide (48 ≤ x) && decide (x ≤ 57)
def lowerZ (x : Int) : Int := if greatZ x then x + 32 else x

theorem blankZ_nat (n : Nat) : blankZ (n : Int) = blankN n := by
  unfold blankZ blankN
  rw [Bool.eq_iff_iff]; simp only [Bool.or_eq_true, beq_iff_eq]
  omega
theorem greatZ_nat (n : Nat) : greatZ (n : Int) = greatN n := by
  unfold greatZ greatN
  rw [Bool.eq_iff_iff]; simp only [Bool.and_eq_true, decide_eq_true_eq]
  omega
theorem smallZ_nat (n : Nat) : smallZ (n : Int) = smallN n := by
  unfold smallZ smallN
  rw [Bool.eq_iff_iff]; simp only [Bool.and_eq_true, decide_eq_true_eq]
  omega
theorem digitZ_nat (n : Nat) : digitZ (n : Int) = digitN n := by
  unfold digitZ digitN
  rw [Bool.eq_iff_iff]; simp only [Bool.and_eq_true, decide_eq_true_eq]
  omega

set_option maxHeartbeats 400000 in
theorem blank_any (x : Int) (w : World) :
    Calls Tryd.prog 14 #[.int .i32 x] w fun e w' => e = .returned (.bool (blankZ x)) ∧ w = w' := by
  unfold blankZ
  cases h1 : (x == 9) <;> cases h2 : (x == 10) <;> cases h3 : (x == 12) <;> cases h4 : (x == 32)
  all_goals (go_enter Tryd.func14, Tryd.ntmps14; go_wp2; go_ret; exact ⟨rfl, rfl⟩)

set_option maxHeartbeats 400000 in
theorem great_any (x : Int) (w : World) :
    Calls Tryd.prog 34 #[.int .i32 x] w fun e w' => e = .returned (.bool (greatZ x)) ∧ w = w' := by
  unfold greatZ
  cases h1 : decide (65 ≤ x) <;> cases h2 : decide (x ≤ 90)
  all_goals (go_enter Tryd.func34, Tryd.ntmps34; go_wp2; go_ret; exact ⟨rfl, rfl⟩)

set_option maxHeartbeats 400000 in
theorem small_any (x : Int) (w : World) :
    Calls Tryd.prog 31 #[.int .i32 x] w fun e w' => e = .returned (.bool (smallZ x)) ∧ w = w' := by
  unfold smallZ
  cases h1 : decide (97 ≤ x) <;> cases h2 : decide (x ≤ 122)
  all_goals (go_enter Tryd.func31, Tryd.ntmps31; go_wp2; go_ret; exact ⟨rfl, rfl⟩)

set_option maxHeartbeats 400000 in
theorem digit_any (x : Int) (w : World) :
    Calls Tryd.prog 32 #[.int .i32 x] w fun e w' => e = .returned (.bool (digitZ x)) ∧ w = w' := by
  unfold digitZ
  cases h1 : decide (48 ≤ x) <;> cases h2 : decide (x ≤ 57)
  all_goals (go_enter Tryd.func32, Tryd.ntmps32; go_wp2; go_ret; exact ⟨rfl, rfl⟩)

set_option maxHeartbeats 400000 in
theorem lower_any (x : Int) (w : World) :
    Calls Tryd.prog 50 #[.int .i32 x] w fun e w' => e = .returned (.int .i32 (lowerZ x)) ∧ w = w' := by
  have hG := great_any x w
  unfold lowerZ
  cases h : greatZ x
  · rw [h] at hG
    go_enter Tryd.func50, Tryd.ntmps50
    go_wp2_with fail
    refine hG.mono ?_
    rintro e w' ⟨rfl, rfl⟩
    go_wp2
    go_ret
    exact ⟨rfl, rfl⟩
  · rw [h] at hG
    simp [greatZ] at h
    have e : x + 32 = x - 65 + 97 := by omega
    rw [if_pos rfl, e]
    clear e
    go_enter Tryd.func50, Tryd.ntmps50
    go_wp2_with fail
    refine hG.mono ?_
    rintro e w' ⟨rfl, rfl⟩
    go_wp2
    go_ret
    exact ⟨rfl, rfl⟩

set_option maxHeartbeats 400000 in
theorem refDigit_any (x : Int) (w : World) :
    Calls Tryd.prog 68 #[.int .i64 x] w fun e w' => e = .returned (.bool (digitZ x)) ∧ w = w' := by
  unfold digitZ
  cases h1 : decide (48 ≤ x) <;> cases h2 : decide (x ≤ 57)
  all_goals (go_enter Tryd.func68, Tryd.ntmps68; go_wp2; go_ret; exact ⟨rfl, rfl⟩)

set_option maxHeartbeats 400000 in
theorem refLower_any (x : Int) (w : World) :
    Calls Tryd.prog 26 #[.int .i64 x] w fun e w' => e = .returned (.int .i64 (lowerZ x)) ∧ w = w' := by
  by_cases h1 : 65 ≤ x
  · by_cases h2 : x ≤ 90
    · have e : lowerZ x = x + 32 := by simp [lowerZ, greatZ, h1, h2]
      rw [e]
      clear e
      go_enter Tryd.func26, Tryd.ntmps26
      go_wp2
      go_ret
      exact ⟨rfl, rfl⟩
    · have e : lowerZ x = x := by simp [lowerZ, greatZ, h2]
      rw [e]
      clear e
      have h2' : decide (x ≤ 90) = false := decide_eq_false h2
      go_enter Tryd.func26, Tryd.ntmps26
      go_wp2
      go_ret
      exact ⟨rfl, rfl⟩
  · have e : lowerZ x = x := by simp [lowerZ, greatZ, h1]
    rw [e]
    clear e
    have h1' : decide (65 ≤ x) = false := decide_eq_false h1
    go_enter Tryd.func26, Tryd.ntmps26
    go_wp2
    go_ret
    exact ⟨rfl, rfl⟩

theorem lowerZ_nat (b : UInt8) : lowerZ (b.toNat : Int) = ((lowB b).toNat : Int) := by
  rw [lowB_toNat]
  unfold lowerZ
  rw [greatZ_nat]
  split <;> simp
end Go.Proofs.YtfnecdifaodamaaDoor.Kl

/- class.Small: a text with small letters, whatever its bytes are; the example of the document. -/
namespace Go.Proofs.YtfnecdifaodamaaDoor.Kl
open Go.RowKit Go.Lib

theorem str_size (l : List UInt8) : (⟨l.toArray⟩ : ByteArray).size = l.length := by simp [ByteArray.size]

/-- a row of bytes of one's own, whose first ones are those of the list, none of which a string shares -/
def Row (l : List UInt8) (g : Nat) (w : World) : Prop :=
  ∃ (cur : Array Value) (z : Nat), w.heap[g]? = some (.cells cur 5 (z, z + 1)) ∧ l.length ≤ z ∧ ∀ j, j < l.length → cur[j]? = some (.int .u8 (at0 l j : Int))

theorem Row.cell {l : List UInt8} {g : Nat} {w : World} (h : Row l g w) {j : Nat} (hj : j < l.length) : w.cell? ⟨g, j, none⟩ = some (.int .u8 (at0 l j : Int)) := by
  obtain ⟨cur, z, hg, _, hc⟩ := h
  simp [World.cell?, hg, hc j hj]

theorem Row.frozen {l : List UInt8} {g : Nat} {w : World} (h : Row l g w) {j : Nat} (hj : j < l.length) : w.frozen? ⟨g, j, none⟩ = false := by
  obtain ⟨cur, z, hg, hz, _⟩ := h
  simp [World.frozen?, hg]
  omega

theorem Row.other {l : List UInt8} {g : Nat} {w w' : World} (h : Row l g w) (he : w'.heap[g]? = w.heap[g]?) : Row l g w' := by
  obtain ⟨cur, z, hg, hz, hc⟩ := h
  exact ⟨cur, z, by rw [he]; exact hg, hz, hc⟩

theorem Row.set {l : List UInt8} {g : Nat} {w : World} (h : Row l g w) (j : Nat) (b : UInt8) : Row (l.set j b) g (w.setCell ⟨g, j, none⟩ (.int .u8 (b.toNat : Int))) := by
  obtain ⟨cur, z, hg, hz, hc⟩ := h
  refine ⟨cur.setIfInBounds j (.int .u8 (b.toNat : Int)), z, ?_, by rw [List.length_set]; exact hz, fun i hi => ?_⟩
  · have hlt : g < w.heap.size := by
      rcases Nat.lt_or_ge g w.heap.size with h' | h'
      · exact h'
      · simp [Array.getElem?_eq_none h'] at hg
    rw [Array.getElem?_eq_getElem hlt] at hg
    injection hg with hg
    simp [World.setCell, hlt]
    rw [Array.getElem_modify_self, hg]
  · rw [List.length_set] at hi
    rw [Array.getElem?_setIfInBounds]
    have hci := hc i hi
    have hlt : i < cur.size := by
      rcases Nat.lt_or_ge i cur.size with h' | h'
      · exact h'
      · simp [Array.getElem?_eq_none h'] at hci
    by_cases hij : j = i
    · subst hij
      rw [if_pos rfl, if_pos hlt]
      simp [at0, List.getD_eq_getElem?_getD, hi]
    · rw [if_neg hij, hci]
      simp [at0, List.getD_eq_getElem?_getD, hij]

/-- '[]byte(s)': a new row whose bytes are the string's. -/
theorem bytes_row (l : List UInt8) (w : World) : ∃ (cap : Nat) (W : World), (convert 9 22 (.string ⟨l.toArray⟩)).run Tryd.prog w = .ok (.slice (some ⟨w.heap.size, 0, none⟩) l.length cap) W ∧ Row l w.heap.size W ∧ W.heap.size = w.heap.size + 1 ∧ Below w.heap.size w W := by
  refine ⟨grownCap w l.length 0 5, Lib.bytesWorld w 5 ⟨l.toArray⟩, ?_, ?_, Lib.bytesWorld_size _ _ _, ?_⟩
  · have := Lib.run_convert_string_bytes (P := Tryd.prog) w 9 22 5 ⟨l.toArray⟩ Tryd.underlying9 Tryd.underlying22 Tryd.underlying5
    rw [str_size] at this
    exact this
  · refine ⟨_, _, Lib.bytesWorld_at_new w 5 ⟨l.toArray⟩, ?_, fun j hj => ?_⟩
    · simp [Lib.bytesCells]
    · have := Lib.bytesWorld_cell w 5 ⟨l.toArray⟩ j (by rw [str_size]; exact hj)
      simp only [World.cell?, Lib.bytesWorld_at_new] at this
      exact this
  · exact ⟨rfl, rfl, rfl, by rw [Lib.bytesWorld_size]; omega, fun k hk => Lib.bytesWorld_at_old w 5 _ k hk⟩

/-- 'string(b)' of such a row -/
theorem string_row {l : List UInt8} {g cap : Nat} {w : World} (h : Row l g w) : (convert 22 9 (.slice (some ⟨g, 0, none⟩) l.length cap)).run Tryd.prog w = .ok (.string ⟨l.toArray⟩) w := by
  refine run_convert_bytes_back w 22 9 5 ⟨g, 0, none⟩ cap l Tryd.underlying22 Tryd.underlying5 Tryd.underlying9 fun j hj => ?_
  have e : (⟨g, 0, none⟩ : Addr).add j = ⟨g, j, none⟩ := by unfold Addr.add; split <;> simp_all
  rw [e, h.cell hj]
  simp [at0, List.getD_eq_getElem?_getD, hj]

theorem ret_str {l m : List UInt8} (h : l = m) : Ending.returned (.string ⟨l.toArray⟩) = .returned (.string ⟨m.toArray⟩) := by rw [h]

theorem low_at {l : List UInt8} {i : Nat} (h : i < l.length) : lowerZ (at0 l i : Int) % 256 = ((lowB l[i]).toNat : Int) := by
  rw [getD_at0 h, lowerZ_nat]
  have := UInt8.toNat_lt (lowB l[i])
  omega

theorem upto_same {l : List UInt8} {i : Nat} (h : i < l.length) (hg : greatZ (at0 l i : Int) = false) : upto l (i + 1) = upto l i := by
  rw [getD_at0 h, greatZ_nat] at hg
  have e : smallL [l[i]] = [l[i]] := by
    show [lowB l[i]] = _
    unfold lowB
    rw [hg]
    rfl
  unfold upto
  rw [List.take_succ_eq_append_getElem h, smallL_append, List.append_assoc, List.drop_eq_getElem_cons h, e]
  rfl

/-- half way -/
def SmallRel (l : List UInt8) (w : World) (k : Nat) (gf : Nat) (wr : World) : Prop :=
  ∃ pos : Nat, wr.heap[k]? = some (.stringIter ⟨l.toArray⟩ pos) ∧ Row (upto l pos) w.heap.size wr ∧ Below w.heap.size w wr ∧ l.length ≤ pos + gf

end Go.Proofs.YtfnecdifaodamaaDoor.Kl

/- The digits of base 16 and the letters: class.Hex, class.Letter and the reference's. -/
namespace Go.Proofs.YtfnecdifaodamaaDoor.Kl
open Go.RowKit Go.Lib

/-- the value of a digit of base 16, or -1 -/
def hexZ (x : Int) : Int := if digitZ x then x - 48 else if 97 ≤ x ∧ x ≤ 102 then x - 87 else if 65 ≤ x ∧ x ≤ 70 then x - 55 else -1
def letterZ (x : Int) : Bool := smallZ x || greatZ x

theorem ret_pair {a b : Int} {p q : Bool} (h1 : a = b) (h2 : p = q) : Ending.returned (.tuple #[.int .i64 a, .bool p]) = .returned (.tuple #[.int .i64 b, .bool q]) := by rw [h1, h2]
theorem ret_int {a b : Int} (h : a = b) : Ending.returned (.int .i64 a) = .returned (.int .i64 b) := by rw [h]

theorem digit_true {x : Int} (h : digitZ x = true) : 48 ≤ x ∧ x ≤ 57 := by simpa [digitZ] using h
theorem digit_false {x : Int} (h : digitZ x = false) : ¬ (48 ≤ x ∧ x ≤ 57) := by
  intro h'; rw [show digitZ x = true by simpa [digitZ] using h'] at h; cases h

theorem lower_cases (x : Int) : (65 ≤ x ∧ x ≤ 90 ∧ lowerZ x = x + 32) ∨ (¬ (65 ≤ x ∧ x ≤ 90) ∧ lowerZ x = x) := by
  by_cases h : 65 ≤ x ∧ x ≤ 90
  · exact Or.inl ⟨h.1, h.2, by simp [lowerZ, greatZ, h.1, h.2]⟩
  · refine Or.inr ⟨h, ?_⟩
    unfold lowerZ
    rw [if_neg (by simpa [greatZ] using h)]

theorem hex_low {x : Int} (h : digitZ x = false) (h2 : 97 ≤ lowerZ x ∧ lowerZ x ≤ 102) : hexZ x = lowerZ x - 97 + 10 := by
  unfold hexZ
  rw [h]
  simp only [Bool.false_eq_true, if_false]
  rcases lower_cases x with ⟨a, b, e⟩ | ⟨a, e⟩
  · rw [e] at h2 ⊢; rw [if_neg (by omega), if_pos (by omega)]; omega
  · rw [e] at h2 ⊢; rw [if_pos (by omega)]; omega
theorem hex_none {x : Int} (h : digitZ x = false) (h2 : ¬ (97 ≤ lowerZ x ∧ lowerZ x ≤ 102)) : hexZ x = -1 := by
  unfold hexZ
  rw [h]
  simp only [Bool.false_eq_true, if_false]
  rcases lower_cases x with ⟨a, b, e⟩ | ⟨a, e⟩
  · rw [e] at h2; rw [if_neg (by omega), if_neg (by omega)]
  · rw [e] at h2; rw [if_neg (by omega), if_neg (by omega)]
theorem hex_digit {x : Int} (h : digitZ x = true) : hexZ x = x - 48 := by unfold hexZ; rw [h]; rfl

def HexRes (x : Int) : Ending := .returned (.tuple #[.int .i64 (max (hexZ x) 0), .bool (decide (0 ≤ hexZ x))])

set_option maxHeartbeats 400000 in
theorem hex_any (x : Int) (w : World) :
    Calls Tryd.prog 96 #[.int .i32 x] w fun e w' => e = HexRes x ∧ w = w' := by
  have hD := digit_any x w
  have hL := lower_any x w
  cases hd : digitZ x
  · rw [hd] at hD
    by_cases h : 97 ≤ lowerZ x ∧ lowerZ x ≤ 102
    · have hv : Hid (Ending.returned (.tuple #[.int .i64 (lowerZ x - 97 + 10), .bool true]) = HexRes x) := Lib.hid (ret_pair (by rw [hex_low hd h]; omega) (by rw [hex_low hd h]; simp; omega))
      generalize lowerZ x = y at hL h hv
      obtain ⟨ha, hb⟩ := h
      clear hd
      go_enter Tryd.func96, Tryd.ntmps96
      go_wp2_with fail
      refine hD.mono ?_
      rintro e w' ⟨rfl, rfl⟩
      go_wp2_with fail
      refine hL.mono ?_
      rintro e w' ⟨rfl, rfl⟩
      go_wp2
      go_ret2
      exact ⟨hv.out, rfl⟩
    · have hv : Hid (Ending.returned (.tuple #[.int .i64 0, .bool false]) = HexRes x) := Lib.hid (ret_pair (by rw [hex_none hd h]; rfl) (by rw [hex_none hd h]; rfl))
      generalize lowerZ x = y at hL h hv
      clear hd
      by_cases ha : 97 ≤ y
      · have hb : decide (y ≤ 102) = false := decide_eq_false (fun hb => h ⟨ha, hb⟩)
        clear h
        go_enter Tryd.func96, Tryd.ntmps96
        go_wp2_with fail
        refine hD.mono ?_
        rintro e w' ⟨rfl, rfl⟩
        go_wp2_with fail
        refine hL.mono ?_
        rintro e w' ⟨rfl, rfl⟩
        go_wp2
        go_ret2
        exact ⟨hv.out, rfl⟩
      · have hb : decide (97 ≤ y) = false := decide_eq_false ha
        clear h ha
        go_enter Tryd.func96, Tryd.ntmps96
        go_wp2_with fail
        refine hD.mono ?_
        rintro e w' ⟨rfl, rfl⟩
        go_wp2_with fail
        refine hL.mono ?_
        rintro e w' ⟨rfl, rfl⟩
        go_wp2
        go_ret2
        exact ⟨hv.out, rfl⟩
  · rw [hd] at hD
    obtain ⟨ha, hb⟩ := digit_true hd
    have hv : Hid (Ending.returned (.tuple #[.int .i64 (x - 48), .bool true]) = HexRes x) := Lib.hid (ret_pair (by rw [hex_digit hd]; omega) (by rw [hex_digit hd]; simp; omega))
    clear hd hL
    go_enter Tryd.func96, Tryd.ntmps96
    go_wp2_with fail
    refine hD.mono ?_
    rintro e w' ⟨rfl, rfl⟩
    go_wp2
    go_ret2
    exact ⟨hv.out, rfl⟩

set_option maxHeartbeats 400000 in
theorem letter_any (x : Int) (w : World) :
    Calls Tryd.prog 18 #[.int .i32 x] w fun e w' => e = .returned (.bool (letterZ x)) ∧ w = w' := by
  have hS := small_any x w
  have hG := great_any x w
  unfold letterZ
  cases h1 : smallZ x <;> cases h2 : greatZ x <;> rw [h1] at hS <;> rw [h2] at hG
  · go_enter Tryd.func18, Tryd.ntmps18
    go_wp2_with fail
    refine hS.mono ?_
    rintro e w' ⟨rfl, rfl⟩
    go_wp2_with fail
    refine hG.mono ?_
    rintro e w' ⟨rfl, rfl⟩
    go_wp2
    go_ret
    exact ⟨rfl, rfl⟩
  · go_enter Tryd.func18, Tryd.ntmps18
    go_wp2_with fail
    refine hS.mono ?_
    rintro e w' ⟨rfl, rfl⟩
    go_wp2_with fail
    refine hG.mono ?_
    rintro e w' ⟨rfl, rfl⟩
    go_wp2
    go_ret
    exact ⟨rfl, rfl⟩
  all_goals
    go_enter Tryd.func18, Tryd.ntmps18
    go_wp2_with fail
    refine hS.mono ?_
    rintro e w' ⟨rfl, rfl⟩
    go_wp2
    go_ret
    exact ⟨rfl, rfl⟩

set_option maxHeartbeats 400000 in
theorem refLetter_any (x : Int) (w : World) :
    Calls Tryd.prog 35 #[.int .i64 x] w fun e w' => e = .returned (.bool (letterZ x)) ∧ w = w' := by
  unfold letterZ smallZ greatZ
  cases h1 : decide (65 ≤ x) <;> cases h2 : decide (x ≤ 90) <;> cases h3 : decide (97 ≤ x) <;> cases h4 : decide (x ≤ 122)
  all_goals first
    | (exfalso; simp at h1 h2 h3 h4; omega)
    | (go_enter Tryd.func35, Tryd.ntmps35; go_wp2; go_ret; exact ⟨rfl, rfl⟩)

set_option maxHeartbeats 400000 in
theorem refHex_any (x : Int) (w : World) (hlo : -2147483648 ≤ x) :
    Calls Tryd.prog 79 #[.int .i64 x] w fun e w' => e = .returned (.int .i64 (hexZ x)) ∧ w = w' := by
  have hD := refDigit_any x w
  unfold hexZ
  cases hd : digitZ x
  · rw [hd] at hD
    simp only [Bool.false_eq_true, if_false]
    by_cases c1 : 97 ≤ x
    · by_cases c2 : x ≤ 102
      · rw [if_pos ⟨c1, c2⟩]
        clear hd
        go_enter Tryd.func79, Tryd.ntmps79
        go_wp2_with fail
        refine hD.mono ?_
        rintro e w' ⟨rfl, rfl⟩
        go_wp2
        go_ret
        exact ⟨rfl, rfl⟩
      · rw [if_neg (by omega), if_neg (by omega)]
        have c2' : decide (x ≤ 102) = false := decide_eq_false c2
        have c3 : 65 ≤ x := by omega
        have c4 : decide (x ≤ 70) = false := decide_eq_false (by omega)
        clear hd c2
        go_enter Tryd.func79, Tryd.ntmps79
        go_wp2_with fail
        refine hD.mono ?_
        rintro e w' ⟨rfl, rfl⟩
        go_wp2
        go_ret
        exact ⟨rfl, rfl⟩
    · have c1' : decide (97 ≤ x) = false := decide_eq_false c1
      rw [if_neg (by omega)]
      by_cases c3 : 65 ≤ x
      · by_cases c4 : x ≤ 70
        · rw [if_pos ⟨c3, c4⟩]
          clear hd c1
          go_enter Tryd.func79, Tryd.ntmps79
          go_wp2_with fail
          refine hD.mono ?_
          rintro e w' ⟨rfl, rfl⟩
          go_wp2
          go_ret
          exact ⟨rfl, rfl⟩
        · rw [if_neg (by omega)]
          have c4' : decide (x ≤ 70) = false := decide_eq_false c4
          clear hd c1 c4
          go_enter Tryd.func79, Tryd.ntmps79
          go_wp2_with fail
          refine hD.mono ?_
          rintro e w' ⟨rfl, rfl⟩
          go_wp2
          go_ret
          exact ⟨rfl, rfl⟩
      · rw [if_neg (by omega)]
        have c3' : decide (65 ≤ x) = false := decide_eq_false c3
        clear hd c1 c3
        go_enter Tryd.func79, Tryd.ntmps79
        go_wp2_with fail
        refine hD.mono ?_
        rintro e w' ⟨rfl, rfl⟩
        go_wp2
        go_ret
        exact ⟨rfl, rfl⟩
  · rw [hd] at hD
    rw [if_pos rfl]
    have hx := digit_true hd
    obtain ⟨ha, hb⟩ := hx
    clear hd
    go_enter Tryd.func79, Tryd.ntmps79
    go_wp2_with fail
    refine hD.mono ?_
    rintro e w' ⟨rfl, rfl⟩
    go_wp2
    go_ret
    exact ⟨rfl, rfl⟩
end Go.Proofs.YtfnecdifaodamaaDoor.Kl
