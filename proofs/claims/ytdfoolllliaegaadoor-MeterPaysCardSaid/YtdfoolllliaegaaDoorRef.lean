/- Contracts of the document's own meter (New, Pay of decanterref01), of New at every amount, and of Pay at every payment. -/
import Derived.Test.YtdfoolllliaegaaDoorText
import Derived.Laws.ResultCell
namespace Go.Proofs.YtdfoolllliaegaaDoor
open Go.RowKit

set_option maxHeartbeats 400000 in
theorem new_raw_below (n : Int) (w : World) (h : n < 0) :
    Calls Tryd.prog 6 #[.int .i64 n] w fun e w' => e = .returned (.pointer (some ⟨w.heap.size, 0, none⟩)) ∧ w.alloc (.cells #[.int .i64 0, .int .i64 0] 46) = w' := by
  have h' : ¬ 0 ≤ n := by omega
  go_enter Tryd.func6, Tryd.ntmps6
  go_wp2
  go_ret
  exact ⟨rfl, by rw [show max n 0 = 0 by omega]⟩

theorem new_below (n : Int) (w : World) (h : n < 0) : Calls Tryd.prog 6 #[.int .i64 n] w (Born w 0) := by
  refine (new_raw_below n w h).mono ?_
  rintro e w' ⟨rfl, rfl⟩
  refine ⟨rfl, ⟨?_, ?_, ?_, ?_, ?_⟩, World.grownBy_alloc _ _ _⟩
  all_goals simp [go_sem]

set_option maxHeartbeats 400000 in
theorem refnew_any (n : Int) (w : World) (h : 0 ≤ n) :
    Calls Tryd.prog 7 #[.int .i64 n] w fun e w' => e = .returned (.agg #[.int .i64 n, .int .i64 0]) ∧ w.grownBy w' none := by
  have h' : ¬ n < 0 := by omega
  go_enter Tryd.func7, Tryd.ntmps7
  go_wp2
  exact bodyPost_ret (v := .agg #[.int .i64 n, .int .i64 0]) (by simp [results, Tryd.results7, go_sem]) rfl ⟨rfl, World.grownBy_alloc _ _ _⟩

set_option maxHeartbeats 400000 in
theorem refnew_below (n : Int) (w : World) (h : n < 0) :
    Calls Tryd.prog 7 #[.int .i64 n] w fun e w' => e = .returned (.agg #[.int .i64 0, .int .i64 0]) ∧ w.grownBy w' none := by
  go_enter Tryd.func7, Tryd.ntmps7
  go_wp2
  exact bodyPost_ret (v := .agg #[.int .i64 0, .int .i64 0]) (by simp [results, Tryd.results7, go_sem]) rfl ⟨rfl, World.grownBy_alloc _ _ _⟩

set_option maxHeartbeats 400000 in
theorem refpay_ok (l s n : Int) (w : World) (hn : 0 ≤ n) (hl : n ≤ l) (hs : 0 ≤ s) (hb : l + s ≤ 9223372036854775807) :
    Calls Tryd.prog 8 #[.agg #[.int .i64 l, .int .i64 s], .int .i64 n] w fun e w' => e = .returned (.tuple #[.agg #[.int .i64 (l - n), .int .i64 (s + n)], .bool true]) ∧ w.grownBy w' none := by
  have h' : ¬ n < 0 := by omega
  have h'' : ¬ l < n := by omega
  go_enter Tryd.func8, Tryd.ntmps8
  go_wp2
  exact bodyPost_ret (v := .tuple #[.agg #[.int .i64 (l - n), .int .i64 (s + n)], .bool true]) (by simp [results, Tryd.results8, go_sem]) rfl ⟨rfl, grown_trans (World.grownBy_alloc _ _ _) (World.grownBy_alloc _ _ _)⟩

set_option maxHeartbeats 400000 in
theorem refpay_below (l s n : Int) (w : World) (hn : n < 0) (hl : 0 ≤ l) (hs : 0 ≤ s) (hb : l + s ≤ 9223372036854775807) :
    Calls Tryd.prog 8 #[.agg #[.int .i64 l, .int .i64 s], .int .i64 n] w fun e w' => e = .returned (.tuple #[.agg #[.int .i64 l, .int .i64 s], .bool true]) ∧ w.grownBy w' none := by
  have h'' : ¬ l < 0 := by omega
  go_enter Tryd.func8, Tryd.ntmps8
  go_wp2
  exact bodyPost_ret (v := .tuple #[.agg #[.int .i64 l, .int .i64 s], .bool true]) (by simp [results, Tryd.results8, go_sem]) rfl ⟨rfl, grown_trans (World.grownBy_alloc _ _ _) (World.grownBy_alloc _ _ _)⟩

set_option maxHeartbeats 400000 in
theorem refpay_short (l s n : Int) (w : World) (hn : 0 ≤ n) (hl : l < n) :
    Calls Tryd.prog 8 #[.agg #[.int .i64 l, .int .i64 s], .int .i64 n] w fun e w' => e = .returned (.tuple #[.agg #[.int .i64 l, .int .i64 s], .bool false]) ∧ w.grownBy w' none := by
  have h' : ¬ n < 0 := by omega
  go_enter Tryd.func8, Tryd.ntmps8
  go_wp2
  exact bodyPost_ret (v := .tuple #[.agg #[.int .i64 l, .int .i64 s], .bool false]) (by simp [results, Tryd.results8, go_sem]) rfl ⟨rfl, grown_trans (World.grownBy_alloc _ _ _) (World.grownBy_alloc _ _ _)⟩

/-- What is left of a payment below 0. -/
def pos (n : Int) : Int := if n < 0 then 0 else n
theorem pos_ge (n : Int) : 0 ≤ pos n := by unfold pos; split <;> omega
theorem pos_le {n l : Int} (h0 : 0 ≤ l) (h : n ≤ l) : pos n ≤ l := by unfold pos; split <;> omega

theorem new_all (n : Int) (w : World) : Calls Tryd.prog 6 #[.int .i64 n] w (Born w (pos n)) := by
  unfold pos
  by_cases h : n < 0
  · rw [if_pos h]; exact new_below n w h
  · rw [if_neg h]; exact new_any n w (by omega)

theorem refnew_all (n : Int) (w : World) :
    Calls Tryd.prog 7 #[.int .i64 n] w fun e w' => e = .returned (.agg #[.int .i64 (pos n), .int .i64 0]) ∧ w.grownBy w' none := by
  unfold pos
  by_cases h : n < 0
  · rw [if_pos h]; exact refnew_below n w h
  · rw [if_neg h]; exact refnew_any n w (by omega)

theorem refpay_yes (l s n : Int) (w : World) (h0 : 0 ≤ l) (hl : n ≤ l) (hs : 0 ≤ s) (hb : l + s ≤ 9223372036854775807) :
    Calls Tryd.prog 8 #[.agg #[.int .i64 l, .int .i64 s], .int .i64 n] w fun e w' => e = .returned (.tuple #[.agg #[.int .i64 (l - pos n), .int .i64 (s + pos n)], .bool true]) ∧ w.grownBy w' none := by
  unfold pos
  by_cases h : n < 0
  · rw [if_pos h]; have := refpay_below l s n w h h0 hs hb; simpa using this
  · rw [if_neg h]; exact refpay_ok l s n w (by omega) hl hs hb

theorem pay_yes (b : Nat) (l s n : Int) (w : World) (h : Met w b l s) (h0 : 0 ≤ l) (hl : n ≤ l) (hs : 0 ≤ s) (hb : l + s ≤ 9223372036854775807) :
    Calls Tryd.prog 9 #[.pointer (some ⟨b, 0, none⟩), .int .i64 n] w (Paid w b (l - pos n) (s + pos n)) := by
  unfold pos
  by_cases hn : n < 0
  · rw [if_pos hn]; have := pay_below b l s n w h hn h0 hs hb; simpa using this
  · rw [if_neg hn]; exact pay_ok b l s n w h (by omega) hl hs hb
end Go.Proofs.YtdfoolllliaegaaDoor
