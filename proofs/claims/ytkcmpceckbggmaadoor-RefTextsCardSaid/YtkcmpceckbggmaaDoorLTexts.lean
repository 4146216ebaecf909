/- The law RefTexts, walked. -/
import Derived.Test.YtkcmpceckbggmaaDoorRText
import Derived.Test.YtkcmpceckbggmaaDoorSpk
import Derived.BigQuiet
namespace Go.Proofs.YtkcmpceckbggmaaDoor
open Go.RowKit Go.Lib
open Ch (at0 nx nx_width nx_range at0_lt at0_drop enc_len Sl Sl.below Cells ret_bool)

set_option maxHeartbeats 1000000 in
set_option maxRecDepth 100000 in
theorem refText_empty (ad : Addr) (cap : Nat) (attr : Bool) (w : World) :
    Calls Tryd.prog 13 #[.slice (some ad) 0 cap, .int .i64 0, .int .i64 0, .bool attr] w fun e w' => e = .returned (.string ⟨#[]⟩) ∧ Below w.heap.size w w' := by
  go_enter Tryd.func13, Tryd.ntmps13
  go_wp2
  go_loopw [9, 11] (fun v9 v11 wr => v9 = .string ⟨#[]⟩ ∧ v11 = .int .i64 0 ∧ wr = w) (fun _ _ _ => 0)
  case atStart => exact ⟨rfl, rfl, rfl⟩
  case round =>
    obtain ⟨rfl, rfl, rfl⟩ := hrel
    go_wp2
    go_ret
    exact ⟨rfl, Below.refl _ _⟩

theorem refText_all (l : List UInt8) (a : Option Addr) (cap : Nat) (i n : Nat) (x y : Int) (attr : Bool) (w : World) (hs : Sl l a cap w) (hnil : a = none → l.length = 0 ∧ cap = 0) (hx : x = (i : Int)) (hy : y = (i : Int) + (n : Int)) (hin : i + n ≤ l.length) (hl : l.length ≤ 1000000) :
    Calls Tryd.prog 13 #[.slice a l.length cap, .int .i64 x, .int .i64 y, .bool attr] w fun e w' => e = .returned (.string ⟨(txt attr ((l.drop i).take n)).toArray⟩) ∧ Below w.heap.size w w' := by
  cases a with
  | none => exact refText_any l none cap i n x y attr w hs hnil (Or.inl rfl) hx hy hin hl
  | some ad =>
    obtain ⟨hcap, rfl | ⟨b', off', hb, hc⟩⟩ := hs
    · obtain rfl : i = 0 := by simp at hin; omega
      obtain rfl : n = 0 := by simp at hin; omega
      subst hx hy
      exact refText_empty ad cap attr w
    · cases hb
      exact refText_any l _ cap i n x y attr w ⟨hcap, Or.inr ⟨b', off', rfl, hc⟩⟩ hnil (Or.inr ⟨b', off', rfl⟩) hx hy hin hl

theorem below_drawn {B : Nat} {w w' : World} (n : Nat) (h : Below B w w') : Below B w (w'.drewN n) := ⟨h.os, h.tape, h.output, h.size, h.block⟩

set_option maxHeartbeats 4000000 in
set_option maxRecDepth 100000 in
theorem refTexts_walk (l : List UInt8) (a : Option Addr) (cap x y : Nat) (attr : Bool) (w : World) (hs : Sl l a cap w) (hnil : a = none → l.length = 0 ∧ cap = 0) (hT : Tb w) (hl : l.length ≤ 300) (hx : x < 65536) (hy : y < 65536) :
    Calls Tryd.prog 4 #[.slice a l.length cap, .int .u16 (x : Int), .int .u16 (y : Int), .bool attr] w fun e w' => e = .returned (.bool true) ∧ Below w.heap.size w w' := by
  have h1 : ¬ ((300 : Int) < (l.length : Int)) := by omega
  obtain ⟨i, n, E1, E2, hin⟩ : ∃ i n : Nat, min ((x : Int) % ((l.length : Int) + 1)) ((y : Int) % ((l.length : Int) + 1)) = (i : Int) ∧ max ((x : Int) % ((l.length : Int) + 1)) ((y : Int) % ((l.length : Int) + 1)) = (i : Int) + (n : Int) ∧ i + n ≤ l.length := by
    have e1 : (x : Int) % ((l.length : Int) + 1) = ((x % (l.length + 1) : Nat) : Int) := by push_cast; rfl
    have e2 : (y : Int) % ((l.length : Int) + 1) = ((y % (l.length + 1) : Nat) : Int) := by push_cast; rfl
    have l1 := Nat.mod_lt x (show l.length + 1 > 0 by omega)
    have l2 := Nat.mod_lt y (show l.length + 1 > 0 by omega)
    rw [e1, e2]
    generalize x % (l.length + 1) = X at l1 ⊢
    generalize y % (l.length + 1) = Y at l2 ⊢
    exact ⟨min X Y, max X Y - min X Y, by omega, by omega, by omega⟩
  have HE1 := Lib.hid E1
  have HE2 := Lib.hid E2
  clear E1 E2
  go_enter Tryd.func4, Tryd.ntmps4
  go_wp2_with fail
  refine (speaks_any w hT).mono ?_
  rintro e w1 ⟨rfl, hb1⟩
  go_wp2
  go_quiet (fail)
  go_wp2_with fail
  refine (text_any l a cap i n _ _ attr (w1.drewN _) (hs.below (below_drawn _ hb1)) HE1.out HE2.out hin (hT.below (below_drawn _ hb1)) (by omega)).mono ?_
  rintro e w3 ⟨rfl, hb3⟩
  have hz2 := hb1.size
  have hb13 : Below w.heap.size w w3 := (below_drawn _ hb1).trans (hb3.mono hz2)
  have hz13 := hb13.size
  clear hb3 hz2
  go_wp2_with fail
  refine (refText_all l a cap i n _ _ attr w3 (hs.below hb13) hnil HE1.out HE2.out hin (by omega)).mono ?_
  rintro e w4 ⟨rfl, hb4⟩
  generalize txt attr ((l.drop i).take n) = t
  go_wp2
  go_ret
  exact ⟨ret_bool (by simp), hb13.trans (hb4.mono hz13)⟩

set_option maxHeartbeats 1000000 in
set_option maxRecDepth 100000 in
theorem refTexts_long (n : Nat) (a : Option Addr) (cap : Nat) (x y : Int) (attr : Bool) (w : World) (hT : Tb w) (h : 300 < n) :
    Calls Tryd.prog 4 #[.slice a n cap, .int .u16 x, .int .u16 y, .bool attr] w fun e w' => e = .returned (.bool true) ∧ Below w.heap.size w w' := by
  have h1 : (300 : Int) < (n : Int) := by omega
  go_enter Tryd.func4, Tryd.ntmps4
  go_wp2_with fail
  refine (speaks_any w hT).mono ?_
  rintro e w1 ⟨rfl, hb1⟩
  go_wp2_with fail
  refine (speaks_any w1 (hT.below hb1)).mono ?_
  rintro e w2 ⟨rfl, hb2⟩
  go_wp2
  go_ret
  exact ⟨rfl, hb1.trans (hb2.mono hb1.size)⟩
end Go.Proofs.YtkcmpceckbggmaaDoor
