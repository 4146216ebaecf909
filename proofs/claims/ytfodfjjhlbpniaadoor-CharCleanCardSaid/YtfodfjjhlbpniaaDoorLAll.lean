/- The law CharAll, walked. -/
import Derived.Test.YtfodfjjhlbpniaaDoorRAll
namespace Go.Proofs.YtfodfjjhlbpniaaDoor
open Go.RowKit Go.Lib

/-- 'string(b)' of a slice of bytes, nil or not -/
theorem string_sl {l : List UInt8} {a : Option Addr} {cap : Nat} {w : World} (h : Sl l a cap w) :
    (convert 22 9 (.slice a l.length cap)).run Tryd.prog w = .ok (.string ⟨l.toArray⟩) w := by
  obtain ⟨_, h2⟩ := h
  cases a with
  | none =>
    rcases h2 with rfl | ⟨b, off, hab, _⟩
    · exact run_convert_bytes_nil w 22 5 Tryd.underlying22 Tryd.underlying5 0 cap 9 Tryd.underlying9
    · cases hab
  | some ad =>
    refine run_convert_bytes_back w 22 9 5 ad cap l Tryd.underlying22 Tryd.underlying5 Tryd.underlying9 fun j hj => ?_
    rcases h2 with rfl | ⟨b, off, hab, hc⟩
    · simp at hj
    · obtain rfl := Option.some.inj hab
      have := hc j hj
      rw [show (⟨b, off, none⟩ : Addr).add j = ⟨b, off + j, none⟩ by unfold Addr.add; split <;> simp_all, this]
      simp [at0, List.getD_eq_getElem?_getD, List.getElem?_eq_getElem hj]

theorem clean_bool (l : List UInt8) (w : World) (hT : Lib.Utf8Tabs 0 1 w) (hl : l.length ≤ 1000000) :
    Calls Tryd.prog 14 #[.string ⟨l.toArray⟩] w fun e w' => e = .returned (.bool (allFrom l 0 l.length == l)) ∧ Below w.heap.size w w' := clean_any l w hT hl

set_option maxHeartbeats 1000000 in
set_option maxRecDepth 100000 in
theorem charAll_long (n : Nat) (a : Option Addr) (cap : Nat) (x y : Int) (w : World) (hT : Lib.Utf8Tabs 0 1 w) (h : 400 < n) :
    Calls Tryd.prog 4 #[.slice a n cap, .int .i64 x, .int .i64 y] w fun e w' => e = .returned (.bool true) ∧ Below w.heap.size w w' := by
  have h1 : (400 : Int) < (n : Int) := by omega
  go_enter Tryd.func4, Tryd.ntmps4
  go_wp2_with fail
  refine (speaks_any w hT).mono ?_
  rintro e w1 ⟨rfl, hb1⟩
  go_wp2_with fail
  refine (speaks_any w1 (Tabs_below hT hb1)).mono ?_
  rintro e w2 ⟨rfl, hb2⟩
  go_wp2
  go_ret
  exact ⟨rfl, hb1.trans (hb2.mono hb1.size)⟩

set_option maxHeartbeats 1000000 in
set_option maxRecDepth 100000 in
theorem charAll_walk (l : List UInt8) (a : Option Addr) (cap : Nat) (x y : Int) (w : World) (hs : Sl l a cap w) (hT : Lib.Utf8Tabs 0 1 w) (h : l.length ≤ 400) :
    Calls Tryd.prog 4 #[.slice a l.length cap, .int .i64 x, .int .i64 y] w fun e w' => e = .returned (.bool true) ∧ Below w.heap.size w w' := by
  have h1 : ¬ ((400 : Int) < (l.length : Int)) := by omega
  go_enter Tryd.func4, Tryd.ntmps4
  go_wp2_with fail
  refine (speaks_any w hT).mono ?_
  rintro e w1 ⟨rfl, B1⟩
  have s1 := hs.below B1
  have hconv := string_sl s1
  have z1 := B1.size
  go_wp2_with fail
  refine (all_any l a cap x y w1 s1 (Tabs_below hT B1) (by omega)).mono ?_
  rintro e w2 ⟨rfl, b2⟩
  have B2 := B1.trans (b2.mono z1)
  have z2 := B2.size
  go_wp2_with fail
  refine (refAll_any l a cap x y w2 (hs.below B2) (by omega)).mono ?_
  rintro e w3 ⟨rfl, b3⟩
  have B3 := B2.trans (b3.mono z2)
  have z3 := B3.size
  go_wp2_with fail
  refine (clean_bool l w3 (Tabs_below hT B3) (by omega)).mono ?_
  rintro e w4 ⟨rfl, b4⟩
  have B4 := B3.trans (b4.mono z3)
  have z4 := B4.size
  go_wp2_with fail
  refine (refAll_any l a cap 0 l.length w4 (hs.below B4) (by omega)).mono ?_
  rintro e w5 ⟨rfl, b5⟩
  have B5 := B4.trans (b5.mono z4)
  go_wp2
  go_ret
  exact ⟨rfl, B5⟩
end Go.Proofs.YtfodfjjhlbpniaaDoor
