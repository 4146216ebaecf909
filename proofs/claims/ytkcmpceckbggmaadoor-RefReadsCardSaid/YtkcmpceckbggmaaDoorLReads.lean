/- The law RefReads, walked. -/
import Derived.Test.YtkcmpceckbggmaaDoorRRead
import Derived.Test.YtkcmpceckbggmaaDoorSpk
namespace Go.Proofs.YtkcmpceckbggmaaDoor
open Go.RowKit Go.Lib
open Ch (at0 nx nx_width nx_range at0_lt at0_drop enc_len Sl Sl.below Cells ret_bool)

/-- the row of both booleans -/
def Two (g : Nat) (w : World) : Prop := w.cell? ⟨g, 0, none⟩ = some (.bool false) ∧ w.cell? ⟨g, 1, none⟩ = some (.bool true)
theorem Two.below {g : Nat} {w w' : World} (h : Two g w) (hb : Below w.heap.size w w') : Two g w' :=
  ⟨(hb.cell (Ch.cell_lt h.1)).trans h.1, (hb.cell (Ch.cell_lt h.2)).trans h.2⟩
theorem two_new (w : World) : Two w.heap.size (w.alloc (.cells #[.bool false, .bool true] 4)) :=
  ⟨row_cell w 4 0 _ _ rfl, row_cell w 4 1 _ _ rfl⟩

def OutRel (n : Nat) (w : World) (v : Value) (wr : World) : Prop := ∃ k : Nat, v = .int .i64 (k : Int) ∧ k ≤ n + 1 ∧ Below w.heap.size w wr
def InRel (g : Nat) (w : World) (v : Value) (wr : World) : Prop := ∃ j : Nat, v = .int .i64 (j : Int) ∧ j ≤ 2 ∧ Below w.heap.size w wr ∧ Two g wr

set_option maxHeartbeats 1000000 in
set_option maxRecDepth 100000 in
theorem refReads_long (n : Nat) (a : Option Addr) (cap : Nat) (x : Int) (w : World) (hT : Tb w) (h : 300 < n) :
    Calls Tryd.prog 3 #[.slice a n cap, .int .i64 x] w fun e w' => e = .returned (.bool true) ∧ Below w.heap.size w w' := by
  have h1 : (300 : Int) < (n : Int) := by omega
  go_enter Tryd.func3, Tryd.ntmps3
  go_wp2_with fail
  refine (speaks_any w hT).mono ?_
  rintro e w1 ⟨rfl, hb1⟩
  go_wp2_with fail
  refine (speaks_any w1 (hT.below hb1)).mono ?_
  rintro e w2 ⟨rfl, hb2⟩
  go_wp2
  go_ret
  exact ⟨rfl, hb1.trans (hb2.mono hb1.size)⟩

set_option maxHeartbeats 8000000 in
set_option maxRecDepth 100000 in
theorem refReads_walk (l : List UInt8) (a : Option Addr) (cap : Nat) (x : Int) (w : World) (hs : Sl l a cap w) (hT : Tb w) (hl : l.length ≤ 300) :
    Calls Tryd.prog 3 #[.slice a l.length cap, .int .i64 x] w fun e w' => e = .returned (.bool true) ∧ Below w.heap.size w w' := by
  have h1 : ¬ ((300 : Int) < (l.length : Int)) := by omega
  go_enter Tryd.func3, Tryd.ntmps3
  go_wp2_with fail
  refine (speaks_any w hT).mono ?_
  rintro e w1 ⟨rfl, hb1⟩
  have HB1 := Lib.hid hb1
  clear hb1
  go_wp2
  go_loopw [24] (fun v wr => OutRel l.length w v wr) (fun v _ => ((l.length : Int) + 1 - RowKit.intOf v).toNat)
  case atStart => exact ⟨0, rfl, by omega, HB1.out⟩
  case round =>
    obtain ⟨k, rfl, hk, hbw⟩ := hrel
    generalize wr = w0 at hbw ⊢
    clear HB1
    have hsz := hbw.size
    by_cases hk1 : k < l.length + 1
    · have hk2 : (k : Int) < (l.length : Int) + 1 := by omega
      by_cases hk3 : k = l.length
      · subst hk3
        go_wp2
        go_loopw [34] (fun v wi => InRel w0.heap.size w v wi) (fun v _ => (2 - RowKit.intOf v).toNat)
        case atStart => exact ⟨0, rfl, by omega, hbw.alloc hsz _, two_new w0⟩
        case round =>
          obtain ⟨j, rfl, hj, hbi, hTwo⟩ := hrel
          generalize wr = wi at hbi hTwo ⊢
          have hzi := hbi.size
          have hc0 := hTwo.1
          have hc1 := hTwo.2
          have HTwo := Lib.hid hTwo
          clear hTwo
          rcases (by omega : j = 0 ∨ j = 1 ∨ j = 2) with rfl | rfl | rfl
          · have cR := read_any l a cap x false wi (hs.below hbi) (by omega) (hT.below hbi).2
            have cF := refRead_any l a cap x false wi (hs.below hbi) (by omega)
            cases ho : rdAt l x false with
            | none =>
              rw [ho, resP_none rfl] at cR
              rw [ho, resR_none rfl] at cF
              clear ho
              go_wp2_with fail
              refine cR.mono ?_
              rintro e w3 ⟨rfl, rfl⟩
              go_wp2_with fail
              refine cF.mono ?_
              rintro e w4 ⟨rfl, hb4⟩
              go_wp2
              go_roundw
              case rel => exact ⟨0 + 1, by go_num, by omega, hbi.trans (hb4.mono hzi), HTwo.out.below hb4⟩
              case measure => simp [RowKit.intOf]
            | some p =>
              obtain ⟨s, e⟩ := p
              rw [ho, resP_some rfl rfl] at cR
              rw [ho, resR_some rfl rfl] at cF
              have g1 : (0 : Int) ≤ (e : Int) := by omega
              have g2 : max (e : Int) 0 = (e : Int) := by omega
              clear ho
              go_wp2_with fail
              refine cR.mono ?_
              rintro e1 w3 ⟨rfl, rfl⟩
              go_wp2_with fail
              refine cF.mono ?_
              rintro e2 w4 ⟨rfl, hb4⟩
              go_wp2
              go_roundw
              case rel => exact ⟨0 + 1, by go_num, by omega, hbi.trans (hb4.mono hzi), HTwo.out.below hb4⟩
              case measure => simp [RowKit.intOf]
          · have cR := read_any l a cap x true wi (hs.below hbi) (by omega) (hT.below hbi).2
            have cF := refRead_any l a cap x true wi (hs.below hbi) (by omega)
            cases ho : rdAt l x true with
            | none =>
              rw [ho, resP_none rfl] at cR
              rw [ho, resR_none rfl] at cF
              clear ho
              go_wp2_with fail
              refine cR.mono ?_
              rintro e w3 ⟨rfl, rfl⟩
              go_wp2_with fail
              refine cF.mono ?_
              rintro e w4 ⟨rfl, hb4⟩
              go_wp2
              go_roundw
              case rel => exact ⟨1 + 1, by go_num, by omega, hbi.trans (hb4.mono hzi), HTwo.out.below hb4⟩
              case measure => simp [RowKit.intOf]
            | some p =>
              obtain ⟨s, e⟩ := p
              rw [ho, resP_some rfl rfl] at cR
              rw [ho, resR_some rfl rfl] at cF
              have g1 : (0 : Int) ≤ (e : Int) := by omega
              have g2 : max (e : Int) 0 = (e : Int) := by omega
              clear ho
              go_wp2_with fail
              refine cR.mono ?_
              rintro e1 w3 ⟨rfl, rfl⟩
              go_wp2_with fail
              refine cF.mono ?_
              rintro e2 w4 ⟨rfl, hb4⟩
              go_wp2
              go_roundw
              case rel => exact ⟨1 + 1, by go_num, by omega, hbi.trans (hb4.mono hzi), HTwo.out.below hb4⟩
              case measure => simp [RowKit.intOf]
          · go_wp2
            go_roundw
            case rel => exact ⟨l.length + 1, by go_num, by omega, hbi⟩
            case measure => simp [RowKit.intOf]
      · have t0 : ((k : Int) == (l.length : Int)) = false := by simp; omega
        go_wp2
        go_loopw [34] (fun v wi => InRel w0.heap.size w v wi) (fun v _ => (2 - RowKit.intOf v).toNat)
        case atStart => exact ⟨0, rfl, by omega, hbw.alloc hsz _, two_new w0⟩
        case round =>
          obtain ⟨j, rfl, hj, hbi, hTwo⟩ := hrel
          generalize wr = wi at hbi hTwo ⊢
          have hzi := hbi.size
          have hc0 := hTwo.1
          have hc1 := hTwo.2
          have HTwo := Lib.hid hTwo
          clear hTwo
          rcases (by omega : j = 0 ∨ j = 1 ∨ j = 2) with rfl | rfl | rfl
          · have cR := read_any l a cap (k : Int) false wi (hs.below hbi) (by omega) (hT.below hbi).2
            have cF := refRead_any l a cap (k : Int) false wi (hs.below hbi) (by omega)
            cases ho : rdAt l (k : Int) false with
            | none =>
              rw [ho, resP_none rfl] at cR
              rw [ho, resR_none rfl] at cF
              clear ho
              go_wp2_with fail
              refine cR.mono ?_
              rintro e w3 ⟨rfl, rfl⟩
              go_wp2_with fail
              refine cF.mono ?_
              rintro e w4 ⟨rfl, hb4⟩
              go_wp2
              go_roundw
              case rel => exact ⟨0 + 1, by go_num, by omega, hbi.trans (hb4.mono hzi), HTwo.out.below hb4⟩
              case measure => simp [RowKit.intOf]
            | some p =>
              obtain ⟨s, e⟩ := p
              rw [ho, resP_some rfl rfl] at cR
              rw [ho, resR_some rfl rfl] at cF
              have g1 : (0 : Int) ≤ (e : Int) := by omega
              have g2 : max (e : Int) 0 = (e : Int) := by omega
              clear ho
              go_wp2_with fail
              refine cR.mono ?_
              rintro e1 w3 ⟨rfl, rfl⟩
              go_wp2_with fail
              refine cF.mono ?_
              rintro e2 w4 ⟨rfl, hb4⟩
              go_wp2
              go_roundw
              case rel => exact ⟨0 + 1, by go_num, by omega, hbi.trans (hb4.mono hzi), HTwo.out.below hb4⟩
              case measure => simp [RowKit.intOf]
          · have cR := read_any l a cap (k : Int) true wi (hs.below hbi) (by omega) (hT.below hbi).2
            have cF := refRead_any l a cap (k : Int) true wi (hs.below hbi) (by omega)
            cases ho : rdAt l (k : Int) true with
            | none =>
              rw [ho, resP_none rfl] at cR
              rw [ho, resR_none rfl] at cF
              clear ho
              go_wp2_with fail
              refine cR.mono ?_
              rintro e w3 ⟨rfl, rfl⟩
              go_wp2_with fail
              refine cF.mono ?_
              rintro e w4 ⟨rfl, hb4⟩
              go_wp2
              go_roundw
              case rel => exact ⟨1 + 1, by go_num, by omega, hbi.trans (hb4.mono hzi), HTwo.out.below hb4⟩
              case measure => simp [RowKit.intOf]
            | some p =>
              obtain ⟨s, e⟩ := p
              rw [ho, resP_some rfl rfl] at cR
              rw [ho, resR_some rfl rfl] at cF
              have g1 : (0 : Int) ≤ (e : Int) := by omega
              have g2 : max (e : Int) 0 = (e : Int) := by omega
              clear ho
              go_wp2_with fail
              refine cR.mono ?_
              rintro e1 w3 ⟨rfl, rfl⟩
              go_wp2_with fail
              refine cF.mono ?_
              rintro e2 w4 ⟨rfl, hb4⟩
              go_wp2
              go_roundw
              case rel => exact ⟨1 + 1, by go_num, by omega, hbi.trans (hb4.mono hzi), HTwo.out.below hb4⟩
              case measure => simp [RowKit.intOf]
          · go_wp2
            go_roundw
            case rel => exact ⟨k + 1, by go_num, by omega, hbi⟩
            case measure => simp [RowKit.intOf]; omega
    · have hk2 : ¬ ((k : Int) < (l.length : Int) + 1) := by omega
      go_wp2
      go_ret
      exact ⟨rfl, hbw⟩
end Go.Proofs.YtkcmpceckbggmaaDoor
