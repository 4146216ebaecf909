/- The document's example, and the law RefPoints. -/
import Derived.Test.YtkcmpceckbggmaaDoorText
import Derived.Lib.SlBytesConst
namespace Go.Proofs.YtkcmpceckbggmaaDoor
open Go.RowKit Go.Lib
open Ch (at0 nx nx_width nx_range at0_lt at0_drop enc_len Sl Sl.below Cells ret_bool)

def exA : List UInt8 := [38, 108, 116, 59, 98, 32, 38, 35, 51, 51]
def exB : List UInt8 := [38, 99, 111, 112, 121, 61, 49]
set_option maxRecDepth 100000 in
theorem exA_txt : txt false exA = [60, 98, 32, 33] := by decide +kernel
set_option maxRecDepth 100000 in
theorem exB_txt : txt true exB = [38, 99, 111, 112, 121, 61, 49] := by decide +kernel

theorem row_cell' (w : World) (t : TypeId) (i : Nat) (v : Value) (cs : Array Value) (fr : Nat × Nat) (h : cs[i]? = some v) : (w.alloc (.cells cs t fr)).cell? ⟨w.heap.size, i, none⟩ = some v := by
  simp [World.cell?, World.alloc, -World.alloc_eq]
  exact h

/-- a constant as a slice of bytes: a new row with its mark -/
theorem sl_const (l : List UInt8) (w : World) (cs : Array Value) (n : Nat) (h : cs = (byteCells l).toArray) (hn : l.length = n) :
    Sl l (some ⟨w.heap.size, 0, none⟩) n (w.alloc (.cells cs 5 (n, n + 1))) ∧ Below w.heap.size w (w.alloc (.cells cs 5 (n, n + 1))) ∧ (w.alloc (.cells cs 5 (n, n + 1))).heap.size = w.heap.size + 1 ∧
      (convert 22 22 (.slice (some ⟨w.heap.size, 0, none⟩) n n)).run Tryd.prog (w.alloc (.cells cs 5)) = .ok (.slice (some ⟨w.heap.size, 0, none⟩) n n) (w.alloc (.cells cs 5 (n, n + 1))) := by
  have hsz : cs.size = n := by rw [h, ← hn]; simp [byteCells]
  refine ⟨⟨by omega, Or.inr ⟨w.heap.size, 0, rfl, fun j hj => ?_⟩⟩, (Below.refl _ w).alloc (Nat.le_refl _) _, by simp, ?_⟩
  · rw [Nat.zero_add]
    apply row_cell'
    rw [h]
    simp [byteCells, at0, List.getD_eq_getElem?_getD, List.getElem?_eq_getElem hj]
  · have := Lib.run_convert_bytes_const (P := Tryd.prog) w 22 5 cs n n Tryd.underlying22 Tryd.underlying5
    rw [hsz] at this
    exact this

set_option maxHeartbeats 4000000 in
set_option maxRecDepth 100000 in
theorem speaks_any (w : World) (hT : Tb w) :
    Calls Tryd.prog 9 #[] w fun e w' => e = .returned (.bool true) ∧ Below w.heap.size w w' := by
  obtain ⟨hA, hb1, hz, k1⟩ := sl_const exA w #[.int .u8 38, .int .u8 108, .int .u8 116, .int .u8 59, .int .u8 98, .int .u8 32, .int .u8 38, .int .u8 35, .int .u8 51, .int .u8 51] 10 (by rfl) rfl
  obtain ⟨W1, hW1⟩ : ∃ W, w.alloc (.cells #[.int .u8 38, .int .u8 108, .int .u8 116, .int .u8 59, .int .u8 98, .int .u8 32, .int .u8 38, .int .u8 35, .int .u8 51, .int .u8 51] 5 (10, 10 + 1)) = W := ⟨_, rfl⟩
  rw [hW1] at hA hb1 hz k1
  obtain ⟨hB, hb2, hz2, k2⟩ := sl_const exB W1 #[.int .u8 38, .int .u8 99, .int .u8 111, .int .u8 112, .int .u8 121, .int .u8 61, .int .u8 49] 7 (by rfl) rfl
  rw [hz] at k2 hB
  obtain ⟨W2, hW2⟩ : ∃ W, W1.alloc (.cells #[.int .u8 38, .int .u8 99, .int .u8 111, .int .u8 112, .int .u8 121, .int .u8 61, .int .u8 49] 5 (7, 7 + 1)) = W := ⟨_, rfl⟩
  rw [hW2] at hB hb2 hz2 k2
  have hA2 := hA.below hb2
  have hb12 : Below w.heap.size w W2 := hb1.trans (hb2.mono hb1.size)
  have hT2 := hT.below hb12
  have c1 := text_any exA (some ⟨w.heap.size, 0, none⟩) 10 0 10 0 10 false W2 hA2 rfl rfl (by decide) hT2 (by decide)
  rw [show (exA.drop 0).take 10 = exA from rfl, exA_txt] at c1
  clear hW1 hW2
  go_enter Tryd.func9, Tryd.ntmps9
  go_wp2_with fail
  refine c1.mono ?_
  rintro e w3 ⟨rfl, hb3⟩
  have c2 := text_any exB (some ⟨w.heap.size + 1, 0, none⟩) 7 0 7 0 7 true w3 (hB.below hb3) rfl rfl (by decide) (hT2.below hb3) (by decide)
  rw [show (exB.drop 0).take 7 = exB from rfl, exB_txt] at c2
  have hz12 := hb12.size
  have hz3 := hb3.size
  go_wp2_with fail
  refine c2.mono ?_
  rintro e w4 ⟨rfl, hb4⟩
  go_wp2
  go_ret
  exact ⟨rfl, (hb12.trans (hb3.mono hz12)).trans (hb4.mono (by omega))⟩

def PtRel (w : World) (v : Value) (wr : World) : Prop := ∃ z : Int, v = .int .i64 z ∧ -1 ≤ z ∧ z ≤ 300 ∧ Below w.heap.size w wr

set_option maxHeartbeats 4000000 in
set_option maxRecDepth 100000 in
theorem refPoints_walk (n : Int) (w : World) (hT : Tb w) :
    Calls Tryd.prog 5 #[.int .i64 n] w fun e w' => e = .returned (.bool true) ∧ Below w.heap.size w w' := by
  go_enter Tryd.func5, Tryd.ntmps5
  go_wp2_with fail
  refine (speaks_any w hT).mono ?_
  rintro e w1 ⟨rfl, hb1⟩
  have HB1 := Lib.hid hb1
  clear hb1
  go_wp2
  go_loopw [3] (fun v wr => PtRel w v wr) (fun v _ => (300 - RowKit.intOf v).toNat)
  case atStart => exact ⟨-1, rfl, by omega, by omega, HB1.out⟩
  case round =>
    obtain ⟨z, rfl, h1, h2, hbw⟩ := hrel
    have hsz := hbw.size
    have hTr := hT.below hbw
    clear HB1
    by_cases hlt : z < 300
    · have hok := pt_ok z
      have c1 := point_any z wr hTr.2
      have c2 := refPoint_any z wr
      have hb : pt z ≤ 1114111 := hok.2.1
      clear hok
      generalize pt z = P at c1 c2 hb
      go_wp2_with fail
      refine c1.mono ?_
      rintro e w2 ⟨rfl, rfl⟩
      go_wp2_with fail
      refine c2.mono ?_
      rintro e w3 ⟨rfl, hb3⟩
      go_wp2
      go_roundw
      case rel => exact ⟨z + 1, by go_num, by omega, by omega, hbw.trans (hb3.mono hsz)⟩
      case measure => simp [RowKit.intOf]; omega
    · have hok := pt_ok n
      have c1 := point_any n wr hTr.2
      have c2 := refPoint_any n wr
      have hb : pt n ≤ 1114111 := hok.2.1
      clear hok
      generalize pt n = P at c1 c2 hb
      go_wp2_with fail
      refine c1.mono ?_
      rintro e w2 ⟨rfl, rfl⟩
      go_wp2_with fail
      refine c2.mono ?_
      rintro e w3 ⟨rfl, hb3⟩
      go_wp2
      go_ret
      exact ⟨ret_bool (by simp), hbw.trans (hb3.mono hsz)⟩
end Go.Proofs.YtkcmpceckbggmaaDoor
