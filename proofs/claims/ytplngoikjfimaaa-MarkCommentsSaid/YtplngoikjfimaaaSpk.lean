/- The document's example, and the law MarkTags. -/
import Derived.Test.YtplngoikjfimaaaRead
import Derived.Lib.SlBytesConst
namespace Go.Proofs.Ytplngoikjfimaaa
open Go.RowKit Go.Lib

variable {l m : List UInt8} {a : Option Addr} {cap i b off : Nat} {w w' : World}

/-- a list's bytes, as cells -/
def cellsB (l : List UInt8) : List Value := l.map fun b => .int .u8 (b.toNat : Int)

theorem row_cell' (w : World) (t : TypeId) (i : Nat) (v : Value) (cs : Array Value) (fr : Nat × Nat) (h : cs[i]? = some v) : (w.alloc (.cells cs t fr)).cell? ⟨w.heap.size, i, none⟩ = some v := by
  simp [World.cell?, World.alloc, -World.alloc_eq]
  exact h

theorem cellsB_at {l : List UInt8} {j : Nat} (hj : j < l.length) : (cellsB l)[j]? = some (.int .u8 ((at0 l j : Nat) : Int)) := by
  simp [cellsB, at0, List.getD_eq_getElem?_getD, List.getElem?_eq_getElem hj]

/-- a constant as a slice of bytes: a new row with its mark -/
theorem sl_const (l : List UInt8) (w : World) (cs : Array Value) (n : Nat) (h : cs = (cellsB l).toArray) (hn : l.length = n) :
    Cells l w.heap.size 0 (w.alloc (.cells cs 5 (n, n + 1))) ∧ Below w.heap.size w (w.alloc (.cells cs 5 (n, n + 1))) ∧ (w.alloc (.cells cs 5 (n, n + 1))).heap.size = w.heap.size + 1 ∧
      (convert 22 22 (.slice (some ⟨w.heap.size, 0, none⟩) n n)).run Try.prog (w.alloc (.cells cs 5)) = .ok (.slice (some ⟨w.heap.size, 0, none⟩) n n) (w.alloc (.cells cs 5 (n, n + 1))) := by
  have hsz : cs.size = n := by rw [h, ← hn]; simp [cellsB]
  refine ⟨fun j hj => ?_, (Below.refl _ w).alloc (Nat.le_refl _) _, by simp, ?_⟩
  · rw [Nat.zero_add]
    apply row_cell'
    rw [h, List.getElem?_toArray]
    exact cellsB_at hj
  · have := Lib.run_convert_bytes_const (P := Try.prog) w 22 5 cs n n Try.underlying22 Try.underlying5
    rw [hsz] at this
    exact this

def exA : List UInt8 := [60, 33, 45, 45, 32, 97, 32, 45, 45, 62, 32, 98]
set_option maxRecDepth 100000 in
theorem exA_ans : rdAns exA 0 = .tuple #[.int .i64 1, .int .i64 10, .bool true] := by
  have h1 : kd (exA.drop 0) = 1 := by decide +kernel
  have h2 : ln (exA.drop 0) 1 = 10 := by decide +kernel
  unfold rdAns
  rw [h1, h2]
  rfl

set_option maxHeartbeats 4000000 in
set_option maxRecDepth 100000 in
theorem speaks_any (w : World) :
    Calls Try.prog 6 #[] w fun e w' => e = .returned (.bool true) ∧ Below w.heap.size w w' := by
  obtain ⟨hA, hb1, hz, k1⟩ := sl_const exA w #[.int .u8 60, .int .u8 33, .int .u8 45, .int .u8 45, .int .u8 32, .int .u8 97, .int .u8 32, .int .u8 45, .int .u8 45, .int .u8 62, .int .u8 32, .int .u8 98] 12 (by rfl) rfl
  obtain ⟨W1, hW1⟩ : ∃ W, w.alloc (.cells #[.int .u8 60, .int .u8 33, .int .u8 45, .int .u8 45, .int .u8 32, .int .u8 97, .int .u8 32, .int .u8 45, .int .u8 45, .int .u8 62, .int .u8 32, .int .u8 98] 5 (12, 12 + 1)) = W := ⟨_, rfl⟩
  rw [hW1] at hA hb1 hz k1
  have c1 := read_any 0 W1 (l := exA) (cap := 12) ⟨by decide, Or.inr ⟨w.heap.size, 0, rfl, hA⟩⟩ (by decide) (by decide)
  rw [exA_ans] at c1
  have HB := Lib.hid hb1
  have hz1 := hb1.size
  clear hW1 hA hb1
  go_enter Try.func6, Try.ntmps6
  go_wp2_with fail
  refine c1.mono ?_
  rintro e w3 ⟨rfl, hb3⟩
  go_wp2
  go_ret
  exact ⟨rfl, HB.out.trans (hb3.mono hz1)⟩

set_option maxHeartbeats 1000000 in
set_option maxRecDepth 100000 in
theorem markTags_long (n : Nat) (a : Option Addr) (cap : Nat) (w : World) (h : 300 < n) :
    Calls Try.prog 3 #[.slice a n cap] w fun e w' => e = .returned (.bool true) ∧ Below w.heap.size w w' := by
  have h1 : (300 : Int) < (n : Int) := by omega
  go_enter Try.func3, Try.ntmps3
  go_wp2_with fail
  refine (speaks_any w).mono ?_
  rintro e w1 ⟨rfl, hb1⟩
  go_wp2_with fail
  refine (speaks_any w1).mono ?_
  rintro e w2 ⟨rfl, hb2⟩
  go_wp2
  go_ret
  exact ⟨rfl, hb1.trans (hb2.mono hb1.size)⟩

/-- where the loop stands -/
def TgRel (l : List UInt8) (w : World) (v : Value) (wr : World) : Prop := ∃ k : Nat, v = .int .i64 (k : Int) ∧ k ≤ l.length ∧ Below w.heap.size w wr

theorem bg_mark {l : List UInt8} {k : Nat} (hk : k < l.length) (h : kd (l.drop k) ≠ 0) : bgAt l (k : Int) = 0 := by
  have hM := mark_is h
  have e : bgAt l (k : Int) = bg (l.drop k) := if_pos (by omega)
  rw [e]
  unfold bg
  rw [if_pos hM.1, if_neg (by rw [hM.2.1]; decide), if_neg hM.2.2.1]

set_option maxHeartbeats 4000000 in
set_option maxRecDepth 100000 in
theorem markTags_walk (l : List UInt8) (a : Option Addr) (cap : Nat) (w : World) (hs : Sl l a cap w) (h : l.length ≤ 300) :
    Calls Try.prog 3 #[.slice a l.length cap] w fun e w' => e = .returned (.bool true) ∧ Below w.heap.size w w' := by
  have h1 : ¬ ((300 : Int) < (l.length : Int)) := by omega
  have HS := Lib.hid hs
  clear hs
  go_enter Try.func3, Try.ntmps3
  go_wp2_with fail
  refine (speaks_any w).mono ?_
  rintro e w1 ⟨rfl, hb1⟩
  have HB1 := Lib.hid hb1
  clear hb1
  go_wp2
  go_loopw [19] (fun v wr => TgRel l w v wr) (fun v _ => l.length - (RowKit.intOf v).toNat)
  case atStart => exact ⟨0, rfl, by omega, HB1.out⟩
  case round =>
    obtain ⟨k, rfl, hk, hbw⟩ := hrel
    have hsz := hbw.size
    clear HB1
    by_cases hlt : k < l.length
    · have hlt' : (k : Int) < (l.length : Int) := by omega
      have hsr := HS.out.below hbw
      have cR := read_any k wr hsr hlt (by omega)
      unfold rdAns at cR
      have HBW := Lib.hid hbw
      by_cases hkd : kd (l.drop k) = 0
      · rw [hkd] at cR
        go_wp2_with fail
        refine cR.mono ?_
        rintro e w2 ⟨rfl, hb2⟩
        have hb02 := HBW.out.trans (hb2.mono hsz)
        have hz2 := hb02.size
        have cB := begins_any (k : Int) w2 (HS.out.below hb02) (by omega)
        generalize decide (bgAt l (k : Int) ≠ 0) = B1 at cB
        generalize decide (bgAt l (k : Int) = 2) = B2 at cB
        have HB02 := Lib.hid hb02
        clear hb02 hb2
        go_wp2_with fail
        refine cB.mono ?_
        rintro e w3 ⟨rfl, rfl⟩
        go_wp2
        go_roundw
        case rel => exact ⟨k + 1, by go_num, by omega, HB02.out⟩
        case measure => simp [RowKit.intOf]; omega
      · have hM := mark_is hkd
        have hbg := bg_mark hlt hkd
        rw [if_neg hkd, decide_eq_true hkd] at cR
        have m0 : at0 l k = 60 := by have := hM.1; rwa [at0_drop] at this
        obtain ⟨h2, hle, hend⟩ := hM.2.2.2
        rw [List.length_drop] at hle hend
        rw [at0_drop] at hend
        clear hM
        generalize kd (l.drop k) = K at *
        generalize ln (l.drop k) K = L at *
        obtain ⟨E, rfl⟩ : ∃ E, L = E + 1 := ⟨L - 1, by omega⟩
        have e1 : ((k + (E + 1) : Nat) : Int) = ((k + E : Nat) : Int) + 1 := by omega
        rw [e1] at cR
        have hend2 := Lib.hid (show k + E + 1 < l.length → at0 l (k + E) = 62 from fun h => hend (by omega))
        have hE2 : k + 1 ≤ k + E := by omega
        have hle2 : k + E + 1 ≤ l.length := by omega
        clear h2 hle hend e1
        generalize k + E = F at *
        obtain ⟨hcap, hz | ⟨b, off, rfl, hc⟩⟩ := HS.out
        · rw [hz] at hlt; simp at hlt
        have HC := Lib.hid hc
        have HM0 := Lib.hid m0
        clear hc hsr hbw m0 hkd
        go_wp2_with fail
        refine cR.mono ?_
        rintro e w2 ⟨rfl, hb2⟩
        have hb02 := HBW.out.trans (hb2.mono hsz)
        have hz2 := hb02.size
        have cB := begins_any (k : Int) w2 (HS.out.below hb02) (by omega)
        rw [hbg] at cB
        have k0 := (HC.out.below hb02) k hlt
        rw [HM0.out] at k0
        have HB02 := Lib.hid hb02
        have hFk : ¬ ((F : Int) + 1 < (k : Int) + 2) := by omega
        have hFl : ¬ ((l.length : Int) < (F : Int) + 1) := by omega
        by_cases hin : F + 1 < l.length
        · have k1 := (HC.out.below hb02) F (by omega)
          rw [hend2.out hin] at k1
          have hin' : (F : Int) + 1 < (l.length : Int) := by omega
          clear hb02 hb2 hbg cR
          go_wp2_with fail
          refine cB.mono ?_
          rintro e w3 ⟨rfl, rfl⟩
          go_wp2
          go_roundw
          case rel => exact ⟨k + 1, by go_num, by omega, HB02.out⟩
          case measure => simp [RowKit.intOf]; omega
        · have hin' : ¬ ((F : Int) + 1 < (l.length : Int)) := by omega
          clear hb02 hb2 hbg cR
          go_wp2_with fail
          refine cB.mono ?_
          rintro e w3 ⟨rfl, rfl⟩
          go_wp2
          go_roundw
          case rel => exact ⟨k + 1, by go_num, by omega, HB02.out⟩
          case measure => simp [RowKit.intOf]; omega
    · have hlt' : ¬ ((k : Int) < (l.length : Int)) := by omega
      go_wp2
      go_ret
      exact ⟨rfl, hbw⟩
end Go.Proofs.Ytplngoikjfimaaa
