/- The document's example, and the law RawEnds. -/
import Derived.Test.YtpamdilmoakflaaRe
namespace Go.Proofs.Ytpamdilmoakflaa
open Go.RowKit Go.Lib

variable {l m p : List UInt8} {a : Option Addr} {cap i b off : Nat} {w w' : World}

def exS : List UInt8 := [97, 60, 47, 115, 116, 121, 108, 101, 115, 62, 60, 47, 83, 84, 89, 76, 69, 32]
set_option maxRecDepth 100000 in
theorem exS_ans : ed [115, 116, 121, 108, 101] exS 0 = 10 := by decide +kernel

set_option maxHeartbeats 2000000 in
set_option maxRecDepth 100000 in
theorem speaks_any (w : World) : Calls Try.prog 6 #[] w fun e w' => e = .returned (.bool true) ∧ Below w.heap.size w w' := by
  obtain ⟨hA, hbA, hzA, kA⟩ := sl_const exS w #[.int .u8 97, .int .u8 60, .int .u8 47, .int .u8 115, .int .u8 116, .int .u8 121, .int .u8 108, .int .u8 101, .int .u8 115, .int .u8 62, .int .u8 60, .int .u8 47, .int .u8 83, .int .u8 84, .int .u8 89, .int .u8 76, .int .u8 69, .int .u8 32] 18 (by rfl) rfl
  obtain ⟨W1, hW1⟩ : ∃ W, w.alloc (.cells #[.int .u8 97, .int .u8 60, .int .u8 47, .int .u8 115, .int .u8 116, .int .u8 121, .int .u8 108, .int .u8 101, .int .u8 115, .int .u8 62, .int .u8 60, .int .u8 47, .int .u8 83, .int .u8 84, .int .u8 89, .int .u8 76, .int .u8 69, .int .u8 32] 5 (18, 18 + 1)) = W := ⟨_, rfl⟩
  rw [hW1] at hA hbA hzA kA
  clear hW1
  have hs : Sl exS (some ⟨w.heap.size, 0, none⟩) 18 W1 := ⟨by decide, Or.inr ⟨_, _, rfl, hA⟩⟩
  have cE := end_any [115, 116, 121, 108, 101] 0 W1 hs (by decide) (by decide) (by decide)
  rw [exS_ans] at cE
  change Calls Try.prog 7 #[.slice (some ⟨w.heap.size, 0, none⟩) 18 18, .int .i64 0, .string ⟨#[115, 116, 121, 108, 101]⟩] W1 _ at cE
  have HB := Lib.hid hbA
  have hz := hbA.size
  clear hs hA hbA
  go_enter Try.func6, Try.ntmps6
  go_wp2_with fail
  refine cE.mono ?_
  rintro e w1 ⟨rfl, hb1⟩
  have cK := kind_any [115, 116, 121, 108, 101] w1
  rw [show kdN [115, 116, 121, 108, 101] = 2 from by decide] at cK
  go_wp2_with fail
  refine cK.mono ?_
  rintro e w2 ⟨rfl, rfl⟩
  go_wp2
  go_ret
  exact ⟨rfl, HB.out.trans (hb1.mono hz)⟩

set_option maxHeartbeats 1000000 in
set_option maxRecDepth 100000 in
theorem rawEnds_long (k : Nat) (a : Option Addr) (cap : Nat) (n : List UInt8) (w : World) (h : 300 < k ∨ 40 < n.length) :
    Calls Try.prog 3 #[.slice a k cap, .string ⟨n.toArray⟩] w fun e w' => e = .returned (.bool true) ∧ Below w.heap.size w w' := by
  have hns := str_size n
  by_cases h1 : 300 < k
  · have h1' : (300 : Int) < (k : Int) := by omega
    go_enter Try.func3, Try.ntmps3
    go_wp2_with fail
    refine (speaks_any w).mono ?_
    rintro e w1 ⟨rfl, hb1⟩
    go_wp2_with fail
    refine (speaks_any w1).mono ?_
    rintro e w2 ⟨rfl, hb2⟩
    go_wp2
    go_ret
    exact ⟨rfl, hb1.trans (hb2.mono hb1.size)⟩
  · have h1' : ¬ ((300 : Int) < (k : Int)) := by omega
    have h2' : (40 : Int) < (n.length : Int) := by omega
    go_enter Try.func3, Try.ntmps3
    go_wp2_with fail
    refine (speaks_any w).mono ?_
    rintro e w1 ⟨rfl, hb1⟩
    go_wp2_with fail
    refine (speaks_any w1).mono ?_
    rintro e w2 ⟨rfl, hb2⟩
    go_wp2
    go_ret
    exact ⟨rfl, hb1.trans (hb2.mono hb1.size)⟩

/-- where the loop stands -/
def EnRel (l : List UInt8) (w : World) (v : Value) (wr : World) : Prop := ∃ k : Nat, v = .int .i64 (k : Int) ∧ k ≤ l.length + 1 ∧ Below w.heap.size w wr

set_option maxHeartbeats 4000000 in
set_option maxRecDepth 100000 in
theorem rawEnds_walk (l : List UInt8) (a : Option Addr) (cap : Nat) (n : List UInt8) (w : World) (hs : Sl l a cap w) (h : l.length ≤ 300) (hn : n.length ≤ 40) :
    Calls Try.prog 3 #[.slice a l.length cap, .string ⟨n.toArray⟩] w fun e w' => e = .returned (.bool true) ∧ Below w.heap.size w w' := by
  have hns := str_size n
  have h1 : ¬ ((300 : Int) < (l.length : Int)) := by omega
  have h2 : ¬ ((40 : Int) < (n.length : Int)) := by omega
  have HS := Lib.hid hs
  clear hs
  go_enter Try.func3, Try.ntmps3
  go_wp2_with fail
  refine (speaks_any w).mono ?_
  rintro e w1 ⟨rfl, hb1⟩
  have HB1 := Lib.hid hb1
  clear hb1
  go_wp2
  go_loopw [22] (fun v wr => EnRel l w v wr) (fun v _ => l.length + 1 - (RowKit.intOf v).toNat)
  case atStart => exact ⟨0, rfl, by omega, HB1.out⟩
  case round =>
    clear HB1
    obtain ⟨k, rfl, hk, hbw⟩ := hrel
    have hsz := hbw.size
    have HBW := Lib.hid hbw
    by_cases hlt : k < l.length + 1
    · have hlt' : (k : Int) < (l.length : Int) + 1 := by omega
      have cE := end_any n k wr (HS.out.below hbw) (by omega) (by omega) (by omega)
      clear hbw
      obtain ⟨E, hE⟩ : ∃ E, ed n l k = E := ⟨_, rfl⟩
      have HE := Lib.hid hE
      rw [hE] at cE
      clear hE
      go_wp2_with fail
      refine cE.mono ?_
      rintro e w2 ⟨rfl, hb2⟩
      have hb02 := HBW.out.trans (hb2.mono hsz)
      have hz2 := hb02.size
      have cR := refEnd_any n k w2 (HS.out.below hb02) (by omega) (by omega) (by omega)
      rw [HE.out] at cR
      have HB02 := Lib.hid hb02
      clear hb02 hb2
      go_wp2_with fail
      refine cR.mono ?_
      rintro e w3 ⟨rfl, hb3⟩
      go_wp2
      go_roundw
      case rel => exact ⟨k + 1, by go_num, by omega, HB02.out.trans (hb3.mono hz2)⟩
      case measure => simp [RowKit.intOf]; omega
    · have hlt' : ¬ ((k : Int) < (l.length : Int) + 1) := by omega
      have cK := kind_any n wr
      have cR := refKind_any n wr
      generalize kdN n = K at cK cR
      clear hbw
      go_wp2_with fail
      refine cK.mono ?_
      rintro e w2 ⟨rfl, rfl⟩
      go_wp2_with fail
      refine cR.mono ?_
      rintro e w3 ⟨rfl, hb3⟩
      go_wp2
      go_ret
      exact ⟨ret_bool (by simp), HBW.out.trans (hb3.mono hsz)⟩
end Go.Proofs.Ytpamdilmoakflaa
