/- The law ClassHexes, walked. -/
import Derived.Test.YtjbiebbcjofjeaaTells
namespace Go.Proofs.Ytjbiebbcjofjeaa
open Go.RowKit Go.Lib

/-- the digits of base 16 -/
def hexL : List UInt8 := [48, 49, 50, 51, 52, 53, 54, 55, 56, 57, 97, 98, 99, 100, 101, 102]

/-- the i-th of them, as a number -/
def hexAt (i : Nat) : Int := if i < 10 then 48 + (i : Int) else 87 + (i : Int)

theorem hexL_at (i : Nat) (h : i < 16) : (at0 hexL i : Int) = hexAt i := by
  have : i = 0 ∨ i = 1 ∨ i = 2 ∨ i = 3 ∨ i = 4 ∨ i = 5 ∨ i = 6 ∨ i = 7 ∨ i = 8 ∨ i = 9 ∨ i = 10 ∨ i = 11 ∨ i = 12 ∨ i = 13 ∨ i = 14 ∨ i = 15 := by omega
  rcases this with rfl | rfl | rfl | rfl | rfl | rfl | rfl | rfl | rfl | rfl | rfl | rfl | rfl | rfl | rfl | rfl <;> rfl
theorem hexL_low (i : Nat) (h : i < 16) : at0 hexL i < 128 := by
  have := hexL_at i h
  unfold hexAt at this
  split at this <;> omega

theorem hex_hexAt (i : Nat) (h : i < 16) : hexZ (hexAt i) = i := by
  unfold hexAt
  split
  · rw [hex_digit (by simp [digitZ]; omega)]; omega
  · have e : lowerZ (87 + (i : Int)) = 87 + (i : Int) := by
      rcases lower_cases (87 + (i : Int)) with ⟨_, b, _⟩ | ⟨_, e⟩
      · omega
      · exact e
    rw [hex_low (by simp [digitZ]; omega) (by rw [e]; omega), e]; omega
theorem lower_hexAt (i : Nat) (h : i < 16) : lowerZ (hexAt i) = hexAt i := by
  rcases lower_cases (hexAt i) with ⟨a, b, _⟩ | ⟨_, e⟩
  · unfold hexAt at a b; split at a <;> split at b <;> omega
  · exact e
theorem hex_great (i : Nat) (h : i < 16) (h10 : 10 ≤ i) : hexZ (55 + (i : Int)) = i := by
  have e : lowerZ (55 + (i : Int)) = 87 + (i : Int) := by
    rcases lower_cases (55 + (i : Int)) with ⟨_, b, e⟩ | ⟨a, e⟩
    · rw [e]; omega
    · omega
  rw [hex_low (by simp [digitZ]; omega) (by rw [e]; omega), e]; omega
theorem lower_great (i : Nat) (h : i < 16) (h10 : 10 ≤ i) : lowerZ (55 + (i : Int)) = 87 + (i : Int) := by
  rcases lower_cases (55 + (i : Int)) with ⟨_, b, e⟩ | ⟨a, e⟩
  · rw [e]; omega
  · omega

/-- class.Hex at a digit of value i -/
theorem hex_at (x : Int) (i : Nat) (h : hexZ x = i) (w : World) :
    Calls Try.prog 6 #[.int .i32 x] w fun e w' => e = .returned (.tuple #[.int .i64 (i : Int), .bool true]) ∧ w = w' := by
  have hH := hex_any x w
  unfold HexRes at hH
  rw [h] at hH
  refine hH.mono ?_
  rintro e w' ⟨rfl, rfl⟩
  exact ⟨ret_pair (by omega) (by simp), rfl⟩

theorem hex_kind {x : Int} (h : 0 ≤ hexZ x) (hd : digitZ x = false) : letterZ x = true := by
  by_cases h2 : 97 ≤ lowerZ x ∧ lowerZ x ≤ 102
  · rcases lower_cases x with ⟨a, b, _⟩ | ⟨_, e⟩
    · simp [letterZ, greatZ, a, b]
    · rw [e] at h2
      have : smallZ x = true := by simp [smallZ]; omega
      simp [letterZ, this]
  · rw [hex_none hd h2] at h; omega

def HexRel (w : World) (w1 : World) (gf : Nat) (wr : World) : Prop :=
  ∃ pos : Nat, wr.heap[w1.heap.size]? = some (.stringIter ⟨hexL.toArray⟩ pos) ∧ Below w.heap.size w wr ∧ 16 ≤ pos + gf

set_option maxHeartbeats 1000000 in
set_option maxRecDepth 100000 in
theorem classHexes_walk (c : Int) (w : World) (_ : -2147483648 ≤ c) (_ : c ≤ 2147483647) :
    Calls Try.prog 4 #[.int .i32 c] w fun e w' => e = .returned (.bool true) ∧ Below w.heap.size w w' := by
  go_enter Try.func4, Try.ntmps4
  go_wp2_with fail
  refine (speaks_any w).mono ?_
  rintro e w1 ⟨rfl, hb1⟩
  have hsz1 := hb1.size
  go_wp2
  go_loopg [] 16 (fun gf wx => HexRel w w1 gf wx)
  case atStart => exact ⟨0, World.iter_heap w1 _ 0, hb1.alloc hsz1 _, by omega⟩
  case round =>
    obtain ⟨pos, hit, hbw, hfu⟩ := hrel
    by_cases hps : pos < 16
    · obtain ⟨g', rfl⟩ : ∃ g', gk = g' + 1 := ⟨gk - 1, by omega⟩
      have hnx : ∀ ty, (Instr.next (.pointer (some ⟨w1.heap.size, 0, none⟩)) true ty).run Try.prog wr = _ := fun ty => Lib.run_next_any_at wr w1.heap.size ⟨hexL.toArray⟩ pos ty hit (by rw [str_size]; exact hps)
      rw [decode_dec, dec_ascii (hexL_low pos hps)] at hnx
      simp only at hnx
      have hit2 := Lib.iterAt_heap wr w1.heap.size ⟨hexL.toArray⟩ pos (pos + 1) hit
      have hbw2 := Lib.below_iterAt hbw (k := w1.heap.size) hsz1 ⟨hexL.toArray⟩ (pos + 1)
      obtain ⟨V, hV⟩ : ∃ V, wr.iterAt w1.heap.size ⟨hexL.toArray⟩ (pos + 1) = V := ⟨_, rfl⟩
      rw [hV, hexL_at pos hps] at hnx
      rw [hV] at hit2 hbw2
      clear hV
      have hH := hex_at (hexAt pos) pos (hex_hexAt pos hps) V
      have hL := lower_any (hexAt pos) V
      rw [lower_hexAt pos hps] at hL
      by_cases h10 : 10 ≤ pos
      · have e : hexAt pos = 87 + (pos : Int) := by unfold hexAt; rw [if_neg (by omega)]
        rw [e] at hH hL hnx
        have h10' : (10 : Int) ≤ (pos : Int) := by omega
        have hG := hex_at (55 + (pos : Int)) pos (hex_great pos hps h10) V
        have hM := lower_any (55 + (pos : Int)) V
        rw [lower_great pos hps h10] at hM
        rw [show (55 : Int) + (pos : Int) = 87 + (pos : Int) - 97 + 65 by omega] at hG hM
        clear e
        go_wp2_with fail
        refine hH.mono ?_
        rintro e w' ⟨rfl, rfl⟩
        go_wp2_with fail
        refine hL.mono ?_
        rintro e w' ⟨rfl, rfl⟩
        go_wp2_with fail
        refine hH.mono ?_
        rintro e w' ⟨rfl, rfl⟩
        go_wp2_with fail
        refine hG.mono ?_
        rintro e w' ⟨rfl, rfl⟩
        go_wp2_with fail
        refine hM.mono ?_
        rintro e w' ⟨rfl, rfl⟩
        go_wp2
        go_roundg g'
        case measure => omega
        case rel => exact ⟨pos + 1, hit2, hbw2, by omega⟩
      · have h10' : decide ((10 : Int) ≤ (pos : Int)) = false := decide_eq_false (by omega)
        have hbd : 0 ≤ hexAt pos ∧ hexAt pos ≤ 127 := by unfold hexAt; rw [if_pos (by omega)]; omega
        generalize hexAt pos = x at hH hL hnx hbd
        clear h10
        go_wp2_with fail
        refine hH.mono ?_
        rintro e w' ⟨rfl, rfl⟩
        go_wp2_with fail
        refine hL.mono ?_
        rintro e w' ⟨rfl, rfl⟩
        go_wp2_with fail
        refine hH.mono ?_
        rintro e w' ⟨rfl, rfl⟩
        go_wp2
        go_roundg g'
        case measure => omega
        case rel => exact ⟨pos + 1, hit2, hbw2, by omega⟩
    · have hnx : ∀ ty, (Instr.next (.pointer (some ⟨w1.heap.size, 0, none⟩)) true ty).run Try.prog wr = _ := fun ty => Lib.run_next_end_at wr w1.heap.size _ pos ty hit (by rw [str_size]; exact hps)
      clear hit
      by_cases h0 : 0 ≤ hexZ c
      · obtain ⟨v, hv⟩ : ∃ v : Nat, hexZ c = v := ⟨(hexZ c).toNat, by omega⟩
        have hv16 : (v : Int) < 16 := by have := hexZ_bd c; omega
        have hv0 : (0 : Int) ≤ (v : Int) := by omega
        have hH := hex_at c v hv wr
        have hD := digit_any c wr
        have hT := letter_any c wr
        have hor := hex_kind h0
        clear h0 hv
        cases hd : digitZ c
        · rw [hd] at hD
          rw [hor hd] at hT
          clear hor hd
          go_wp2_with fail
          refine hH.mono ?_
          rintro e w' ⟨rfl, rfl⟩
          go_wp2_with fail
          refine hD.mono ?_
          rintro e w' ⟨rfl, rfl⟩
          go_wp2_with fail
          refine hT.mono ?_
          rintro e w' ⟨rfl, rfl⟩
          go_wp2
          go_ret
          exact ⟨rfl, hbw⟩
        · rw [hd] at hD
          clear hor hd
          go_wp2_with fail
          refine hH.mono ?_
          rintro e w' ⟨rfl, rfl⟩
          go_wp2_with fail
          refine hD.mono ?_
          rintro e w' ⟨rfl, rfl⟩
          go_wp2
          go_ret
          exact ⟨rfl, hbw⟩
      · have hm : hexZ c = -1 := by have := hexZ_bd c; omega
        have hH := hex_any c wr
        unfold HexRes at hH
        rw [hm, show max (-1 : Int) 0 = 0 from rfl, show decide ((0 : Int) ≤ -1) = false from rfl] at hH
        clear h0 hm
        go_wp2_with fail
        refine hH.mono ?_
        rintro e w' ⟨rfl, rfl⟩
        go_wp2
        go_ret
        exact ⟨rfl, hbw⟩
end Go.Proofs.Ytjbiebbcjofjeaa
