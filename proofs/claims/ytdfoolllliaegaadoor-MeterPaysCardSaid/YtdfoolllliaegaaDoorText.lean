/- Contracts of the texts of layer 1: a Short's text, and the document's decimal numeral, both by Lib.itoa. -/
import Derived.Test.YtdfoolllliaegaaDoorShelf
import Derived.Test.YtdfoolllliaegaaDoorDec
import Derived.Test.YtdfoolllliaegaaDoorMeter
import Derived.Deep.RegionHeld3
import Derived.Laws.BytesArg
namespace Go.Proofs.YtdfoolllliaegaaDoor
open Go.RowKit

/-- The library's table of powers lies as it is to. -/
def Tab (w : World) : Prop := Lib.TabIs Tryd.prog w "internal/strconv.uint64pow10" .u64 Lib.pow10Tab

theorem gTab : Tryd.prog.globalNamed "internal/strconv.uint64pow10" = some 2 := by kernel_rfl

theorem Tab.lt {w : World} (h : Tab w) : 2 < w.heap.size := by
  unfold Tab Lib.TabIs World.var? at h
  rw [gTab] at h
  simp only [Option.bind_some] at h
  rcases Nat.lt_or_ge 2 w.heap.size with h' | h'
  · exact h'
  · simp [Array.getElem?_eq_none h'] at h

theorem Tab.kept {w w' : World} {row : Option Nat} (h : Tab w) (hg : w.grownBy w' row) (hne : some 2 ≠ row) : Tab w' := by
  have lt := h.lt
  unfold Tab Lib.TabIs World.var? at h ⊢
  rw [gTab] at h ⊢
  simp only [Option.bind_some] at h ⊢
  rw [hg.block 2 lt hne]; exact h

theorem grown_grow (w : World) (k : Nat) (os : Array Obj) : w.grownBy (Sort.grow (w.drewN k) os) none := by
  refine ⟨rfl, rfl, rfl, ?_, fun i hi _ => ?_⟩
  · show w.heap.size ≤ (w.heap ++ os).size
    simp
  · show (w.heap ++ os)[i]? = w.heap[i]?
    exact Array.getElem?_append_left hi

theorem grown_undrew {w w' : World} {row : Option Nat} (g : w.drew.grownBy w' row) : w.grownBy w' row := ⟨g.os, g.tape, g.output, g.size, g.block⟩

theorem keepcells {w w' : World} {b : Nat} {x y : Int} (h : Met w b x y) (g : w.grownBy w' none) : w'.cell? ⟨b, 0, none⟩ = some (.int .i64 x) ∧ w'.cell? ⟨b, 1, none⟩ = some (.int .i64 y) :=
  ⟨(h.kept g (by simp)).c0, (h.kept g (by simp)).c1⟩

theorem itoa_any (n : Int) (w : World) (h0 : -9223372036854775808 ≤ n) (h1 : n ≤ 9223372036854775807) (ht : Tab w) :
    Calls Tryd.prog 22 #[.int .i64 n] w fun e w' => e = .returned (.string ⟨(Lib.itoa n).toArray⟩) ∧ w.grownBy w' none := by
  refine (Tryd.strconv_Itoa n h0 h1 w ht).mono ?_
  rintro e w' ⟨rfl, k, os, rfl⟩
  exact ⟨rfl, grown_grow w k os⟩

set_option maxHeartbeats 1000000 in
theorem error_any (b : Nat) (x y : Int) (w : World) (h : Met w b x y) (x0 : -9223372036854775808 ≤ x) (x1 : x ≤ 9223372036854775807) (y0 : -9223372036854775808 ≤ y) (y1 : y ≤ 9223372036854775807) (ht : Tab w) :
    Calls Tryd.prog 12 #[.pointer (some ⟨b, 0, none⟩)] w fun e w' => e = .returned (.string ⟨(shortText x y).toArray⟩) ∧ w.grownBy w' none := by
  have c0 := h.c0
  have c1 := h.c1
  have lx := Lib.itoa_length_le x x0 x1
  have ly := Lib.itoa_length_le y y0 y1
  have k1 : ¬ (9223372036854775807 < (Lib.itoa x).length + 4) := by omega
  have k2 : ¬ (9223372036854775807 < (Lib.itoa x).length + 4 + (Lib.itoa y).length) := by omega
  clear lx ly
  go_enter Tryd.func12, Tryd.ntmps12
  go_wp2_with fail
  go_region_held3 (fun w' => w'.cell? ⟨b, 0, none⟩ = some (.int .i64 x) ∧ w'.cell? ⟨b, 1, none⟩ = some (.int .i64 y)) (first | exact ⟨c0, c1⟩ | exact keepcells h (by assumption))
    (first
      | (go_at_call_of 22 (Value.int IntKind.i64 x); refine (itoa_any x _ x0 x1 ?_).mono ?_; (exact ht); rintro e w' ⟨rfl, g1⟩; have g1 := grown_undrew g1)
      | (go_at_call_of 22 (Value.int IntKind.i64 y); refine (itoa_any y _ y0 y1 ?_).mono ?_; (exact Tab.kept ht g1 (by simp)); rintro e w'' ⟨rfl, g2⟩; have g3 := grown_trans g1 g2))
  go_wp2
  go_ret
  refine ⟨?_, g3⟩
  unfold shortText
  simp [ByteArray.mk_append_mk]

theorem digit_text (n : Int) (w : World) (h0 : 0 ≤ n) :
    (convert 61 9 (Value.slice (some ⟨w.heap.size, 0, none⟩) 1 1)).run Tryd.prog (w.alloc (Obj.cells #[Value.int IntKind.u8 (48 + n)] 5)) =
      .ok (.string ⟨#[UInt8.ofNat (48 + n.toNat)]⟩) (w.alloc (Obj.cells #[Value.int IntKind.u8 (48 + n)] 5)) := by
  have := run_convert_bytes_arg (P := Tryd.prog) (w.alloc (Obj.cells #[Value.int IntKind.u8 (48 + n)] 5)) 61 5 Tryd.underlying61 Tryd.underlying5 w.heap.size 0 1 1 [48 + n] rfl
    (fun i hi => by obtain rfl : i = 0 := by omega
                    simp [go_sem]) 9 Tryd.underlying9
  rw [this]
  have e : (48 + n).toNat = 48 + n.toNat := by omega
  simp [strOfNums, e]

set_option maxRecDepth 100000 in
set_option maxHeartbeats 1000000 in
theorem decimal_digit (n : Int) (w : World) (h0 : 0 ≤ n) (h1 : n < 10) :
    Calls Tryd.prog 13 #[.int .i64 n] w fun e w' => e = .returned (.string ⟨(Lib.itoa n).toArray⟩) ∧ w.grownBy w' none := by
  rw [itoa_one n h0 h1]
  have d0 : ¬ n < 0 := by omega
  have hcv := digit_text n w h0
  go_enter Tryd.func13, Tryd.ntmps13
  go_wp2
  go_ret
  exact ⟨rfl, World.grownBy_alloc _ _ _⟩

set_option maxHeartbeats 1000000 in
theorem decimal_minus (n : Int) (w : World) (h0 : n < 0) (h1 : -10 < n) :
    Calls Tryd.prog 13 #[.int .i64 n] w fun e w' => e = .returned (.string ⟨(Lib.itoa n).toArray⟩) ∧ w.grownBy w' none := by
  rw [itoa_minus n h0]
  have k1 : ¬ (9223372036854775807 < 1 + (Lib.itoa (-n)).length) := by rw [itoa_one (-n) (by omega) (by omega)]; simp
  go_enter Tryd.func13, Tryd.ntmps13
  go_wp2_with fail
  refine (decimal_digit (-n) _ (by omega) (by omega)).mono ?_
  rintro e w1 ⟨rfl, g1⟩
  go_wp2
  go_ret
  exact ⟨by simp [ByteArray.mk_append_mk], g1⟩

set_option maxHeartbeats 2000000 in
theorem decimal_any (k : Nat) : ∀ (n : Int) (w : World), n.natAbs ≤ k → -9223372036854775808 ≤ n → n ≤ 9223372036854775807 →
    Calls Tryd.prog 13 #[.int .i64 n] w fun e w' => e = .returned (.string ⟨(Lib.itoa n).toArray⟩) ∧ w.grownBy w' none := by
  induction k with
  | zero => intro n w h0 _ _; exact decimal_digit n w (by omega) (by omega)
  | succ k ih =>
    intro n w hk b0 b1
    by_cases h1 : 0 ≤ n ∧ n < 10
    · exact decimal_digit n w h1.1 h1.2
    by_cases h2 : n < 0 ∧ -10 < n
    · exact decimal_minus n w h2.1 h2.2
    have HI := Lib.hid ih
    clear ih
    by_cases h3 : 0 ≤ n
    · have h4 : 10 ≤ n := by omega
      rw [itoa_ten n h4]
      have q0 : n.tdiv 10 = n / 10 := Int.tdiv_eq_ediv_of_nonneg h3
      have q1 : n.tmod 10 = n % 10 := Int.tmod_eq_emod_of_nonneg h3
      rw [q0, q1]
      have l0 := Lib.itoa_length_le (n / 10) (by omega) (by omega)
      have l1 := Lib.itoa_length_le (n % 10) (by omega) (by omega)
      have k1 : ¬ (9223372036854775807 < (Lib.itoa (n / 10)).length + (Lib.itoa (n % 10)).length) := by omega
      clear l0 l1 q0 q1 h1 h2
      have h5 : ¬ n < 0 := by omega
      have h6 : ¬ n < 10 := by omega
      go_enter Tryd.func13, Tryd.ntmps13
      go_wp2_with fail
      refine (HI.out (n / 10) _ (by omega) (by omega) (by omega)).mono ?_
      rintro e w1 ⟨rfl, g1⟩
      go_wp2_with fail
      refine (HI.out (n % 10) _ (by omega) (by omega) (by omega)).mono ?_
      rintro e w2 ⟨rfl, g2⟩
      go_wp2
      go_ret
      exact ⟨by simp [ByteArray.mk_append_mk], grown_trans g1 g2⟩
    · have h4 : n ≤ -10 := by omega
      rw [itoa_below n h4]
      have h5 : n < 0 := by omega
      have h6 : ¬ -10 < n := by omega
      clear h1 h2
      have r0 : n.tmod 10 = -((-n) % 10) := by
        obtain ⟨m, rfl⟩ : ∃ m : Int, n = -m := ⟨-n, by omega⟩
        rw [Int.neg_tmod, Int.neg_neg, Int.tmod_eq_emod_of_nonneg (by omega)]
      have q0 : n.tdiv 10 = -((-n) / 10) := by
        obtain ⟨m, rfl⟩ : ∃ m : Int, n = -m := ⟨-n, by omega⟩
        rw [Int.neg_tdiv, Int.neg_neg, Int.tdiv_eq_ediv_of_nonneg (by omega)]
      have r1 : n.tmod 10 ≤ 0 := by omega
      have r2 : -9 ≤ n.tmod 10 := by omega
      have q1 : n.tdiv 10 ≤ 0 := by omega
      have q2 : -9223372036854775808 ≤ n.tdiv 10 := by omega
      have q3 : (n.tdiv 10).natAbs ≤ k := by omega
      have l0 := Lib.itoa_length_le (n.tdiv 10) (by omega) (by omega)
      have l1 := Lib.itoa_length_le (-(n.tmod 10)) (by omega) (by omega)
      have k1 : ¬ (9223372036854775807 < (Lib.itoa (n.tdiv 10)).length + (Lib.itoa (-(n.tmod 10))).length) := by omega
      clear l0 l1 q0 r0
      by_cases h7 : n.tmod 10 < 0
      · go_enter Tryd.func13, Tryd.ntmps13
        go_wp2_with fail
        refine (HI.out (n.tdiv 10) _ q3 (by omega) (by omega)).mono ?_
        rintro e w1 ⟨rfl, g1⟩
        go_wp2_with fail
        refine (HI.out (-(n.tmod 10)) _ (by omega) (by omega) (by omega)).mono ?_
        rintro e w2 ⟨rfl, g2⟩
        go_wp2
        go_ret
        exact ⟨by simp [ByteArray.mk_append_mk], grown_trans g1 g2⟩
      · have r3 : n.tmod 10 = 0 := by omega
        rw [r3] at k1 ⊢
        rw [Int.neg_zero] at k1 ⊢
        go_enter Tryd.func13, Tryd.ntmps13
        go_wp2_with fail
        refine (HI.out (n.tdiv 10) _ q3 (by omega) (by omega)).mono ?_
        rintro e w1 ⟨rfl, g1⟩
        go_wp2_with fail
        refine (HI.out 0 _ (by omega) (by omega) (by omega)).mono ?_
        rintro e w2 ⟨rfl, g2⟩
        go_wp2
        go_ret
        exact ⟨by simp [ByteArray.mk_append_mk], grown_trans g1 g2⟩
end Go.Proofs.YtdfoolllliaegaaDoor
