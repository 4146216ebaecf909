/- The law EntityPrefix, walked. -/
import Derived.Test.YtcfljaajhkifmaaDoorNames
import Derived.Test.YtcfljaajhkifmaaDoorMath3
namespace Go.Proofs.YtcfljaajhkifmaaDoor
open Go.RowKit Go.Lib

set_option maxHeartbeats 1000000 in
set_option maxRecDepth 100000 in
theorem entityPrefix_long (k : Nat) (b : List UInt8) (w : World) (h : 100 < b.length) :
    Calls Tryd.prog 4 #[.int .u16 (k : Int), .string ⟨b.toArray⟩] w fun e w' => e = .returned (.bool true) ∧ Below w.heap.size w w' := by
  have h1 : (100 : Int) < (b.length : Int) := by omega
  go_enter Tryd.func4, Tryd.ntmps4
  go_wp2_with fail
  refine (speaks_any w).mono ?_
  rintro e w1 ⟨rfl, rfl⟩
  go_wp2_with fail
  refine (speaks_any w).mono ?_
  rintro e w2 ⟨rfl, rfl⟩
  go_wp2
  go_ret
  exact ⟨rfl, Below.refl _ _⟩

/-- a name out of the row -/
theorem name_cell {w : World} {B g cap : Nat} (h : w.ownsRow B 9 1 (.slice (some ⟨g, 0, none⟩) 61 cap) 61 (strs nameL)) (k : Nat) (hk : k < 61) :
    w.cell? ⟨g, k, none⟩ = some (.string ⟨(nameL.getD k []).toArray⟩) := by
  have hk' : k < nameL.length := hk
  refine (h.cellAt k (by omega)).trans ?_
  simp [strs, List.getElem?_eq_getElem hk']

theorem idx_str (m : List UInt8) (i : Nat) (h : i < (⟨m.toArray⟩ : ByteArray).size) : ((⟨m.toArray⟩ : ByteArray)[i]'h).toNat = at0 m i := by
  have hi : i < m.length := by rw [str_size] at h; exact h
  have : ((⟨m.toArray⟩ : ByteArray)[i]'h) = m[i] := rfl
  rw [this]
  unfold at0
  rw [List.getD_eq_getElem?_getD, List.getElem?_eq_getElem hi]
  rfl

set_option maxHeartbeats 4000000 in
set_option maxRecDepth 100000 in
theorem entityPrefix_walk (k : Nat) (b : List UInt8) (w : World) (hk : k < 65536) (h : b.length ≤ 100) (ht : Lib.TabIs Tryd.prog w "strings.asciiSpace" .u8 Lib.asciiSpaceTab) :
    Calls Tryd.prog 4 #[.int .u16 (k : Int), .string ⟨b.toArray⟩] w fun e w' => e = .returned (.bool true) ∧ Below w.heap.size w w' := by
  have h1 : ¬ ((100 : Int) < (b.length : Int)) := by omega
  obtain ⟨N, hN, hN61⟩ : ∃ N : Nat, (k : Int) % 61 = (N : Int) ∧ N < 61 := ⟨k % 61, by omega, by omega⟩
  go_enter Tryd.func4, Tryd.ntmps4
  go_wp2_with fail
  refine (speaks_any w).mono ?_
  rintro e w1 ⟨rfl, rfl⟩
  go_wp2_with fail
  refine (names_any w ht).mono ?_
  rintro e w1 ⟨g, cap, rfl, hown, hbw⟩
  have hcell := name_cell hown N hN61
  have hmem := name_at N hN61
  clear hown ht
  generalize nameL.getD N [] = x at hcell hmem
  obtain ⟨f1, -, f3, f4⟩ := name_facts hmem
  obtain ⟨b1, b2, b3, b4⟩ := find_behind hmem b
  have fs := List.all_eq_true.1 names_semi x hmem
  have c1 := find_any (x ++ b) w1 (by rw [List.length_append]; omega)
  have c2 := find_any x w1 (by omega)
  have c3 := find_any ((x ++ b).take (findL (x ++ b)).1) w1 (by rw [List.length_take, List.length_append]; omega)
  have c4 := find_any (x ++ [59]) w1 (by rw [List.length_append]; simp; omega)
  unfold semiTells at fs
  rw [b4, ← ext_front, ← str_join] at c3
  rw [← str_join] at c1 c4
  rw [f1] at c2 fs
  clear b4 f1 hmem
  generalize mean x = M at c2 b3 fs
  generalize findL (x ++ [59]) = e4 at c4 fs
  generalize findL (x ++ b) = q at c1 c3 b1 b2 b3
  obtain ⟨n, t⟩ := q
  obtain ⟨n4, t4⟩ := e4
  simp only at c1 c2 c3 c4 b1 b2 b3 fs
  have hadd : ¬ (9223372036854775807 < x.length + b.length) := by omega
  have hadd2 : ¬ (9223372036854775807 < x.length + 1) := by omega
  have hlt : ¬ ((n : Int) < (x.length : Int)) := by omega
  by_cases hn : n = x.length
  · have ht := b3 hn
    subst ht hn
    clear b1 b2 b3 c3
    simp only [Bool.or_eq_true, beq_iff_eq, Prod.mk.injEq] at fs
    rcases fs with hs | ⟨rfl, rfl⟩
    · have hs' : ((⟨x.toArray⟩ : ByteArray)[x.length - 1]'(by rw [str_size]; omega)).toNat = 59 := by rw [idx_str]; exact hs
      clear hs
      go_wp2_with fail
      refine c1.mono ?_
      rintro e w2 ⟨rfl, rfl⟩
      go_wp2_with fail
      refine c2.mono ?_
      rintro e w2 ⟨rfl, rfl⟩
      go_wp2_with fail
      refine c4.mono ?_
      rintro e w2 ⟨rfl, rfl⟩
      go_wp2
      all_goals go_ret
      all_goals exact ⟨rfl, hbw⟩
    · go_wp2_with fail
      refine c1.mono ?_
      rintro e w2 ⟨rfl, rfl⟩
      go_wp2_with fail
      refine c2.mono ?_
      rintro e w2 ⟨rfl, rfl⟩
      go_wp2_with fail
      refine c4.mono ?_
      rintro e w2 ⟨rfl, rfl⟩
      go_wp2
      all_goals go_ret
      all_goals exact ⟨ret_bool (by simp), hbw⟩
  · have hn' : ((n : Int) == (x.length : Int)) = false := by simp; omega
    have hn2 : (x.length : Int) < (n : Int) := by omega
    have hn3 : (n : Int) ≤ ((x.length + b.length : Nat) : Int) := by omega
    clear fs c4 b3
    go_wp2_with fail
    refine c1.mono ?_
    rintro e w2 ⟨rfl, rfl⟩
    go_wp2_with fail
    refine c2.mono ?_
    rintro e w2 ⟨rfl, rfl⟩
    go_wp2_with fail
    refine c3.mono ?_
    rintro e w2 ⟨rfl, rfl⟩
    go_wp2
    go_ret
    exact ⟨rfl, hbw⟩
end Go.Proofs.YtcfljaajhkifmaaDoor
