/- The law ClassEnds, walked. -/
import Derived.Test.YtjbiebbcjofjeaaDoorBlanks
namespace Go.Proofs.YtjbiebbcjofjeaaDoor
open Go.RowKit Go.Lib

theorem wrap32_byte (n : Nat) (h : n < 256) : wrap32 (n : Int) = n := by unfold wrap32; omega

theorem blank_at (m : List UInt8) (i : Nat) (h : i < (⟨m.toArray⟩ : ByteArray).size) (w : World) :
    Calls Tryd.prog 14 #[.int .i32 (wrap32 (((⟨m.toArray⟩ : ByteArray)[i]'h).toNat : Int))] w fun e w' => e = .returned (.bool (blankN (at0 m i))) ∧ w = w' := by
  have hi : i < m.length := by rw [str_size] at h; exact h
  have e : (((⟨m.toArray⟩ : ByteArray)[i]'h).toNat) = at0 m i := by rw [getD_at0 hi]; rfl
  rw [wrap32_byte _ (UInt8.toNat_lt _), e, ← blankZ_nat]
  exact blank_any _ w

set_option maxHeartbeats 1000000 in
set_option maxRecDepth 100000 in
theorem classEnds_walk (s : List UInt8) (n m : Nat) (w : World) (hT : Lib.Utf8Tabs 0 1 w) (h : s.length ≤ 200) (hn : n < 256) (hm : m < 256) :
    Calls Tryd.prog 5 #[.string ⟨s.toArray⟩, .int .u8 (n : Int), .int .u8 (m : Int)] w fun e w' => e = .returned (.bool true) ∧ Below w.heap.size w w' := by
  have h1 : ¬ ((200 : Int) < (s.length : Int)) := by omega
  have hl := trim_length s
  have hhd := trim_head s
  have hla := trim_last s
  have htr := fun w hT => trim_any s w hT (by omega)
  have hnt : nameL s = true → trimL s = s := name_trim
  go_enter Tryd.func5, Tryd.ntmps5
  go_wp2_with fail
  refine (speaks_any w).mono ?_
  rintro e w1 ⟨rfl, b1⟩
  go_wp2_with fail
  refine (htr w1 (Tabs_below hT b1)).mono ?_
  rintro e w2 ⟨rfl, b2⟩
  have B2 := below_two b1 b2
  clear b1 b2 htr
  generalize trimL s = T at hl hhd hla hnt ⊢
  go_wp2_with fail
  refine (blanks_any n w2 hn).mono ?_
  rintro e w3 ⟨⟨A, rfl, hA, hA7⟩, b3⟩
  have B3 := below_two B2 b3
  clear B2 b3
  have k1 : ¬ (9223372036854775807 < A.length + T.length) := by omega
  go_wp2_with fail
  refine (blanks_any m w3 hm).mono ?_
  rintro e w4 ⟨⟨C, rfl, hC, hC7⟩, b4⟩
  have B4 := below_two B3 b4
  clear B3 b4
  have k2 : ¬ (9223372036854775807 < A.length + T.length + C.length) := by omega
  go_wp2_with fail
  have C9 := trim_any (A ++ T ++ C) w4 (Tabs_below hT B4) (by simp; omega)
  rw [trim_between A C T hA hC hhd hla, ← str_join (A ++ T) C, ← str_join A T] at C9
  refine C9.mono ?_
  rintro e w5 ⟨rfl, b5⟩
  have B5 := below_two B4 b5
  clear B4 b5 C9
  go_wp2_with fail
  refine (blanks_any n w5 hn).mono ?_
  rintro e w6 ⟨⟨D, rfl, hD, hD7⟩, b6⟩
  have B6 := below_two B5 b6
  clear B5 b6
  have C10 := trim_any D w6 (Tabs_below hT B6) (by omega)
  rw [trim_blanks D hD] at C10
  go_wp2_with fail
  refine C10.mono ?_
  rintro e w7 ⟨rfl, b7⟩
  have B7 := below_two B6 b7
  clear B6 b7 C10 hA hC hD hA7 hC7 hD7 k1 k2
  cases T with
  | nil =>
    go_wp2
    go_ret
    exact ⟨rfl, B7⟩
  | cons c r =>
    have F0 := blank_at (c :: r) 0 (by rw [str_size]; simp) w7
    rw [show at0 (c :: r) 0 = c.toNat from rfl, show blankN c.toNat = false from hhd c r rfl] at F0
    have hlast : blankN (at0 (c :: r) r.length) = false := by
      rcases List.eq_nil_or_concat (c :: r) with e | ⟨r2, c2, e⟩
      · cases e
      · rw [List.concat_eq_append] at e
        have hlen : r.length = r2.length := by have := congrArg List.length e; simp at this; omega
        rw [hlen, e, show at0 (r2 ++ [c2]) r2.length = c2.toNat by simp [at0]]
        exact hla c2 r2 e
    have F1 := blank_at (c :: r) r.length (by rw [str_size]; simp) w7
    rw [hlast] at F1
    clear hhd hla hlast
    have hN := name_any s w7
    have hr : r.length + 1 ≤ 200 := by simp at hl; omega
    cases hnm : nameL s
    · rw [hnm] at hN
      clear hnt hnm hl
      go_wp2_with fail
      refine F0.mono ?_
      rintro e w8 ⟨rfl, rfl⟩
      go_wp2_with fail
      refine F1.mono ?_
      rintro e w8 ⟨rfl, rfl⟩
      go_wp2_with fail
      refine hN.mono ?_
      rintro e w8 ⟨rfl, b8⟩
      go_wp2
      go_ret
      exact ⟨rfl, below_two B7 b8⟩
    · rw [hnm] at hN
      have q : ((c :: r) == s) = true := by rw [hnt hnm]; simp
      clear hnt hnm hl
      go_wp2_with fail
      refine F0.mono ?_
      rintro e w8 ⟨rfl, rfl⟩
      go_wp2_with fail
      refine F1.mono ?_
      rintro e w8 ⟨rfl, rfl⟩
      go_wp2_with fail
      refine hN.mono ?_
      rintro e w8 ⟨rfl, b8⟩
      go_wp2
      go_ret
      exact ⟨rfl, below_two B7 b8⟩

set_option maxHeartbeats 1000000 in
set_option maxRecDepth 100000 in
theorem classEnds_long (s : List UInt8) (x y : Int) (w : World) (h : 200 < s.length) :
    Calls Tryd.prog 5 #[.string ⟨s.toArray⟩, .int .u8 x, .int .u8 y] w fun e w' => e = .returned (.bool true) ∧ Below w.heap.size w w' := by
  have h1 : (200 : Int) < (s.length : Int) := by omega
  go_enter Tryd.func5, Tryd.ntmps5
  go_wp2_with fail
  refine (speaks_any w).mono ?_
  rintro e w1 ⟨rfl, hb1⟩
  go_wp2_with fail
  refine (speaks_any w1).mono ?_
  rintro e w2 ⟨rfl, hb2⟩
  go_wp2
  go_ret
  exact ⟨rfl, below_two hb1 hb2⟩
end Go.Proofs.YtjbiebbcjofjeaaDoor
