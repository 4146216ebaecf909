/- The reference's Trim, and its Small. -/
import Derived.Test.YtjbiebbcjofjeaaDoorTrim
import Derived.Laws.IdiomStrings
import Derived.Laws.AppendOwn
namespace Go.Proofs.YtjbiebbcjofjeaaDoor
open Go.RowKit Go.Lib

theorem wrap64_byte (n : Nat) (h : n < 256) : wrap64 (n : Int) = n := by unfold wrap64; omega

/-- a string's byte, as an int -/
theorem idx_str (m : List UInt8) (i : Nat) (h : i < (⟨m.toArray⟩ : ByteArray).size) : wrap64 (((⟨m.toArray⟩ : ByteArray)[i]'h).toNat : Int) = (at0 m i : Int) := by
  have hi : i < m.length := by rw [str_size] at h; exact h
  rw [wrap64_byte _ (UInt8.toNat_lt _), getD_at0 hi]
  rfl

theorem ext_tail (c : UInt8) (r : List UInt8) (n : Nat) (h : r.length ≤ n) : (⟨(c :: r).toArray⟩ : ByteArray).extract 1 (n + 1) = ⟨r.toArray⟩ := by
  rw [Lib.extract_eq]
  simp [List.take_of_length_le h]

theorem ext_front (c : UInt8) (r : List UInt8) : (⟨(r ++ [c]).toArray⟩ : ByteArray).extract 0 r.length = ⟨r.toArray⟩ := by
  rw [Lib.extract_eq]
  simp

theorem at_last (r : List UInt8) (c : UInt8) : at0 (r ++ [c]) r.length = c.toNat := by simp [at0]

def BackRel (M : List UInt8) (N gf : Nat) (v : Value) : Prop := ∃ m : List UInt8, v = .string ⟨m.toArray⟩ ∧ rdrop m = rdrop M ∧ m.length ≤ N ∧ m.length ≤ gf

def FrontRel (l : List UInt8) (gf : Nat) (v : Value) : Prop := ∃ m : List UInt8, v = .string ⟨m.toArray⟩ ∧ m.dropWhile bl = l.dropWhile bl ∧ m.length ≤ l.length ∧ m.length ≤ gf

theorem refBlank_at (m : List UInt8) (i : Nat) (h : i < (⟨m.toArray⟩ : ByteArray).size) (w : World) :
    Calls Tryd.prog 20 #[.int .i64 (wrap64 (((⟨m.toArray⟩ : ByteArray)[i]'h).toNat : Int))] w fun e w' => e = .returned (.bool (blankN (at0 m i))) ∧ w = w' := by
  rw [idx_str, ← blankZ_nat]
  exact refBlank_any _ w

set_option maxHeartbeats 1000000 in
set_option maxRecDepth 100000 in
theorem refTrim_any (l : List UInt8) (w : World) (hl : l.length ≤ 281474976710656) :
    Calls Tryd.prog 10 #[.string ⟨l.toArray⟩] w fun e w' => e = .returned (.string ⟨(trimL l).toArray⟩) ∧ w = w' := by
  go_enter Tryd.func10, Tryd.ntmps10
  go_wp2
  go_loopg [0] l.length (fun gf v wx => FrontRel l gf v ∧ w = wx)
  case atStart => exact ⟨⟨l, rfl, rfl, Nat.le_refl _, Nat.le_refl _⟩, rfl⟩
  case round =>
    obtain ⟨⟨m, rfl, hd, hml, hfu⟩, rfl⟩ := hrel
    cases m with
    | nil =>
      have HD := Lib.hid (show [] = l.dropWhile bl from hd)
      clear hd hml hfu
      · go_wp2
        go_loopg [0] l.length (fun gf v wx => BackRel (l.dropWhile bl) l.length gf v ∧ w = wx)
        case atStart => exact ⟨⟨l.dropWhile bl, by rw [← HD.out], rfl, (List.dropWhile_sublist _).length_le, (List.dropWhile_sublist _).length_le⟩, rfl⟩
        case round =>
          obtain ⟨⟨m, rfl, hd2, hml2, hfu2⟩, rfl⟩ := hrel
          have HD2 := Lib.hid hd2
          clear hd2
          have hml3 : m.length ≤ l.length := hml2
          clear hml2
          rcases List.eq_nil_or_concat m with rfl | ⟨r2, c2, rfl⟩
          · go_wp2
            go_ret
            exact ⟨ret_str (l := []) (by unfold trimL; rw [← HD2.out]; rfl), rfl⟩
          · simp only [List.concat_eq_append] at HD2 hml3 hfu2
            have hn : r2.length + 1 ≤ l.length := by simpa using hml3
            have hfu3 : r2.length + 1 ≤ gk := by simpa using hfu2
            clear hml3 hfu2
            have hB2 := refBlank_at (r2 ++ [c2]) r2.length (by rw [str_size]; simp) w
            rw [at_last] at hB2
            have hsn := Lib.hid (rdrop_snoc r2 c2)
            cases hb2 : blankN c2.toNat
            · rw [hb2] at hB2
              go_wp2_with fail
              refine hB2.mono ?_
              rintro e w' ⟨rfl, rfl⟩
              go_wp2
              go_ret
              refine ⟨ret_str ?_, rfl⟩
              unfold trimL
              rw [← HD2.out, hsn.out, show bl c2 = false from hb2]
              rfl
            · rw [hb2] at hB2
              obtain ⟨g2, rfl⟩ : ∃ g2, gk = g2 + 1 := ⟨gk - 1, by omega⟩
              go_wp2_with fail
              refine hB2.mono ?_
              rintro e w' ⟨rfl, rfl⟩
              go_wp2
              go_roundg g2
              case measure => omega
              case rel =>
                have e2 : rdrop r2 = rdrop (l.dropWhile bl) := by rw [← HD2.out, hsn.out, show bl c2 = true from hb2]; rfl
                refine ⟨⟨r2, congrArg Value.string (ext_front c2 r2), e2, by omega, by omega⟩, rfl⟩
    | cons c r =>
      have hB := refBlank_at (c :: r) 0 (by rw [str_size]; simp) w
      have hat : at0 (c :: r) 0 = c.toNat := rfl
      rw [hat] at hB
      cases hb : blankN c.toNat
      · rw [hb] at hB
        rw [List.dropWhile_cons, show bl c = false from hb] at hd
        have HD := Lib.hid (show c :: r = l.dropWhile bl from hd)
        clear hd hml hfu
        go_wp2_with fail
        refine hB.mono ?_
        rintro e w' ⟨rfl, rfl⟩
        clear hB
        go_wp2
        go_loopg [0] l.length (fun gf v wx => BackRel (l.dropWhile bl) l.length gf v ∧ w = wx)
        case atStart => exact ⟨⟨l.dropWhile bl, by rw [← HD.out], rfl, (List.dropWhile_sublist _).length_le, (List.dropWhile_sublist _).length_le⟩, rfl⟩
        case round =>
          obtain ⟨⟨m, rfl, hd2, hml2, hfu2⟩, rfl⟩ := hrel
          have HD2 := Lib.hid hd2
          clear hd2
          have hml3 : m.length ≤ l.length := hml2
          clear hml2
          rcases List.eq_nil_or_concat m with rfl | ⟨r2, c2, rfl⟩
          · go_wp2
            go_ret
            exact ⟨ret_str (l := []) (by unfold trimL; rw [← HD2.out]; rfl), rfl⟩
          · simp only [List.concat_eq_append] at HD2 hml3 hfu2
            have hn : r2.length + 1 ≤ l.length := by simpa using hml3
            have hfu3 : r2.length + 1 ≤ gk := by simpa using hfu2
            clear hml3 hfu2
            have hB2 := refBlank_at (r2 ++ [c2]) r2.length (by rw [str_size]; simp) w
            rw [at_last] at hB2
            have hsn := Lib.hid (rdrop_snoc r2 c2)
            cases hb2 : blankN c2.toNat
            · rw [hb2] at hB2
              go_wp2_with fail
              refine hB2.mono ?_
              rintro e w' ⟨rfl, rfl⟩
              go_wp2
              go_ret
              refine ⟨ret_str ?_, rfl⟩
              unfold trimL
              rw [← HD2.out, hsn.out, show bl c2 = false from hb2]
              rfl
            · rw [hb2] at hB2
              obtain ⟨g2, rfl⟩ : ∃ g2, gk = g2 + 1 := ⟨gk - 1, by omega⟩
              go_wp2_with fail
              refine hB2.mono ?_
              rintro e w' ⟨rfl, rfl⟩
              go_wp2
              go_roundg g2
              case measure => omega
              case rel =>
                have e2 : rdrop r2 = rdrop (l.dropWhile bl) := by rw [← HD2.out, hsn.out, show bl c2 = true from hb2]; rfl
                refine ⟨⟨r2, congrArg Value.string (ext_front c2 r2), e2, by omega, by omega⟩, rfl⟩
      · rw [hb] at hB
        have HD := Lib.hid hd
        clear hd
        obtain ⟨g', rfl⟩ : ∃ g', gk = g' + 1 := ⟨gk - 1, by simp at hfu; omega⟩
        go_wp2_with fail
        refine hB.mono ?_
        rintro e w' ⟨rfl, rfl⟩
        go_wp2
        go_roundg g'
        case measure => omega
        case rel =>
          simp at hml hfu
          refine ⟨⟨r, congrArg Value.string (ext_tail c r _ (Nat.le_refl _)), ?_, by omega, by omega⟩, rfl⟩
          rw [← HD.out, List.dropWhile_cons, show bl c = true from hb]
          rfl
end Go.Proofs.YtjbiebbcjofjeaaDoor
