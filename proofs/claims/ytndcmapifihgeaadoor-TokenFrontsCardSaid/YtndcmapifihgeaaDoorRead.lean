/- The program's Read: the reference that begins at a byte. -/
import Derived.Test.YtndcmapifihgeaaDoorName
namespace Go.Proofs.YtndcmapifihgeaaDoor
open Go.RowKit Go.Lib
open Ch (at0 nx nx_width at0_lt at0_drop enc_len Sl Sl.below Cells ret_two Cells.drop)
open En (findL)

theorem sh_sh (i k : Nat) (o : Option (List UInt8 × Nat)) : sh i (sh k o) = sh (i + k) o := by
  cases o with
  | none => rfl
  | some p => simp [sh, Nat.add_assoc]

theorem rdAt_out {l : List UInt8} {x : Int} {attr : Bool} (h : ¬ (0 ≤ x ∧ x < (l.length : Int))) : rdAt l x attr = none := if_neg h
theorem rdAt_in {l : List UInt8} {i : Nat} {attr : Bool} (h : i < l.length) : rdAt l (i : Int) attr = sh i (rd (l.drop i) attr) := by
  unfold rdAt; rw [if_pos (by omega)]; rfl
theorem rdAt_no {l : List UInt8} {i : Nat} {attr : Bool} (h : at0 l i ≠ 38) : rdAt l (i : Int) attr = none := by
  by_cases hi : i < l.length
  · rw [rdAt_in hi]; unfold rd; rw [drop_at, if_neg h]; rfl
  · exact rdAt_out (by omega)
theorem rdAt_num {l : List UInt8} {i : Nat} {attr : Bool} (h : at0 l i = 38) (h1 : at0 l (i + 1) = 35) : rdAt l (i : Int) attr = sh (i + 2) (numM (l.drop (i + 2))) := by
  rw [rdAt_in (at0_in (by omega))]
  unfold rd
  rw [drop_at, if_pos h, at0_drop, if_pos h1, sh_sh, List.drop_drop]
theorem rdAt_name {l : List UInt8} {i : Nat} {attr : Bool} (h : at0 l i = 38) (h1 : at0 l (i + 1) ≠ 35) : rdAt l (i : Int) attr = sh (i + 1) (nameM (l.drop (i + 1)) attr) := by
  rw [rdAt_in (at0_in (by omega))]
  unfold rd
  rw [drop_at, if_pos h, at0_drop, if_neg h1, sh_sh, List.drop_drop]

set_option maxHeartbeats 4000000 in
set_option maxRecDepth 100000 in
theorem read_any (l : List UInt8) (a : Option Addr) (cap : Nat) (x : Int) (attr : Bool) (w : World) (hs : Sl l a cap w) (hl : l.length ≤ 4000000000000000) (hM : Mv w) :
    Calls Tryd.prog 44 #[.slice a l.length cap, .int .i64 x, .bool attr] w fun e w' => e = .returned (resP (rdAt l x attr)) ∧ w = w' := by
  have hL := look_any l a cap x w hs
  by_cases hx : 0 ≤ x ∧ x < (l.length : Int)
  · obtain ⟨i, rfl⟩ : ∃ i : Nat, x = i := ⟨x.toNat, by omega⟩
    have hi : i < l.length := by omega
    clear hx
    by_cases c1 : at0 l i = 38
    · obtain ⟨hcap, h2 | ⟨b, off, rfl, hc⟩⟩ := hs
      · subst h2; simp at hi
      · have hs : Sl l (some ⟨b, off, none⟩) cap w := ⟨hcap, Or.inr ⟨b, off, rfl, hc⟩⟩
        rw [lookZ_is c1 (by decide) (z := 38) rfl] at hL
        have hL2 := look_at l (some ⟨b, off, none⟩) cap ((i : Int) + 1) ((i + 1 : Nat) : Int) w hs (by omega)
        by_cases c2 : at0 l (i + 1) = 35
        · rw [rdAt_num c1 c2]
          rw [lookZ_is c2 (by decide) (z := 35) rfl] at hL2
          have hi2 := at0_in (m := l) (j := i + 1) (by omega)
          have hN := byNumber_any l (some ⟨b, off, none⟩) cap (i + 2) ((i : Int) + 2) w hs (by omega) (by omega) (by omega) hM
          cases hr : sh (i + 2) (numM (l.drop (i + 2))) with
          | none =>
            rw [hr, resP_none rfl] at hN
            rw [resP_none rfl]
            clear hr c1 c2
            go_enter Tryd.func44, Tryd.ntmps44
            go_wp2_with fail
            refine hL.mono ?_
            rintro e w' ⟨rfl, rfl⟩
            go_wp2_with fail
            refine hL2.mono ?_
            rintro e w' ⟨rfl, rfl⟩
            go_wp2_with fail
            refine hN.mono ?_
            rintro e w' ⟨rfl, rfl⟩
            go_wp2
            go_ret3
            exact ⟨rfl, rfl⟩
          | some p =>
            obtain ⟨s, e⟩ := p
            rw [hr, resP_some rfl rfl] at hN
            rw [resP_some rfl rfl]
            clear hr c1 c2
            go_enter Tryd.func44, Tryd.ntmps44
            go_wp2_with fail
            refine hL.mono ?_
            rintro e w' ⟨rfl, rfl⟩
            go_wp2_with fail
            refine hL2.mono ?_
            rintro e w' ⟨rfl, rfl⟩
            go_wp2_with fail
            refine hN.mono ?_
            rintro e w' ⟨rfl, rfl⟩
            go_wp2
            go_ret3
            exact ⟨rfl, rfl⟩
        · rw [rdAt_name c1 c2]
          have u1 := lookZ_not c2 (by decide) (z := 35) rfl
          have hN := byName_any l b off cap (i + 1) ((i : Int) + 1) attr w hc hcap (by omega) (by omega) (by omega)
          generalize lookZ l ((i + 1 : Nat) : Int) = L at hL2 u1
          cases hr : sh (i + 1) (nameM (l.drop (i + 1)) attr) with
          | none =>
            rw [hr, resP_none rfl] at hN
            rw [resP_none rfl]
            clear hr c1 c2
            go_enter Tryd.func44, Tryd.ntmps44
            go_wp2_with fail
            refine hL.mono ?_
            rintro e w' ⟨rfl, rfl⟩
            go_wp2_with fail
            refine hL2.mono ?_
            rintro e w' ⟨rfl, rfl⟩
            go_wp2_with fail
            refine hN.mono ?_
            rintro e w' ⟨rfl, rfl⟩
            go_wp2
            go_ret3
            exact ⟨rfl, rfl⟩
          | some p =>
            obtain ⟨s, e⟩ := p
            rw [hr, resP_some rfl rfl] at hN
            rw [resP_some rfl rfl]
            clear hr c1 c2
            go_enter Tryd.func44, Tryd.ntmps44
            go_wp2_with fail
            refine hL.mono ?_
            rintro e w' ⟨rfl, rfl⟩
            go_wp2_with fail
            refine hL2.mono ?_
            rintro e w' ⟨rfl, rfl⟩
            go_wp2_with fail
            refine hN.mono ?_
            rintro e w' ⟨rfl, rfl⟩
            go_wp2
            go_ret3
            exact ⟨rfl, rfl⟩
    · rw [rdAt_no c1, resP_none rfl]
      have u1 := lookZ_not c1 (by decide) (z := 38) rfl
      have u2 : (lookZ l (i : Int) != 38) = true := by unfold bne; rw [u1]; rfl
      generalize lookZ l (i : Int) = L at hL u1 u2
      clear c1
      go_enter Tryd.func44, Tryd.ntmps44
      go_wp2_with fail
      refine hL.mono ?_
      rintro e w' ⟨rfl, rfl⟩
      go_wp2
      go_ret3
      exact ⟨rfl, rfl⟩
  · rw [rdAt_out hx, resP_none rfl]
    rw [lookZ_out hx] at hL
    clear hx
    go_enter Tryd.func44, Tryd.ntmps44
    go_wp2_with fail
    refine hL.mono ?_
    rintro e w' ⟨rfl, rfl⟩
    go_wp2
    go_ret3
    exact ⟨rfl, rfl⟩
end Go.Proofs.YtndcmapifihgeaaDoor
