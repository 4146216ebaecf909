/- within, Same and the reference's Same, walked. -/
import Derived.Test.YtnnidajflnandaaAtGet
namespace Go.Proofs.Ytnnidajflnandaa.At
open Go.RowKit Go.Lib

theorem resG_none {o : Option Str} (h : o = none) : resG o = .tuple #[.string ⟨#[]⟩, .bool false] := by rw [h]; rfl
theorem resG_some {o : Option Str} {v : Str} (h : o = some v) : resG o = .tuple #[.string ⟨v.toArray⟩, .bool true] := by rw [h]; rfl

/-- a struct of two cells in a block of its own, behind a call -/
theorem two_kept {w w2 : World} {x y : Value} {t : TypeId} (hb : Below (w.alloc (.cells #[x, y] t)).heap.size (w.alloc (.cells #[x, y] t)) w2) :
    w2.cell? ⟨w.heap.size, 0, none⟩ = some x ∧ w2.cell? ⟨w.heap.size, 1, none⟩ = some y := by
  have hlt : w.heap.size < (w.alloc (.cells #[x, y] t)).heap.size := by simp
  exact ⟨(World.cell?_of_block (hb.block _ hlt)).trans (by simp), (World.cell?_of_block (hb.block _ hlt)).trans (by simp)⟩

set_option maxHeartbeats 2000000 in
set_option maxRecDepth 100000 in
theorem within_any (L : List At) (a : Option Addr) (cap : Nat) (M : List At) (a2 : Option Addr) (cap2 : Nat) (w : World) (hs : Sl L a cap w) (hs2 : Sl M a2 cap2 w) (hl : L.length ≤ 1000000) (hl2 : M.length ≤ 1000000) :
    Calls Try.prog 49 #[.slice a L.length cap, .slice a2 M.length cap2] w fun e w' => e = .returned (.bool (within L M)) ∧ Below w.heap.size w w' := by
  go_enter Try.func49, Try.ntmps49
  go_wp2
  go_loopw [11] (fun v wr => ∃ k : Nat, v = .int .i64 k ∧ k ≤ L.length ∧ within (L.take k) M = true ∧ Below w.heap.size w wr) (fun v _ => L.length - (RowKit.intOf v).toNat)
  case atStart => exact ⟨0, rfl, by omega, rfl, Below.refl _ _⟩
  case round =>
    obtain ⟨k, rfl, hk, hah, hbw⟩ := hrel
    have HA := Lib.hid hah
    have HB := Lib.hid hbw
    have hs' := hs.below hbw
    have hs2' := hs2.below hbw
    clear hah hbw hs hs2
    by_cases hlt : k < L.length
    · obtain ⟨hcap, hnil, h0 | ⟨b, off, rfl, hc⟩⟩ := hs'
      · subst h0; simp at hlt
      · obtain ⟨c1, c2⟩ := hc k hlt
        have h1 : (k : Int) < (L.length : Int) := by omega
        obtain ⟨x1, hx1⟩ : ∃ x, (at0 L k).1 = x := ⟨_, rfl⟩
        obtain ⟨x2, hx2⟩ : ∃ x, (at0 L k).2 = x := ⟨_, rfl⟩
        have hx : at0 L k = (x1, x2) := by rw [← hx1, ← hx2]
        rw [hx1] at c1
        rw [hx2] at c2
        clear hx1 hx2 hnil hc
        have HX := Lib.hid hx
        clear hx
        have hbA : Below wr.heap.size wr (wr.alloc (.cells #[.string ⟨x1.toArray⟩, .string ⟨x2.toArray⟩] 72)) := below_alloc _
        have cG := get_any M a2 cap2 x1 (wr.alloc (.cells #[.string ⟨x1.toArray⟩, .string ⟨x2.toArray⟩] 72)) (hs2'.below hbA) hl2
        have HBA := Lib.hid (HB.out.trans (hbA.mono HB.out.size))
        clear hbA hs2' HB
        cases hg : get M x1 with
        | none =>
          have HN := Lib.hid (within_not (M := M) hlt (by rw [HX.out]; exact has_none hg))
          rw [resG_none hg] at cG
          clear hg HA
          go_wp2_with fail
          refine cG.mono ?_
          rintro e w2 ⟨rfl, hb2⟩
          have HB2 := Lib.hid (HBA.out.trans (hb2.mono HBA.out.size))
          clear hb2
          go_wp2
          go_ret
          exact ⟨ret_bool HN.out.symm, HB2.out⟩
        | some v =>
          rw [resG_some hg] at cG
          cases he : (v == x2)
          · have HN := Lib.hid (within_not (M := M) hlt (by rw [HX.out, has_some hg]; exact he))
            have hne : (v != x2) = true := by simp only [bne, he]; rfl
            clear hg HA
            go_wp2_with fail
            refine cG.mono ?_
            rintro e w2 ⟨rfl, hb2⟩
            obtain ⟨d1, d2⟩ := two_kept hb2
            have HB2 := Lib.hid (HBA.out.trans (hb2.mono HBA.out.size))
            clear hb2
            go_wp2
            go_ret
            exact ⟨ret_bool HN.out.symm, HB2.out⟩
          · have HY := Lib.hid (within_take (M := M) hlt HA.out (by rw [HX.out, has_some hg]; exact he))
            have hne : (v != x2) = false := by simp only [bne, he]; rfl
            clear hg HA
            go_wp2_with fail
            refine cG.mono ?_
            rintro e w2 ⟨rfl, hb2⟩
            obtain ⟨d1, d2⟩ := two_kept hb2
            have HB2 := Lib.hid (HBA.out.trans (hb2.mono HBA.out.size))
            clear hb2
            go_wp2
            go_roundw
            case rel => exact ⟨k + 1, by go_num, by omega, HY.out, HB2.out⟩
            case measure => simp [RowKit.intOf]; omega
    · have h1 : ¬ ((k : Int) < (L.length : Int)) := by omega
      have HY := Lib.hid (within_all (by omega) HA.out)
      go_wp2
      go_ret
      exact ⟨ret_bool HY.out.symm, HB.out⟩

set_option maxHeartbeats 2000000 in
set_option maxRecDepth 100000 in
theorem same_any (L : List At) (a : Option Addr) (cap : Nat) (M : List At) (a2 : Option Addr) (cap2 : Nat) (w : World) (hs : Sl L a cap w) (hs2 : Sl M a2 cap2 w) (hl : L.length ≤ 1000000) (hl2 : M.length ≤ 1000000) :
    Calls Try.prog 42 #[.slice a L.length cap, .slice a2 M.length cap2] w fun e w' => e = .returned (.bool (same L M)) ∧ Below w.heap.size w w' := by
  by_cases hq : L.length = M.length
  · rw [same_in hq]
    have h1 : ((L.length : Int) == (M.length : Int)) = true := by simp [hq]
    have HQ := Lib.hid hq
    clear hq
    have cA := within_any L a cap M a2 cap2 w hs hs2 hl hl2
    cases hA : within L M
    · rw [hA] at cA
      clear hA
      go_enter Try.func42, Try.ntmps42
      go_wp2_with fail
      refine cA.mono ?_
      rintro e w2 ⟨rfl, hb2⟩
      go_wp2
      go_ret
      exact ⟨rfl, hb2⟩
    · rw [hA] at cA
      clear hA
      go_enter Try.func42, Try.ntmps42
      go_wp2_with fail
      refine cA.mono ?_
      rintro e w2 ⟨rfl, hb2⟩
      have cB := within_any M a2 cap2 L a cap w2 (hs2.below hb2) (hs.below hb2) hl2 hl
      have HB2 := Lib.hid hb2
      clear hb2
      go_wp2_with fail
      refine cB.mono ?_
      rintro e w3 ⟨rfl, hb3⟩
      have HB3 := Lib.hid (HB2.out.trans (hb3.mono HB2.out.size))
      clear hb3
      go_wp2
      go_ret
      exact ⟨ret_bool (by simp), HB3.out⟩
  · rw [same_len hq]
    have h1 : ((L.length : Int) == (M.length : Int)) = false := by simp; omega
    clear hq
    go_enter Try.func42, Try.ntmps42
    go_wp2
    go_ret
    exact ⟨rfl, Below.refl _ _⟩
end Go.Proofs.Ytnnidajflnandaa.At
