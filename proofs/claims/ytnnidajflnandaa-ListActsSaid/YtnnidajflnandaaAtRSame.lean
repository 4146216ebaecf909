/- The reference's Same, walked. -/
import Derived.Test.YtnnidajflnandaaAtSame
namespace Go.Proofs.Ytnnidajflnandaa.At
open Go.RowKit Go.Lib

theorem resG_pair (o : Option Str) : resG o = .tuple #[.string ⟨(o.getD []).toArray⟩, .bool o.isSome] := by cases o <;> rfl
theorem has_pair (M : List At) (x1 x2 : Str) : has M (x1, x2) = ((get M x1).isSome && ((get M x1).getD [] == x2)) := by
  unfold has
  cases get M x1 <;> rfl

/-- as far as one has looked, all is there -/
def Both (L M : List At) (k : Nat) : Prop := within (L.take k) M = true ∧ within (M.take k) L = true

theorem both_end {L M : List At} {k : Nat} (hq : L.length = M.length) (hk : ¬ k < L.length) (h : Both L M k) : same L M = true := by
  rw [same_in hq]
  have h1 : L.take k = L := List.take_of_length_le (by omega)
  have h2 : M.take k = M := List.take_of_length_le (by omega)
  unfold Both at h
  rw [h1, h2] at h
  rw [h.1, h.2]; rfl
theorem both_not1 {L M : List At} {k : Nat} (hq : L.length = M.length) (hk : k < L.length) (h : has M (at0 L k) = false) : same L M = false := by
  rw [same_in hq, within_not hk h]; rfl
theorem both_not2 {L M : List At} {k : Nat} (hq : L.length = M.length) (hk : k < L.length) (h : has L (at0 M k) = false) : same L M = false := by
  rw [same_in hq, within_not (L := M) (by omega) h, Bool.and_false]
theorem both_succ {L M : List At} {k : Nat} (hq : L.length = M.length) (hk : k < L.length) (h : Both L M k) (h1 : has M (at0 L k) = true) (h2 : has L (at0 M k) = true) : Both L M (k + 1) :=
  ⟨within_take hk h.1 h1, within_take (by omega) h.2 h2⟩

set_option maxHeartbeats 4000000 in
set_option maxRecDepth 100000 in
theorem rsame_in (L : List At) (b off cap : Nat) (M : List At) (b2 off2 cap2 : Nat) (w : World) (hc : Cells L b off w) (hc2 : Cells M b2 off2 w) (hcap : L.length ≤ cap) (hcap2 : M.length ≤ cap2) (hl : L.length ≤ 1000000) (hq : L.length = M.length) :
    Calls Try.prog 30 #[.slice (some ⟨b, off, none⟩) L.length cap, .slice (some ⟨b2, off2, none⟩) M.length cap2] w fun e w' => e = .returned (.bool (same L M)) ∧ w = w' := by
  have hs : Sl L (some ⟨b, off, none⟩) cap w := ⟨hcap, (fun h => by cases h), Or.inr ⟨b, off, rfl, hc⟩⟩
  have hs2 : Sl M (some ⟨b2, off2, none⟩) cap2 w := ⟨hcap2, (fun h => by cases h), Or.inr ⟨b2, off2, rfl, hc2⟩⟩
  have e1 : ((L.length : Int) != (M.length : Int)) = false := by simp [hq]
  have HQ := Lib.hid hq
  have hl2 : M.length ≤ 1000000 := by omega
  clear hq
  go_enter Try.func30, Try.ntmps30
  go_wp2
  go_loop [5] (fun v => ∃ k : Nat, v = .int .i64 k ∧ k ≤ L.length ∧ Both L M k) (fun v => L.length - (RowKit.intOf v).toNat)
  case atStart => exact ⟨0, rfl, by omega, ⟨rfl, rfl⟩⟩
  case round =>
    obtain ⟨k, rfl, hk, hah⟩ := hrel
    have HA := Lib.hid hah
    clear hah e1
    by_cases hlt : k < L.length
    · obtain ⟨c1, c2⟩ := hc k hlt
      have hlt2 : k < M.length := by have := HQ.out; omega
      obtain ⟨d1, d2⟩ := hc2 k hlt2
      have h1 : (k : Int) < (L.length : Int) := by omega
      have h2 : (k : Int) < (M.length : Int) := by omega
      have N1 := Lib.hid (fun h => both_not1 HQ.out hlt h)
      have N2 := Lib.hid (fun h => both_not2 HQ.out hlt h)
      have N3 := Lib.hid (fun h => both_succ HQ.out hlt HA.out h)
      obtain ⟨⟨x1, x2⟩, hx⟩ : ∃ x, at0 L k = x := ⟨_, rfl⟩
      obtain ⟨⟨y1, y2⟩, hy⟩ : ∃ x, at0 M k = x := ⟨_, rfl⟩
      rw [hx] at c1 c2 N1 N3
      rw [hy] at d1 d2 N2 N3
      simp only at c1 c2 d1 d2
      clear hx hy hc hc2 HA
      have cA := rget_any M (some ⟨b2, off2, none⟩) cap2 x1 w hs2 hl2
      have cB := rget_any L (some ⟨b, off, none⟩) cap y1 w hs hl
      rw [resG_pair] at cA cB
      rw [has_pair] at N1 N2
      rw [has_pair, has_pair] at N3
      generalize (get M x1).isSome = p at cA N1 N3
      generalize (get M x1).getD [] = v at cA N1 N3
      generalize (get L y1).isSome = p2 at cB N2 N3
      generalize (get L y1).getD [] = v2 at cB N2 N3
      clear hs hs2
      cases p
      · go_wp2_with fail
        refine cA.mono ?_
        rintro e w2 ⟨rfl, rfl⟩
        go_wp2_with fail
        refine cB.mono ?_
        rintro e w2 ⟨rfl, rfl⟩
        go_wp2
        go_ret
        exact ⟨ret_bool (N1.out rfl).symm, rfl⟩
      · cases he : (v == x2)
        · have hne : (v != x2) = true := by simp only [bne, he]; rfl
          go_wp2_with fail
          refine cA.mono ?_
          rintro e w2 ⟨rfl, rfl⟩
          go_wp2_with fail
          refine cB.mono ?_
          rintro e w2 ⟨rfl, rfl⟩
          go_wp2
          go_ret
          exact ⟨ret_bool (N1.out (by rw [he]; rfl)).symm, rfl⟩
        · have hne : (v != x2) = false := by simp only [bne, he]; rfl
          cases p2
          · go_wp2_with fail
            refine cA.mono ?_
            rintro e w2 ⟨rfl, rfl⟩
            go_wp2_with fail
            refine cB.mono ?_
            rintro e w2 ⟨rfl, rfl⟩
            go_wp2
            go_ret
            exact ⟨ret_bool (N2.out rfl).symm, rfl⟩
          · cases he2 : (v2 == y2)
            · have hne2 : (v2 != y2) = true := by simp only [bne, he2]; rfl
              go_wp2_with fail
              refine cA.mono ?_
              rintro e w2 ⟨rfl, rfl⟩
              go_wp2_with fail
              refine cB.mono ?_
              rintro e w2 ⟨rfl, rfl⟩
              go_wp2
              go_ret
              exact ⟨ret_bool (N2.out (by rw [he2]; rfl)).symm, rfl⟩
            · have hne2 : (v2 != y2) = false := by simp only [bne, he2]; rfl
              have HN := Lib.hid (N3.out (by rw [he]; rfl) (by rw [he2]; rfl))
              clear N1 N2 N3
              go_wp2_with fail
              refine cA.mono ?_
              rintro e w2 ⟨rfl, rfl⟩
              go_wp2_with fail
              refine cB.mono ?_
              rintro e w2 ⟨rfl, rfl⟩
              go_wp2
              go_round
              case rel => exact ⟨k + 1, by go_num, by omega, HN.out⟩
              case measure => simp [RowKit.intOf]; omega
    · have h1 : ¬ ((k : Int) < (L.length : Int)) := by omega
      have HY := Lib.hid (both_end HQ.out hlt HA.out)
      go_wp2
      go_ret
      exact ⟨ret_bool HY.out.symm, rfl⟩

set_option maxHeartbeats 2000000 in
set_option maxRecDepth 100000 in
theorem rsame_any (L : List At) (a : Option Addr) (cap : Nat) (M : List At) (a2 : Option Addr) (cap2 : Nat) (w : World) (hs : Sl L a cap w) (hs2 : Sl M a2 cap2 w) (hl : L.length ≤ 1000000) (hl2 : M.length ≤ 1000000) :
    Calls Try.prog 30 #[.slice a L.length cap, .slice a2 M.length cap2] w fun e w' => e = .returned (.bool (same L M)) ∧ w = w' := by
  by_cases hq : L.length = M.length
  · obtain ⟨hcap, -, h0 | ⟨b, off, rfl, hc⟩⟩ := hs
    · subst h0
      obtain rfl : M = [] := List.eq_nil_of_length_eq_zero hq.symm
      clear hs2 hl hl2 hq hcap
      simp only [List.length_nil]
      rw [show same [] [] = true from rfl]
      go_enter Try.func30, Try.ntmps30
      go_wp2
      go_loop [5] (fun v => v = .int .i64 0) (fun _ => 0)
      case atStart => rfl
      case round =>
        subst hrel
        go_wp2
        go_ret
        exact ⟨rfl, rfl⟩
    · obtain ⟨hcap2, -, h0 | ⟨b2, off2, rfl, hc2⟩⟩ := hs2
      · subst h0
        obtain rfl : L = [] := List.eq_nil_of_length_eq_zero hq
        have hn : Cells ([] : List At) 0 0 w := fun i hi => absurd hi (by simp)
        clear hl hl2 hq hcap hcap2 hc hn
        simp only [List.length_nil]
        rw [show same [] [] = true from rfl]
        go_enter Try.func30, Try.ntmps30
        go_wp2
        go_loop [5] (fun v => v = .int .i64 0) (fun _ => 0)
        case atStart => rfl
        case round =>
          subst hrel
          go_wp2
          go_ret
          exact ⟨rfl, rfl⟩
      · exact rsame_in L b off cap M b2 off2 cap2 w hc hc2 hcap hcap2 hl hq
  · rw [same_len hq]
    have h1 : ((L.length : Int) != (M.length : Int)) = true := by simp; omega
    clear hq
    go_enter Try.func30, Try.ntmps30
    go_wp2
    go_ret
    exact ⟨rfl, rfl⟩
end Go.Proofs.Ytnnidajflnandaa.At
