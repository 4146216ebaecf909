/- The document's Since and Find, walked. -/
import Derived.Test.YtnnidajflnandaaMk
namespace Go.Proofs.Ytnnidajflnandaa
open Go.RowKit Go.Lib

/-- the place behind the last mark -/
def snc (E : List Int) : Nat := E.length - (bb E.reverse).length

theorem bb_none : ∀ {H : List Int}, (∀ x ∈ H, x ≠ -1) → bb H = bw H := fun {H} h => all_bb fun p hp => by
  have := h p.2 (List.mem_reverse.1 (List.mem_of_getElem? (bw_at (E := H.reverse) (by simp) hp)))
  simp only [nm, bne_iff_ne, ne_eq]
  exact this
theorem snc_mark {P S : List Int} (h : ∀ x ∈ S, x ≠ -1) : snc (P ++ -1 :: S) = P.length + 1 := by
  unfold snc
  rw [(bb_behind h).1]
  simp
  omega
theorem snc_none {S : List Int} (h : ∀ x ∈ S, x ≠ -1) : snc S = 0 := by
  unfold snc
  rw [bb_none (fun x hx => h x (List.mem_reverse.1 hx)), bw_len]
  simp

/-- what stands from a place on, cut in front of it -/
theorem cut_at {E : List Int} {i : Nat} {x : Int} (h : E[i]? = some x) : E = E.take i ++ x :: E.drop (i + 1) := by
  obtain ⟨hi, hx⟩ := List.getElem?_eq_some_iff.1 h
  conv => lhs; rw [← List.take_append_drop i E]
  rw [List.drop_eq_getElem_cons hi, hx]

theorem drop_nm {E : List Int} {i : Nat} (h : ∀ j, i ≤ j → ∀ x, E[j]? = some x → x ≠ -1) : ∀ x ∈ E.drop i, x ≠ -1 := by
  intro x hx
  obtain ⟨j, hj⟩ := List.mem_iff_getElem?.1 hx
  rw [List.getElem?_drop] at hj
  exact h _ (by omega) x hj

theorem snc_le (E : List Int) : snc E ≤ E.length := Nat.sub_le _ _

set_option maxRecDepth 100000 in
set_option maxHeartbeats 1000000 in
theorem since_any (E : List Int) (a : Option Addr) (c : Nat) (w : World) (h : Ri E a c w) (hl : E.length ≤ 1000000) :
    Calls Try.prog 34 #[.slice a E.length c] w fun e w' => e = .returned (.int .i64 (snc E : Int)) ∧ Below w.heap.size w w' := by
  go_enter Try.func34, Try.ntmps34
  go_wp2
  go_loopw [3] (fun v wr => ∃ k : Nat, v = .int .i64 ((k : Int) - 1) ∧ k ≤ E.length ∧ (∀ j, k ≤ j → ∀ x, E[j]? = some x → x ≠ -1) ∧ Below w.heap.size w wr) (fun v _ => (RowKit.intOf v + 1).toNat)
  case atStart => exact ⟨E.length, by go_num, by omega, (fun j hj x hx => by rw [List.getElem?_eq_none hj] at hx; cases hx), Below.refl _ _⟩
  case round =>
    obtain ⟨k, rfl, hk, hs, hbw⟩ := hrel
    by_cases h0 : 0 < k
    · obtain ⟨i, rfl⟩ : ∃ i, k = i + 1 := ⟨k - 1, by omega⟩
      have hki : ((i + 1 : Nat) : Int) - 1 = (i : Int) := by omega
      rw [hki]
      have hlt : i < E.length := by omega
      have hge : (i : Int) ≥ 0 := by omega
      obtain ⟨b, rfl, hc⟩ := (h.below hbw).at hlt
      have hx : E[i]? = some E[i] := List.getElem?_eq_getElem hlt
      obtain ⟨x, hx'⟩ : ∃ x, E[i] = x := ⟨_, rfl⟩
      rw [hx'] at hc hx
      have HS := Lib.hid hs
      have HB := Lib.hid hbw
      have HX := Lib.hid hx
      clear hs hbw hx hx' hki
      by_cases hm : x = -1
      · subst hm
        have HR := Lib.hid (show snc E = i + 1 from by
          have e := cut_at HX.out
          have := snc_mark (P := E.take i) (S := E.drop (i + 1)) (drop_nm HS.out)
          rw [← e, List.length_take, Nat.min_eq_left (by omega)] at this
          exact this)
        go_wp2
        go_ret
        exact ⟨by rw [HR.out]; go_num, HB.out⟩
      · have hm' : (x == -1) = false := by simpa using hm
        go_wp2
        go_roundw
        case rel => exact ⟨i, by go_num, by omega, fun j hj y hy => by
          rcases Nat.eq_or_lt_of_le hj with g | g
          · subst g
            rw [HX.out] at hy
            cases hy
            exact hm
          · exact HS.out j g y hy, HB.out⟩
        case measure => simp [RowKit.intOf]
    · obtain rfl : k = 0 := by omega
      have HR := Lib.hid (show snc E = 0 from snc_none fun x hx => by
        obtain ⟨j, hj⟩ := List.mem_iff_getElem?.1 hx
        exact hs j (Nat.zero_le _) x hj)
      clear hs
      go_wp2
      go_ret
      exact ⟨by rw [HR.out]; rfl, hbw⟩

/-- each element stands once -/
def Once (E : List Int) : Prop := ∀ (p q : Nat) (x : Int), E[p]? = some x → E[q]? = some x → x ≠ -1 → p = q

set_option maxRecDepth 100000 in
set_option maxHeartbeats 1000000 in
theorem rfind_any (E : List Int) (a : Option Addr) (c : Nat) (w : World) (h : Ri E a c w) (hl : E.length ≤ 1000000) (ho : Once E) (y : Int) (hy : y ≠ -1) :
    Calls Try.prog 27 #[.slice a E.length c, .int .i64 y] w fun e w' => e = .returned (.int .i64 (plc E y)) ∧ Below w.heap.size w w' := by
  go_enter Try.func27, Try.ntmps27
  go_wp2
  go_loopw [5] (fun v wr => ∃ k : Nat, v = .int .i64 (k : Int) ∧ k ≤ E.length ∧ (∀ j, j < k → E[j]? ≠ some y) ∧ Below w.heap.size w wr) (fun v _ => E.length - (RowKit.intOf v).toNat)
  case atStart => exact ⟨0, rfl, by omega, fun j hj => by omega, Below.refl _ _⟩
  case round =>
    obtain ⟨k, rfl, hk, hs, hbw⟩ := hrel
    by_cases hlt : k < E.length
    · have h1 : (k : Int) < (E.length : Int) := by omega
      obtain ⟨b, rfl, hc⟩ := (h.below hbw).at hlt
      have hx : E[k]? = some E[k] := List.getElem?_eq_getElem hlt
      obtain ⟨x, hx'⟩ : ∃ x, E[k] = x := ⟨_, rfl⟩
      rw [hx'] at hc hx
      have HS := Lib.hid hs
      have HB := Lib.hid hbw
      have HX := Lib.hid hx
      clear hs hbw hx hx'
      have hy' : (y != -1) = true := by simpa using hy
      by_cases hm : x = y
      · subst hm
        have HR := Lib.hid (plc_at hy HX.out fun q hq => ho _ _ _ hq HX.out hy)
        go_wp2
        go_ret
        exact ⟨by rw [HR.out]; rfl, HB.out⟩
      · have hm' : (x == y) = false := by simpa using hm
        go_wp2
        go_roundw
        case rel => exact ⟨k + 1, by go_num, by omega, fun j hj hy => by
          rcases Nat.lt_or_ge j k with g | g
          · exact HS.out j g hy
          · obtain rfl : j = k := by omega
            rw [HX.out] at hy
            cases hy
            exact hm rfl, HB.out⟩
        case measure => simp [RowKit.intOf]; omega
    · have h1 : ¬ (k : Int) < (E.length : Int) := by omega
      have HR := Lib.hid (plc_none (E := E) (i := y) fun hx => by
        obtain ⟨j, hj⟩ := List.mem_iff_getElem?.1 hx
        exact hs j (by have := (List.getElem?_eq_some_iff.1 hj).1; omega) hj)
      clear hs
      go_wp2
      go_ret
      exact ⟨by rw [HR.out]; rfl, hbw⟩
end Go.Proofs.Ytnnidajflnandaa
