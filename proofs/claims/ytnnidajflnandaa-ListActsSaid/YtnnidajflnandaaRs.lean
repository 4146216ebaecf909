/- The document's Same, Since, Find and Last of integers, walked: they only read. -/
import Derived.Test.YtnnidajflnandaaSl
import Derived.Deep.QuietTactic
import Derived.BigQuiet
namespace Go.Proofs.Ytnnidajflnandaa
open Go.RowKit Go.Lib

/-- integers in a slice -/
def Ri (E : List Int) (a : Option Addr) (c : Nat) (w : World) : Prop :=
  Fits E.length a c ∧ (E = [] ∨ ∃ b, a = some ⟨b, 0, none⟩ ∧ ∀ (j : Nat) (x : Int), E[j]? = some x → w.cell? ⟨b, j, none⟩ = some (.int .i64 x))

theorem Rw.ri {B : Nat} {v : Value} {E : List Int} {w : World} (h : Rw B 3 1 v E.length (ints E) w) : ∃ a c, v = .slice a E.length c ∧ Ri E a c w := by
  obtain ⟨a, c, rfl, hf⟩ := h.slice
  refine ⟨a, c, rfl, hf, ?_⟩
  by_cases hE : E = []
  · exact Or.inl hE
  · obtain ⟨g, c', hv, -, -, -, -, hc, -⟩ := h.blk (List.length_pos_iff.2 hE)
    cases hv
    exact Or.inr ⟨g, rfl, fun j x hx => hc j _ (ints_at hx)⟩

theorem Ri.below {E : List Int} {a : Option Addr} {c : Nat} {w w' : World} (h : Ri E a c w) (hb : Below w.heap.size w w') : Ri E a c w' := by
  refine ⟨h.1, ?_⟩
  rcases h.2 with h0 | ⟨b, rfl, hc⟩
  · exact Or.inl h0
  · refine Or.inr ⟨b, rfl, fun j x hx => ?_⟩
    exact (hb.cell (p := ⟨b, j, none⟩) (World.block_lt_of_cell? w _ (hc j x hx))).trans (hc j x hx)

theorem Ri.at {E : List Int} {a : Option Addr} {c : Nat} {w : World} (h : Ri E a c w) {j : Nat} (hj : j < E.length) : ∃ b, a = some ⟨b, 0, none⟩ ∧ w.cell? ⟨b, j, none⟩ = some (.int .i64 E[j]) := by
  rcases h.2 with h0 | ⟨b, rfl, hc⟩
  · subst h0; simp at hj
  · exact ⟨b, rfl, hc j _ (List.getElem?_eq_getElem hj)⟩

set_option maxRecDepth 100000 in
set_option maxHeartbeats 1000000 in
theorem same_ints (E D : List Int) (a a2 : Option Addr) (c c2 : Nat) (w : World) (h : Ri E a c w) (h2 : Ri D a2 c2 w) (hl : E.length ≤ 1000000) (hl2 : D.length ≤ 1000000) :
    Calls Try.prog 24 #[.slice a E.length c, .slice a2 D.length c2] w fun e w' => e = .returned (.bool (decide (E = D))) ∧ Below w.heap.size w w' := by
  by_cases hq : E.length = D.length
  · go_enter Try.func24, Try.ntmps24
    have hne : ((E.length : Int) != (D.length : Int)) = false := by simp [hq]
    go_wp2
    go_loopw [5] (fun v wr => ∃ k : Nat, v = .int .i64 (k : Int) ∧ k ≤ E.length ∧ (∀ j, j < k → E[j]? = D[j]?) ∧ Below w.heap.size w wr) (fun v _ => E.length - (RowKit.intOf v).toNat)
    case atStart => exact ⟨0, rfl, by omega, fun j hj => by omega, Below.refl _ _⟩
    case round =>
      obtain ⟨k, rfl, hk, hs, hbw⟩ := hrel
      by_cases hlt : k < E.length
      · obtain ⟨b, rfl, hc⟩ := (h.below hbw).at hlt
        obtain ⟨b2, rfl, hc2⟩ := (h2.below hbw).at (j := k) (by omega)
        have h1 : (k : Int) < (E.length : Int) := by omega
        have h1' : (k : Int) < (D.length : Int) := by omega
        obtain ⟨x, hx⟩ : ∃ x, E[k] = x := ⟨_, rfl⟩
        obtain ⟨y, hy⟩ : ∃ y, D[k]'(by omega) = y := ⟨_, rfl⟩
        rw [hx] at hc
        rw [hy] at hc2
        have HS := Lib.hid hs
        have HB := Lib.hid hbw
        clear hbw
        have HX := Lib.hid hx
        have HY := Lib.hid hy
        clear hs hx hy
        by_cases hxy : (x != y) = true
        · have HD := Lib.hid (show decide (E = D) = false from decide_eq_false fun e => by
            subst e
            rw [HX.out] at HY
            have := HY.out
            simp [this] at hxy)
          go_wp2
          go_quiet (fail)
          go_wp2
          go_ret
          rw [HD.out]
          exact ⟨rfl, At.below_drewN HB.out _⟩
        · have hxy' : (x != y) = false := by simpa using hxy
          go_wp2
          go_quiet (fail)
          go_wp2
          go_roundw
          case rel => exact ⟨k + 1, by go_num, by omega, fun j hj => by
            rcases Nat.lt_or_ge j k with g | g
            · exact HS.out j g
            · obtain rfl : j = k := by omega
              rw [List.getElem?_eq_getElem hlt, List.getElem?_eq_getElem (show j < D.length by omega), HX.out, HY.out]
              have : x = y := by simpa using hxy'
              rw [this], At.below_drewN HB.out _⟩
          case measure => simp [RowKit.intOf]; omega
      · have HD := Lib.hid (show decide (E = D) = true from decide_eq_true (by
          apply List.ext_getElem?
          intro j
          by_cases hj : j < k
          · exact hs j hj
          · rw [List.getElem?_eq_none (by omega), List.getElem?_eq_none (by omega)]))
        have h1 : ¬ (k : Int) < (E.length : Int) := by omega
        clear hs
        go_wp2
        go_ret
        rw [HD.out]
        exact ⟨rfl, hbw⟩
  · have hne : ((E.length : Int) != (D.length : Int)) = true := by simp; omega
    have HD := Lib.hid (show decide (E = D) = false from decide_eq_false fun e => hq (by rw [e]))
    clear hq h h2
    go_enter Try.func24, Try.ntmps24
    go_wp2
    go_ret
    rw [HD.out]
    exact ⟨rfl, Below.refl _ _⟩
end Go.Proofs.Ytnnidajflnandaa
