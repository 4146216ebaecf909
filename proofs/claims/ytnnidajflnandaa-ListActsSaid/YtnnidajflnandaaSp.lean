/- The chapter's example, walked: four alike, and the first one is taken out. -/
import Derived.Test.YtnnidajflnandaaSi
namespace Go.Proofs.Ytnnidajflnandaa
open Go.RowKit Go.Lib
open At (Str cellsA cellsA_len Sl)

/-- all elements are b without attributes -/
def Bs (L : List QN) (k : Nat) : Prop := L.length = k + 1 ∧ ∀ (j : Nat) (n : QN), 0 < j → L[j]? = some n → n.nm = [98] ∧ n.ats = []
theorem Bs.more {L : List QN} {k : Nat} (h : Bs L k) (sa vi : Value) : Bs (L ++ [⟨[98], [], sa, -1, [], vi⟩]) (k + 1) := by
  refine ⟨by simp [h.1], fun j n hj hn => ?_⟩
  by_cases hl : j < L.length
  · rw [List.getElem?_append_left hl] at hn
    exact h.2 j n hj hn
  · rw [List.getElem?_append_right (by omega)] at hn
    have h0 : j - L.length = 0 := by
      have := (List.getElem?_eq_some_iff.1 hn).1
      simp only [List.length_singleton] at this
      omega
    rw [h0] at hn
    injection hn with hn
    subst hn
    exact ⟨rfl, rfl⟩

theorem flt_all {L : List QN} {s : List UInt8} {t : List At.At} {l : List (Nat × Int)} (h : ∀ p ∈ l, alk L s t p.2 = true) : flt L s t l = l := List.filter_eq_self.2 h

theorem Bs.alk {L : List QN} {k : Nat} (h : Bs L k) {x : Int} (h0 : 0 < x) (h1 : x.toNat ≤ k) : alk L [98] [] x = true := by
  have hl : x.toNat < L.length := by rw [h.1]; omega
  unfold Ytnnidajflnandaa.alk
  rw [List.getElem?_eq_getElem hl]
  obtain ⟨e1, e2⟩ := h.2 x.toNat _ (by omega) (List.getElem?_eq_getElem hl)
  simp only [e1, e2]
  rfl

/-- the entries behind k pushes -/
def Es : Nat → List Int
  | 0 => []
  | 1 => [1]
  | 2 => [1, 2]
  | 3 => [1, 2, 3]
  | _ => [2, 3, 4]

theorem psh_es {L : List QN} {k : Nat} (h : Bs L (k + 1)) (hk : k < 4) (n : QN) (hn : n.nm = [98]) (ha : n.ats = []) : psh L n (Es k) (k + 1) = Es (k + 1) := by
  have hf : flt L n.nm n.ats (bb (Es k).reverse) = bb (Es k).reverse := by
    rw [hn, ha]
    refine flt_all fun p hp => h.alk ?_ ?_
    · match k, hk with
      | 0, _ => cases hp
      | 1, _ => have := (bb_mem hp).1; simp [Es] at this; omega
      | 2, _ => have := (bb_mem hp).1; simp [Es] at this; omega
      | 3, _ => have := (bb_mem hp).1; simp [Es] at this; omega
    · match k, hk with
      | 0, _ => cases hp
      | 1, _ => have := (bb_mem hp).1; simp [Es] at this; omega
      | 2, _ => have := (bb_mem hp).1; simp [Es] at this; omega
      | 3, _ => have := (bb_mem hp).1; simp [Es] at this; omega
  unfold psh cutA
  rw [hf]
  match k, hk with
  | 0, _ => rfl
  | 1, _ => rfl
  | 2, _ => rfl
  | 3, _ => rfl

set_option maxRecDepth 100000 in
set_option maxHeartbeats 2000000 in
theorem speaks_any (w : World) : Calls Try.prog 7 #[] w fun e w' => e = .returned (.bool true) ∧ Below w.heap.size w w' := by
  go_enter Try.func7, Try.ntmps7
  go_wp2_with fail
  refine (new_any w).mono ?_
  rintro e w1 ⟨R, vn, rfl, ha, hb1⟩
  have cN := st_new ha hb1.size
  go_wp2_with fail
  refine cN.mono ?_
  rintro e w2 ⟨rfl, h2, hb2⟩
  have hb12 := below_trans hb1 hb2
  obtain ⟨Ls, hLs⟩ : ∃ Ls, w1.heap.size = Ls := ⟨_, rfl⟩
  rw [hLs] at h2 ⊢
  clear cN ha hb1 hb2 hLs
  go_wp2
  go_loopw [10] (fun x wr => ∃ k : Nat, x = .int .i64 (k : Int) ∧ k ≤ 4 ∧ Below w.heap.size w wr ∧ ∃ L vn v, Bs L k ∧ ST w.heap.size wr R Ls L (Es k) vn v) (fun x _ => 4 - (RowKit.intOf x).toNat)
  case atStart => exact ⟨0, rfl, by omega, hb12, rootL, vn, _, ⟨rfl, fun j n hj hn => by
    have := (List.getElem?_eq_some_iff.1 hn).1
    simp [rootL] at this
    omega⟩, h2⟩
  case round =>
    obtain ⟨k, rfl, hk, hbw, L, vn', v, hBs, hst⟩ := hrel
    clear h2 hb12
    by_cases hlt : k < 4
    · have hlt' : (k : Int) < 4 := by omega
      have hEl : (Es k).length ≤ 10 := by
        match k, hlt with
        | 0, _ => decide
        | 1, _ => decide
        | 2, _ => decide
        | 3, _ => decide
      have cE := st_elem hst [98] [] none 0 ⟨Nat.le_refl _, fun _ => ⟨rfl, rfl⟩, Or.inl rfl⟩ (by rw [hBs.1]; omega) (Nat.zero_le _)
      rw [hBs.1] at cE
      go_wp2_with fail
      refine cE.mono ?_
      rintro e w3 ⟨rfl, sa, vn2, h3, ev3⟩
      have hB3 := hBs.more sa (.slice none 0 0)
      have hn : (L ++ [⟨[98], [], sa, -1, [], .slice none 0 0⟩])[k + 1]? = some ⟨[98], [], sa, -1, [], .slice none 0 0⟩ := by
        rw [List.getElem?_append_right (by rw [hBs.1]; omega), hBs.1, Nat.sub_self]
        rfl
      have cP := st_push h3 (by omega) (k + 1) _ (by omega) hn
      rw [psh_es hB3 hlt _ rfl rfl] at cP
      have HB3 := Lib.hid hB3
      have HB := Lib.hid (hbw.trans ev3.below)
      clear cE hst hbw hBs h3 ev3 hn hB3
      go_wp2_with fail
      refine cP.mono ?_
      rintro e w4 ⟨rfl, v4, h4, ev4⟩
      have H4 := Lib.hid h4
      have HB4 := Lib.hid (HB.out.trans ev4.below)
      clear h4 ev4 cP
      go_wp2
      go_roundw
      case rel => exact ⟨k + 1, by go_num, by omega, HB4.out, _, vn2, v4, HB3.out, H4.out⟩
      case measure => simp [RowKit.intOf]; omega
    · obtain rfl : k = 4 := by omega
      have cA := all_any hst.lr (by decide)
      have HB := Lib.hid hbw
      clear hst hbw
      go_wp2_with fail
      refine cA.mono ?_
      rintro e w3 ⟨u, rfl, hu, hb3⟩
      obtain ⟨a, c, rfl, hri⟩ := hu.ri
      have hA3 : Below w3.heap.size w3 (w3.alloc (.cells #[.int .i64 2, .int .i64 3, .int .i64 4] 3)) := At.below_alloc _
      have hr2 : Ri [2, 3, 4] (some ⟨w3.heap.size, 0, none⟩) 3 (w3.alloc (.cells #[.int .i64 2, .int .i64 3, .int .i64 4] 3)) :=
        ⟨⟨Nat.le_refl _, fun h => by cases h⟩, Or.inr ⟨_, rfl, fun j x hx => by
          rw [(bx_new w3 #[.int .i64 2, .int .i64 3, .int .i64 4] 3).cell j]
          match j, hx with
          | 0, hx => cases hx; rfl
          | 1, hx => cases hx; rfl
          | 2, hx => cases hx; rfl⟩⟩
      have cS := same_ints [2, 3, 4] [2, 3, 4] a _ c 3 _ (hri.below hA3) hr2 (by decide) (by decide)
      have H3 := Lib.hid (HB.out.trans (hb3.mono HB.out.size))
      clear hu hri hr2 cA hb3
      go_wp2_with fail
      refine cS.mono ?_
      rintro e w4 ⟨rfl, hb4⟩
      go_wp2
      go_ret
      exact ⟨rfl, (H3.out.trans (hA3.mono H3.out.size)).trans (hb4.mono (Nat.le_trans H3.out.size hA3.size))⟩
end Go.Proofs.Ytnnidajflnandaa
