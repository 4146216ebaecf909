/- The arena's reading methods, walked. -/
import Derived.Test.YtnnidajflnandaaAr
import Derived.Test.YtnnidajflnandaaBase
import Derived.Deep.RegionHeld3
import Derived.Lib.SmallJoins
namespace Go.Proofs.Ytnnidajflnandaa
open Go.RowKit Go.Lib
open At (Str cellsA cellsA_len Sl)

variable {B R cp : Nat} {L : List QN} {vn : Value} {w : World}

set_option maxHeartbeats 1000000 in
set_option maxRecDepth 100000 in
theorem has_any (h : AR B w R L cp vn) (i : Nat) (hi : i < L.length) :
    Calls Try.prog 51 #[.pointer (some ⟨R, 0, none⟩), .int .i64 (i : Int)] w fun e w' => e = .returned (.bool true) ∧ w = w' := by
  have c0 := h.c0
  obtain ⟨n, hn⟩ : ∃ n, L[i]? = some n := ⟨L[i], List.getElem?_eq_getElem hi⟩
  obtain ⟨g, c, rfl, -⟩ := h.node hn
  have h1 : (i : Int) < (L.length : Int) := by omega
  clear h hn
  go_enter Try.func51, Try.ntmps51
  go_wp2
  go_ret
  exact ⟨rfl, rfl⟩

set_option maxHeartbeats 1000000 in
set_option maxRecDepth 100000 in
theorem isElement_any (h : AR B w R L cp vn) (i : Nat) (hi : i < L.length) :
    Calls Try.prog 48 #[.pointer (some ⟨R, 0, none⟩), .int .i64 (i : Int)] w fun e w' => e = .returned (.bool (decide (i ≠ 0))) ∧ w = w' := by
  have cH := has_any h i hi
  by_cases h0 : i = 0
  · subst h0
    go_enter Try.func48, Try.ntmps48
    go_wp2
    go_ret
    exact ⟨rfl, rfl⟩
  · have h1 : ((i : Int) != 0) = true := by simp; omega
    have e1 : decide (i ≠ 0) = true := decide_eq_true h0
    rw [e1]
    clear h0 e1
    go_enter Try.func48, Try.ntmps48
    go_wp2_with fail
    refine cH.mono ?_
    rintro e w' ⟨rfl, rfl⟩
    go_wp2
    go_ret
    exact ⟨rfl, rfl⟩

set_option maxHeartbeats 1000000 in
set_option maxRecDepth 100000 in
theorem name_any (h : AR B w R L cp vn) (i : Nat) (n : QN) (hn : L[i]? = some n) (h0 : i ≠ 0 ∨ n.nm = []) :
    Calls Try.prog 39 #[.pointer (some ⟨R, 0, none⟩), .int .i64 (i : Int)] w fun e w' => e = .returned (.string ⟨n.nm.toArray⟩) ∧ w = w' := by
  have c0 := h.c0
  obtain ⟨g, c, rfl, hi, hc, -, -, d0, d1, d2, d3, -⟩ := h.node hn
  have cE := isElement_any h i hi
  have h1 : (i : Int) < (L.length : Int) := by omega
  clear h hn
  by_cases hz : i = 0
  · have hnm : n.nm = [] := by rcases h0 with h0 | h0; exact absurd hz h0; exact h0
    rw [hnm]
    subst hz
    rw [decide_eq_false (by simp)] at cE
    clear h0 hnm d0 d1 d2 d3
    go_enter Try.func39, Try.ntmps39
    go_wp2_with fail
    refine cE.mono ?_
    rintro e w' ⟨rfl, rfl⟩
    go_wp2
    go_ret
    exact ⟨rfl, rfl⟩
  · rw [decide_eq_true hz] at cE
    clear h0 hz
    go_enter Try.func39, Try.ntmps39
    go_wp2_with fail
    refine cE.mono ?_
    rintro e w' ⟨rfl, rfl⟩
    go_wp2
    go_ret
    exact ⟨rfl, rfl⟩

/-- a row of attributes as a slice -/
theorem Rw.sl {e : Nat} {v : Value} {M : List At.At} (h : Rw B e 2 v M.length (cellsA M) w) : ∃ a c, v = .slice a M.length c ∧ Sl M a c w := by
  rcases h.2 with ⟨hv, h0⟩ | ⟨g, c, hv, h1, hT, h3, h4, h5, h6⟩
  · obtain rfl : M = [] := List.eq_nil_of_length_eq_zero h0
    exact ⟨none, 0, hv, Nat.le_refl _, fun _ => ⟨rfl, rfl⟩, Or.inl rfl⟩
  · refine ⟨_, c, hv, h3, (fun h => by cases h), Or.inr ⟨g, 0, rfl, fun i hi => ?_⟩⟩
    obtain ⟨e1, e2⟩ := At.cellsA_at M i hi
    have h1 := h5 _ _ e1
    have h2 := h5 _ _ e2
    exact ⟨by rw [Nat.zero_add]; exact h1, by rw [Nat.zero_add]; exact h2⟩

set_option maxHeartbeats 1000000 in
set_option maxRecDepth 100000 in
theorem clone_any (M : List At.At) (a : Option Addr) (c : Nat) (w : World) (hs : Sl M a c w) (hl : M.length ≤ 1000000) :
    Calls Try.prog 31 #[.slice a M.length c] w fun e w' => ∃ v, e = .returned v ∧ w'.ownsRow w.heap.size 72 2 v M.length (cellsA M) ∧ Below w.heap.size w w' := by
  obtain ⟨v', w', hr, h1, h2, -⟩ := At.app_sl At.elem26 w w.heap.size (.slice none 0 0) [] M a c (World.ownsRow_nil _ _ _ _) hs (by simpa using hl) (Nat.le_refl _)
  rw [List.nil_append] at h1
  have HR := Lib.hid hr
  have H1 := Lib.hid h1
  have H2 := Lib.hid ((Below.refl w.heap.size w).grown h2 (Nat.le_refl _) (fun k hk => by cases hk))
  clear hr h1 h2 hs
  go_enter Try.func31, Try.ntmps31
  go_wp2_with (at_builtin; refine Lib.wpList_append_run _ rfl (.const (.slice none 0 0)) (.tmp 3) 41 41 rfl _ _ rfl rfl v' w' HR.out ?_)
  go_ret
  exact ⟨_, rfl, H1.out, H2.out⟩

set_option maxHeartbeats 1000000 in
set_option maxRecDepth 100000 in
theorem attrs_any (h : AR B w R L cp vn) (i : Nat) (n : QN) (hn : L[i]? = some n) (h0 : i ≠ 0 ∨ n.ats = []) (hl : n.ats.length ≤ 1000000) :
    Calls Try.prog 41 #[.pointer (some ⟨R, 0, none⟩), .int .i64 (i : Int)] w fun e w' => ∃ v, e = .returned v ∧ w'.ownsRow w.heap.size 72 2 v n.ats.length (cellsA n.ats) ∧ Below w.heap.size w w' := by
  have c0 := h.c0
  obtain ⟨a, ca, hsa, hsl⟩ := (h.attrs n (mem_of_at hn)).sl
  obtain ⟨g, c, rfl, hi, hc, -, -, d0, d1, d2, d3, -⟩ := h.node hn
  have cE := isElement_any h i hi
  have cC := clone_any n.ats a ca w hsl hl
  have h1 : (i : Int) < (L.length : Int) := by omega
  rw [hsa] at d1
  clear h hn hsa hsl
  by_cases hz : i = 0
  · have hnm : n.ats = [] := by rcases h0 with h0 | h0; exact absurd hz h0; exact h0
    rw [hnm]
    subst hz
    rw [decide_eq_false (by simp)] at cE
    clear h0 hnm d0 d1 d2 d3 cC
    go_enter Try.func41, Try.ntmps41
    go_wp2_with fail
    refine cE.mono ?_
    rintro e w' ⟨rfl, rfl⟩
    go_wp2
    go_ret
    exact ⟨_, rfl, World.ownsRow_nil _ _ _ _, Below.refl _ _⟩
  · rw [decide_eq_true hz] at cE
    clear h0 hz
    go_enter Try.func41, Try.ntmps41
    go_wp2_with fail
    refine cE.mono ?_
    rintro e w' ⟨rfl, rfl⟩
    go_wp2_with fail
    refine cC.mono ?_
    rintro e w' ⟨v, rfl, ho, hb⟩
    have HO := Lib.hid ho
    clear ho
    go_wp2
    go_ret
    exact ⟨_, rfl, HO.out, hb⟩

/-- the root alone -/
def rootL : List QN := [⟨[], [], .slice none 0 0, -1, [], .slice none 0 0⟩]

set_option maxHeartbeats 1000000 in
set_option maxRecDepth 100000 in
theorem new_any (w : World) :
    Calls Try.prog 8 #[] w fun e w' => ∃ R vn, e = .returned (.pointer (some ⟨R, 0, none⟩)) ∧ AR w.heap.size w' R rootL 0 vn ∧ Below w.heap.size w w' := by
  go_enter Try.func8, Try.ntmps8
  go_wp2
  go_ret
  have hb := (Below.refl w.heap.size w).alloc (Nat.le_refl _) (.cells #[.string ⟨#[]⟩, .slice none 0 0, .int .i64 (-1), .slice none 0 0] 63)
  refine ⟨w.heap.size + 1, .slice (some ⟨w.heap.size, 0, none⟩) 1 1, rfl, ?_, hb.alloc (by simp) _⟩
  obtain ⟨W, hW⟩ : ∃ W, w.alloc (.cells #[.string ⟨#[]⟩, .slice none 0 0, .int .i64 (-1), .slice none 0 0] 63) = W := ⟨_, rfl⟩
  rw [hW]
  have hz : W.heap.size = w.heap.size + 1 := by rw [← hW]; simp
  have hg : W.heap[w.heap.size]? = some (.cells #[.string ⟨#[]⟩, .slice none 0 0, .int .i64 (-1), .slice none 0 0] 63 (0, 0)) := by rw [← hW]; exact heap_alloc_new w _
  have hg2 : ∀ o, (W.alloc o).heap[w.heap.size]? = some (.cells #[.string ⟨#[]⟩, .slice none 0 0, .int .i64 (-1), .slice none 0 0] 63 (0, 0)) := fun o => (Below.heap_alloc W o _ (by omega)).trans hg
  refine ⟨Nat.le_succ _, by rw [← hz]; exact heap_alloc_new W _, ⟨rfl, Or.inr ⟨w.heap.size, 1, rfl, Nat.le_refl _, ⟨_, _, hg2 _⟩, Nat.le_refl _, by decide, fun j u hj => ?_, fun j hj => ⟨?_, frozen_of_heap (hg2 _) j⟩⟩⟩, ?_, ?_, ?_, ?_, ?_⟩
  · rw [cell_of_heap (hg2 _) j, List.getElem?_toArray]
    exact hj
  · rw [cell_of_heap (hg2 _) j, Array.getElem?_eq_getElem (by simpa using hj)]
    rfl
  · intro n hn
    simp only [rootL, List.mem_singleton] at hn
    subst hn
    exact Rw.nil _ _ _ _
  · intro n hn
    simp only [rootL, List.mem_singleton] at hn
    subst hn
    exact Rw.nil _ _ _ _
  · intro n hn p hp
    simp only [rootL, List.mem_singleton] at hn
    subst hn
    cases hp
  · simp [rootL]
  · simp [rootL]
end Go.Proofs.Ytnnidajflnandaa
