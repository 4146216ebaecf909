/- The document's Without, Insert and Clear, walked. -/
import Derived.Test.YtnnidajflnandaaRl
namespace Go.Proofs.Ytnnidajflnandaa
open Go.RowKit Go.Lib

/-- integers more behind a row of one's own -/
theorem app_more {B n m : Nat} {v x : Value} {xs news : List Value} {w : World} (h : Rw B 3 1 v n xs w) (hs : Src Try.prog 1 29 x m news w) (hl : n + m ≤ 3000000) (hB : B ≤ w.heap.size) :
    ∃ v' w', (Builtin.append_ #[29, 29] 29 #[v, x]).run Try.prog w = .ok v' w' ∧ Rw B 3 1 v' (n + m) (xs ++ news) w' ∧ Below B w w' := by
  obtain ⟨i, z, hi, hz, hsz, hby, hzs⟩ := row29.info
  obtain ⟨v', w', hr, h1, h2, -, -⟩ := h.append (P := Try.prog) 29 29 i z _ row29.ht hi hz hsz hby hzs x m news hs (by unfold maxLen; omega) (by omega) hB
  exact ⟨v', w', hr, h1, (Below.refl _ _).grown h2 hB (fun q hq => (h.lt q hq).1)⟩
theorem row_empty (u : World) : Rw u.heap.size 3 1 (.slice (some ⟨u.heap.size, 0, none⟩) 0 0) 0 [] (u.alloc (.cells #[] 3)) :=
  ⟨by simp, Or.inr ⟨u.heap.size, 0, rfl, Nat.le_refl _, ⟨_, _, heap_alloc_new u _⟩, Nat.le_refl _, Nat.zero_le _, fun j x hj => by simp at hj, fun j hj => by omega⟩⟩
/-- a part of what came in -/
theorem part_src {E : List Int} {b c c' : Nat} {w : World} (h : Ri E (some ⟨b, 0, none⟩) c w) (lo n : Nat) (hn : lo + n ≤ E.length) : Src Try.prog 1 29 (.slice (some ⟨b, lo, none⟩) n c') n (ints ((E.drop lo).take n)) w := by
  refine Src.ofSlice w row29.ht _ _ _ _ (by simp [ints]; omega) (fun j u hj => ?_) (ints_one _)
  unfold ints at hj
  rw [List.getElem?_map] at hj
  cases hx : ((E.drop lo).take n)[j]? with
  | none => rw [hx] at hj; cases hj
  | some y =>
    rw [hx] at hj
    cases hj
    have hjn : j < n := by
      have := (List.getElem?_eq_some_iff.1 hx).1
      simp at this
      omega
    rw [List.getElem?_take_of_lt hjn, List.getElem?_drop] at hx
    rcases h.2 with h0 | ⟨b', hb, hc⟩
    · subst h0; simp at hx
    · cases hb
      rw [At.add_lit]
      exact hc _ _ hx
theorem no_src (a : Addr) (c : Nat) (w : World) : Src Try.prog 1 29 (.slice (some a) 0 c) 0 (ints []) w :=
  Src.ofSlice w row29.ht _ _ _ _ rfl (fun j u hj => by simp [ints] at hj) (ints_one _)

theorem erase_cut (E : List Int) (i : Nat) : ints ((E.drop 0).take i) ++ ints ((E.drop (i + 1)).take (E.length - (i + 1))) = ints (E.eraseIdx i) := by
  rw [← ints_append, List.drop_zero, List.take_of_length_le (l := E.drop (i + 1)) (by rw [List.length_drop]; exact Nat.le_refl _), List.eraseIdx_eq_take_drop_succ]

set_option maxRecDepth 100000 in
set_option maxHeartbeats 2000000 in
theorem without_any (E : List Int) (a : Option Addr) (c : Nat) (w : World) (h : Ri E a c w) (hl : E.length ≤ 1000000) (i : Nat) (hi : i < E.length) :
    Calls Try.prog 20 #[.slice a E.length c, .int .i64 (i : Int)] w fun e w' => ∃ v, e = .returned v ∧ Rw w.heap.size 3 1 v (E.eraseIdx i).length (ints (E.eraseIdx i)) w' ∧ Below w.heap.size w w' := by
  obtain ⟨b, rfl, -⟩ := h.at hi
  have hA : Below w.heap.size w ((w.alloc (.cells #[] 3)).drew) := (At.below_alloc _).trans ⟨rfl, rfl, rfl, Nat.le_refl _, fun _ _ => rfl⟩
  have hcap : E.length ≤ c := h.1.1
  have q0 : Rw w.heap.size 3 1 (.slice (some ⟨w.heap.size, 0, none⟩) 0 0) 0 [] ((w.alloc (.cells #[] 3)).drew) := row_empty w.drew
  obtain ⟨v1, w1, r1, q1, b1⟩ := app_more q0 (part_src (c' := c) (h.below hA) 0 i (by omega)) (by omega) (by simp)
  rw [List.nil_append, Nat.zero_add] at q1
  obtain ⟨i1, hi1⟩ : ∃ i1, i + 1 = i1 := ⟨_, rfl⟩
  have hw : IntKind.i64.wrap ((i : Int) + 1) = (i1 : Int) := by rw [wrap_small _ (by omega) (by omega)]; omega
  have hlen : i + (E.length - i1) = (E.eraseIdx i).length := by rw [List.length_eraseIdx_of_lt hi]; omega
  have hcut := erase_cut E i
  rw [hi1] at hcut
  have h1 : (i : Int) ≤ (c : Int) := by omega
  have h2 : (i1 : Int) ≤ (E.length : Int) := by omega
  by_cases hc : c = i1
  · subst hc
    have hz : E.length - c = 0 := by omega
    have q2 := app_more (news := ints []) q1 (no_src ⟨b, 0, none⟩ 0 w1) (by omega) (Nat.le_trans hA.size b1.size)
    rw [show ints ((E.drop 0).take i) ++ ints [] = ints (E.eraseIdx i) by rw [← hcut, hz]; simp, show i + 0 = (E.eraseIdx i).length by rw [← hlen, hz]] at q2
    obtain ⟨v2, w2, r2, q2, b2⟩ := q2
    have R1 := Lib.hid r1
    have R2 := Lib.hid r2
    have Q2 := Lib.hid (And.intro q2 (hA.trans (b1.trans b2)))
    clear r1 r2 q1 q2 b1 b2 hA h q0 hlen hcut hi1
    go_enter Try.func20, Try.ntmps20
    go_wp2
    go_region_law (first | (refine step_run rfl (.tmp 5) (.tmp 8) 29 29 rfl _ _ rfl rfl v1 w1 R1.out ?_) | (refine step_run rfl (.tmp 9) (.tmp 13) 29 29 rfl _ _ rfl rfl v2 w2 R2.out ?_))
    go_wp2
    go_ret
    exact ⟨v2, rfl, Q2.out⟩
  · obtain ⟨v2, w2, r2, q2, b2⟩ := app_more q1 (part_src (c' := c - i1) (h.below (hA.trans b1)) i1 (E.length - i1) (by omega)) (by omega) (Nat.le_trans hA.size b1.size)
    rw [hcut, hlen] at q2
    have R1 := Lib.hid r1
    have R2 := Lib.hid r2
    have Q2 := Lib.hid (And.intro q2 (hA.trans (b1.trans b2)))
    clear r1 r2 q1 q2 b1 b2 hA h q0 hlen hcut hi1
    go_enter Try.func20, Try.ntmps20
    go_wp2
    go_region_law (first | (refine step_run rfl (.tmp 5) (.tmp 8) 29 29 rfl _ _ rfl rfl v1 w1 R1.out ?_) | (refine step_run rfl (.tmp 9) (.tmp 13) 29 29 rfl _ _ rfl rfl v2 w2 R2.out ?_))
    go_wp2
    go_ret
    exact ⟨v2, rfl, Q2.out⟩

theorem nil_src (w : World) : Src Try.prog 1 29 (.slice none 0 0) 0 (ints []) w := Src.ofNil w row29.ht 0
theorem one_src (w : World) (x : Int) : Src Try.prog 1 29 (.slice (some ⟨w.heap.size, 0, none⟩) 1 1) 1 (ints [x]) (w.alloc (.cells #[.int .i64 x] 3)) :=
  Src.ofSlice (P := Try.prog) _ row29.ht ⟨w.heap.size, 0, none⟩ 1 1 (ints [x]) rfl (fun j u hj => by
    rw [At.add_lit, Nat.zero_add, cell_of_heap (heap_alloc_new w _) j, List.getElem?_toArray]
    exact hj) (ints_one _)

/-- with an element at a place -/
def ins (E : List Int) (i : Nat) (x : Int) : List Int := E.take i ++ x :: E.drop i
theorem ins_cut (E : List Int) (i : Nat) (x : Int) : ints ((E.drop 0).take i) ++ ints [x] ++ ints ((E.drop i).take (E.length - i)) = ints (ins E i x) := by
  unfold ins
  rw [← ints_append, ← ints_append, List.drop_zero, List.take_of_length_le (l := E.drop i) (by rw [List.length_drop]; exact Nat.le_refl _), List.append_assoc, List.singleton_append]
theorem ins_len (E : List Int) (i : Nat) (x : Int) (h : i ≤ E.length) : i + 1 + (E.length - i) = (ins E i x).length := by
  unfold ins
  simp
  omega

theorem Ri.take {E : List Int} {a : Option Addr} {c : Nat} {w : World} (h : Ri E a c w) (n : Nat) (hn : n ≤ E.length) : Ri (E.take n) a c w := by
  refine ⟨⟨by have := h.1.1; simp; omega, fun e => ?_⟩, ?_⟩
  · obtain ⟨h1, h2⟩ := h.1.2 e
    exact ⟨by simp; omega, h2⟩
  · by_cases h0 : E.take n = []
    · exact Or.inl h0
    · right
      rcases h.2 with h1 | ⟨b, rfl, hc⟩
      · subst h1; simp at h0
      · refine ⟨b, rfl, fun j x hx => hc j x ?_⟩
        have hj : j < n := by
          have := (List.getElem?_eq_some_iff.1 hx).1
          simp at this
          omega
        rw [List.getElem?_take_of_lt hj] at hx
        exact hx

set_option maxRecDepth 100000 in
set_option maxHeartbeats 2000000 in
theorem rclear_any (E : List Int) (a : Option Addr) (c : Nat) (w : World) (h : Ri E a c w) (hl : E.length ≤ 1000000) :
    Calls Try.prog 18 #[.slice a E.length c] w fun e w' => e = .returned (.slice a (E.take (clrN E)).length c) ∧ Below w.heap.size w w' := by
  have cS := since_any E a c w h hl
  have hle := snc_le E
  have hcap : E.length ≤ c := h.1.1
  have hN : clrN E = snc E - 1 := rfl
  rw [hN]
  obtain ⟨s, hs⟩ : ∃ s, snc E = s := ⟨_, rfl⟩
  rw [hs] at cS hle ⊢
  have hlen : (E.take (s - 1)).length = s - 1 := by simp; omega
  rw [hlen]
  have hnil : a = none → c = 0 := fun e => (h.1.2 e).2
  clear hN hs hlen
  by_cases h0 : s = 0
  · subst h0
    go_enter Try.func18, Try.ntmps18
    go_wp2_with fail
    refine cS.mono ?_
    rintro e w1 ⟨rfl, hb1⟩
    go_wp2
    go_ret
    exact ⟨rfl, hb1⟩
  · obtain ⟨k, rfl⟩ : ∃ k, s = k + 1 := ⟨s - 1, by omega⟩
    have hk : ¬ (((k + 1 : Nat) : Int) - 1 < 0) := by omega
    have h1 : (k : Int) ≤ (c : Int) := by omega
    have hw : IntKind.i64.wrap (((k + 1 : Nat) : Int) - 1) = (k : Int) := by
      rw [show ((k + 1 : Nat) : Int) - 1 = (k : Int) by omega, wrap_small _ (by omega) (by omega)]
    go_enter Try.func18, Try.ntmps18
    go_wp2_with fail
    refine cS.mono ?_
    rintro e w1 ⟨rfl, hb1⟩
    go_wp2
    go_ret
    exact ⟨rfl, hb1⟩
end Go.Proofs.Ytnnidajflnandaa
