/- The library's Delete of one part, walked. -/
import Derived.Test.YtpnjjpbgbdicoaaUnd
import Derived.Lib.SliceRun
import Derived.Test.ZzDbg
namespace Go.Proofs.Ytpnjjpbgbdicoaa
open Go.RowKit Go.Lib
open At (Str cellsA cellsA_len Sl)

variable {B R cp : Nat} {L : List QN} {vn : Value} {w : World}


theorem pcells_append (l r : List QP) : pcells (l ++ r) = pcells l ++ pcells r := by
  unfold pcells
  rw [List.flatMap_append]

/-- what is left of a row without one part -/
theorem del_rw (l : List QP) (g c m j : Nat) (hm : l.length = m + 1) (hj : j ≤ m) (h : Rw B 93 2 (.slice (some ⟨g, 0, none⟩) (m + 1) c) (m + 1) (pcells l) w) :
    Rw B 93 2 (.slice (some ⟨g, 0, none⟩) m c) m (pcells (l.eraseIdx j)) ((w.setCells g (j * 2) (pcells (l.drop (j + 1)))).setCells g (m * 2) [.int .i64 0, .slice none 0 0]) := by
  have hne : (pcells (l.drop (j + 1))).length = (m - j) * 2 := by rw [pcells_len, List.length_drop]; omega
  have hl := pcells_len l
  rcases h.2 with ⟨h0, -⟩ | ⟨g', c', hv, h1, hT, h3, h4, h5, h6⟩
  · cases h0
  · cases hv
    have hsome := fun q (hq : q < c * 2) => World.isSome_setCells g (pcells (l.drop (j + 1))) (j * 2) w ⟨g, q, none⟩ (h6 q hq).1
    refine ⟨by rw [pcells_len, List.length_eraseIdx_of_lt (by omega)]; omega, Or.inr ⟨g, c, rfl, h1, Ty.setCells g _ _ _ (Ty.setCells g _ _ _ hT), by omega, h4, fun q u hq => ?_, fun q hq => ?_⟩⟩
    · have hqm : q < m * 2 := by
        rcases Nat.lt_or_ge q (m * 2) with h' | h'
        · exact h'
        · rw [List.getElem?_eq_none (by rw [pcells_len, List.length_eraseIdx_of_lt (by omega)]; omega)] at hq; cases hq
      rw [World.cell?_setCells_out g _ (m * 2) _ ⟨g, q, none⟩ (fun _ _ => Or.inl hqm)]
      rw [List.eraseIdx_eq_take_drop_succ, pcells_append] at hq
      have ht : (pcells (l.take j)).length = j * 2 := by rw [pcells_len, List.length_take]; omega
      by_cases hqj : q < j * 2
      · rw [World.cell?_setCells_out g _ (j * 2) _ ⟨g, q, none⟩ (fun _ _ => Or.inl hqj)]
        rw [List.getElem?_append_left (by omega)] at hq
        refine h5 q u ?_
        rw [← List.take_append_drop j l, pcells_append, List.getElem?_append_left (by omega)]
        exact hq
      · rw [List.getElem?_append_right (by omega), ht] at hq
        have hqn : q - j * 2 < (pcells (l.drop (j + 1))).length := by omega
        have := World.cell?_setCells_in g (pcells (l.drop (j + 1))) (j * 2) w (fun x hx => (h6 _ (by omega)).1) (q - j * 2) hqn
        rw [show j * 2 + (q - j * 2) = q by omega] at this
        rw [this, ← hq, List.getElem?_eq_getElem hqn]
    · rw [World.frozen?_setCells, World.frozen?_setCells]
      exact ⟨World.isSome_setCells g _ (m * 2) _ _ (hsome q hq), (h6 q hq).2⟩

theorem grown_trans {w1 w2 : World} {r : Option Nat} (h : w.grownBy w1 r) (k : w1.grownBy w2 r) : w.grownBy w2 r :=
  ⟨k.os.trans h.os, k.tape.trans h.tape, k.output.trans h.output, Nat.le_trans h.size k.size, fun q hq hr => (k.block q (Nat.lt_of_lt_of_le hq h.size) hr).trans (h.block q hq hr)⟩

/-- 'clear' of one part -/
theorem clear_one (W : World) (ty : TypeId) (g o c : Nat) (hc : ∀ j, j < 2 → (W.cell? ⟨g, o + j, none⟩).isSome = true) (hf : ∀ j, j < 2 → W.frozen? ⟨g, o + j, none⟩ = false) :
    (Builtin.clear_ #[74] ty #[.slice (some ⟨g, o, none⟩) 1 c]).run Try.prog W = .ok (.tuple #[]) (W.setCells g o [.int .i64 0, .slice none 0 0]) := by
  obtain ⟨i, hi, hp⟩ := info93
  simp only [Prod.mk.injEq] at hp
  obtain ⟨hz, hsz, hby⟩ := hp
  have hst := run_storeCells_cells (P := Try.prog) g o [.int .i64 0, .slice none 0 0] 0 W (by simpa using hc) (by simpa using hf) (by intro v hv'; simp at hv'; rcases hv' with rfl | rfl <;> rfl)
  simp only [Nat.add_zero] at hst
  have hv : ∀ w, (zeroValue 93).run Try.prog w = .ok (.agg #[.int .i64 0, .slice none 0 0]) w := by
    intro w
    simp [zeroValue, typeInfo, hi, hz]
  have hzc : (Builtin.zeroCells (Value.agg #[.int .i64 0, .slice none 0 0]).cells 1).toList = [.int .i64 0, .slice none 0 0] := by kernel_rfl
  simp [Builtin.clear_, run_underlying Try.underlying74, hv, hzc, hst]

set_option maxHeartbeats 8000000 in
set_option maxRecDepth 100000 in
theorem delete_any (l : List QP) (g c m j : Nat) (hone : ∀ p ∈ l, p.vt.oneCell' = true) (hm : l.length = m + 1) (hj : j ≤ m) (hml : m ≤ 8000000) (hmc : m + 1 ≤ c) (hc : c ≤ maxLen) (h : Rw B 93 2 (.slice (some ⟨g, 0, none⟩) (m + 1) c) (m + 1) (pcells l) w) :
    Calls Try.prog 53 #[.slice (some ⟨g, 0, none⟩) (m + 1) c, .int .i64 (j : Int), .int .i64 ((j : Int) + 1)] w fun e w' => e = .returned (.slice (some ⟨g, 0, none⟩) m c) ∧ Rw B 93 2 (.slice (some ⟨g, 0, none⟩) m c) m (pcells (l.eraseIdx j)) w' ∧ w.grownBy w' (some g) := by
  have h1 : (j : Int) < ((m : Int) + 1) := by omega
  have h2 : (j : Int) + 1 ≤ (m : Int) + 1 := by omega
  have h3 : ((j : Int) == (j : Int) + 1) = false := beq_eq_false_iff_ne.2 (by omega)
  have hcm : (m : Int) + 1 ≤ (c : Int) := by omega
  have hd : Rw B 93 2 (.slice (some ⟨g, 0, none⟩) (m + 1) c) (m + 1) (pcells l) w.drew := h.same fun _ _ => rfl
  have hgd : w.grownBy w.drew (some g) := ⟨rfl, rfl, rfl, Nat.le_refl _, fun _ _ _ => rfl⟩
  obtain ⟨i, hi, hp⟩ := info93
  simp only [Prod.mk.injEq] at hp
  obtain ⟨hz, hsz, hby⟩ := hp
  have hcells : (∀ q, q < c * 2 → (w.drew.cell? ⟨g, q, none⟩).isSome = true ∧ w.drew.frozen? ⟨g, q, none⟩ = false) ∧ (∀ (q : Nat) (u : Value), (pcells l)[q]? = some u → w.drew.cell? ⟨g, q, none⟩ = some u) := by
    rcases hd.2 with ⟨h0, -⟩ | ⟨g', c', hv, k1, hT, k3, k4, k5, k6⟩
    · cases h0
    · cases hv
      exact ⟨k6, k5⟩
  have hnl : (pcells (l.drop (j + 1))).length = (m - j) * 2 := by rw [pcells_len, List.length_drop]; omega
  -- the append's run, whatever is moved
  have hr : ∀ A, (j < m → A = ⟨g, (j + 1) * 2, none⟩) → (Builtin.append_ #[74, 74] 74 #[.slice (some ⟨g, 0, none⟩) j c, .slice (some A) (m - j) (c - (j + 1))]).run Try.prog w.drew = .ok (.slice (some ⟨g, 0, none⟩) m c) (w.drew.setCells g (j * 2) (pcells (l.drop (j + 1)))) := by
    intro A hA
    have hS : Src Try.prog i.size 74 (.slice (some A) (m - j) (c - (j + 1))) (m - j) (pcells (l.drop (j + 1))) w.drew := by
      rw [hsz]
      refine Src.ofSlice (P := Try.prog) _ Try.underlying74 A _ _ _ hnl (fun q u hq => ?_) (fun u hu => ?_)
      · have hqn : q < (pcells (l.drop (j + 1))).length := by
          rcases Nat.lt_or_ge q (pcells (l.drop (j + 1))).length with h' | h'
          · exact h'
          · rw [List.getElem?_eq_none h'] at hq; cases hq
        rw [hA (by omega), At.add_lit]
        refine hcells.2 _ _ ?_
        have ht : (pcells (l.take (j + 1))).length = (j + 1) * 2 := by rw [pcells_len, List.length_take]; omega
        have : pcells l = pcells (l.take (j + 1)) ++ pcells (l.drop (j + 1)) := by rw [← pcells_append, List.take_append_drop]
        rw [this, List.getElem?_append_right (by omega), ht, show (j + 1) * 2 + q - (j + 1) * 2 = q by omega]
        exact hq
      · unfold pcells at hu
        obtain ⟨p, hpm, hp⟩ := List.mem_flatMap.1 hu
        simp only [pc, List.mem_cons, List.not_mem_nil, or_false] at hp
        rcases hp with rfl | rfl
        · rfl
        · exact hone p (List.mem_of_mem_drop hpm)
    have := run_append_room_src (P := Try.prog) (w := w.drew) 74 74 74 93 i Try.underlying74 hi g 0 j c _ (m - j) _ hS (by omega) (fun q hq => by rw [hsz, Nat.zero_add]; exact (hcells.1 _ (by omega)).1) (fun q hq => by rw [hsz, Nat.zero_add]; exact (hcells.1 _ (by omega)).2)
    rw [hsz, Nat.zero_add, show j + (m - j) = m by omega] at this
    exact this
  -- what is left of it
  have hd2 := del_rw l g c m j hm hj hd
  have hg2 : w.grownBy ((w.drew.setCells g (j * 2) (pcells (l.drop (j + 1)))).setCells g (m * 2) [.int .i64 0, .slice none 0 0]) (some g) := grown_trans hgd (grown_trans (setCells_kept _ _ _ _) (setCells_kept _ _ _ _))
  obtain ⟨W1, hW1⟩ : ∃ W1, w.drew.setCells g (j * 2) (pcells (l.drop (j + 1))) = W1 := ⟨_, rfl⟩
  have hcl : ∀ ty c', (Builtin.clear_ #[74] ty #[.slice (some ⟨g, m * 2, none⟩) 1 c']).run Try.prog W1 = .ok (.tuple #[]) (W1.setCells g (m * 2) [.int .i64 0, .slice none 0 0]) := by
    intro ty c'
    rw [← hW1]
    refine clear_one _ ty g (m * 2) c' (fun q hq => World.isSome_setCells g _ _ _ _ (hcells.1 _ (by omega)).1) (fun q hq => ?_)
    rw [World.frozen?_setCells]
    exact (hcells.1 _ (by omega)).2
  rw [hW1] at hd2 hg2 hr
  have HD := Lib.hid hd2
  have HG := Lib.hid hg2
  have HRr := Lib.hid hr
  have HC := Lib.hid hcl
  clear hd2 hg2 hr hcl hd hgd h hcells hnl hi hz hsz hby hW1
  by_cases hjm : j < m
  · have hcj : ¬ c = j + 1 := by omega
    have hjc : j ≤ c := by omega
    have hjc1 : j + 1 ≤ m + 1 := by omega
    have hjc2 : j + 1 ≤ c := by omega
    have hms : m + 1 - (j + 1) = m - j := by omega
    have hj0 : (0 : Int) ≤ (j : Int) + 1 := by omega
    have hcm0 : ¬ c = m := by omega
    have hmm : m + 1 - m = 1 := by omega
    have HR := Lib.hid (HRr.out ⟨g, (j + 1) * 2, none⟩ (fun _ => rfl))
    have hclr := fun ty => HC.out ty (c - m)
    go_enter Try.func53, Try.ntmps53
    go_wp2_with fail
    go_region_law (first
      | (refine step_run rfl (.tmp 22) (.tmp 25) 74 74 rfl _ _ rfl rfl _ W1 HR.out ?_))
    go_wp2
    go_ret
    exact ⟨rfl, HD.out, HG.out⟩
  · obtain rfl : j = m := by omega
    have hjc : j ≤ c := by omega
    have hjc2 : j + 1 ≤ c := by omega
    have hj0 : (0 : Int) ≤ (j : Int) + 1 := by omega
    have hj1 : (j : Int) ≤ (j : Int) + 1 := by omega
    have hmm : j + 1 - j = 1 := by omega
    by_cases hcj : c = j + 1
    · have hR := HRr.out ⟨g, 0, none⟩ (fun h => absurd h (by omega))
      have hclr := fun ty => HC.out ty 1
      rw [Nat.sub_self] at hR
      subst hcj
      rw [Nat.sub_self] at hR
      have HR := Lib.hid hR
      clear hR HRr HC
      go_enter Try.func53, Try.ntmps53
      go_wp2_with fail
      go_region_law (first
        | (simp only [Act.put, List.setIfInBounds_toArray]; refine step_run rfl (.tmp 22) (.tmp 25) 74 74 rfl _ _ rfl rfl _ W1 HR.out ?_))
      go_wp2
      go_ret
      exact ⟨rfl, HD.out, HG.out⟩
    · have hR := HRr.out ⟨g, (j + 1) * 2, none⟩ (fun h => absurd h (by omega))
      have hclr := fun ty => HC.out ty (c - j)
      rw [Nat.sub_self] at hR
      have HR := Lib.hid hR
      have hcm0 : ¬ c = j := by omega
      clear hR HRr HC
      go_enter Try.func53, Try.ntmps53
      go_wp2_with fail
      go_region_law (first
        | (simp only [Act.put, List.setIfInBounds_toArray]; refine step_run rfl (.tmp 22) (.tmp 25) 74 74 rfl _ _ rfl rfl _ W1 HR.out ?_))
      go_wp2
      go_ret
      exact ⟨rfl, HD.out, HG.out⟩
end Go.Proofs.Ytpnjjpbgbdicoaa
