/- Proved: for every two slices of nodes the law ArenaMoves of layer 12 returns true and leaves what was handed in as it was. Condition: the arguments hold together at most 1048576 values and letters, each counted each time it is reached (the statement's own second form). -/
import Derived.Test.YtpnjjpbgbdicoaaRows
import Derived.Test.YtpnjjpbgbdicoaaFrame
import Derived.Test.YtpnjjpbgbdicoaaLMoves
namespace Go.Proofs.Ytpnjjpbgbdicoaa.arenaMoves
open Go.ChangeShapes Go.WideShapes Go.ChangeAt Go.RowKit

theorem walk (f0 : F) (a0 : Option Addr) (c0 : Nat) (f1 : F) (a1 : Option Addr) (c1 : Nat) (W : World) (hs0 : NSl W (fun _ => True) f0 a0 c0) (hw0 : f0.wt ≤ 1048576) (hs1 : NSl W (fun _ => True) f1 a1 c1) (hw1 : f1.wt ≤ 1048576) :
    Calls Try.prog 6 #[.slice a0 f0.len c0, .slice a1 f1.len c1] W fun e w' => e = .returned (.bool true) ∧ Below W.heap.size W w' := by
  by_cases h1 : fewF f0 = true
  · by_cases h2 : fewF f1 = true
    · exact arenaMoves_walk f0 f1 _ _ a0 a1 c0 c1 W hs0 hs1 (by omega) (by omega) (small_bulk hw0) (small_bulk hw1) h1 h2
    · exact arenaMoves_few f0 f1 _ a0 a1 c0 c1 W hs0 hs1 (by omega) (by omega) (Or.inr (by simpa using h2))
  · exact arenaMoves_few f0 f1 _ a0 a1 c0 c1 W hs0 hs1 (by omega) (by omega) (Or.inl (by simpa using h1))

set_option maxRecDepth 100000 in
theorem lifted (os : Os) (started : os.Started) (H : Type) (enc : TypeId × Value → H) (FI : Stop.Interp) :
    ReturnsInHanded {} Try.checked os 6 .any ((Rows.OpenSpec.upto Rows.arenaMovesSpec).pre6 enc Try.prog Try.f6 Rows.arenaMovesUptoRow.domain false) (((Rows.OpenSpec.upto Rows.arenaMovesSpec).at FI).post enc Try.prog Try.f6 false true false false) := by
  refine returnsInHanded_of_cond (C := Try.checked) (s := Rows.OpenSpec.upto Rows.arenaMovesSpec) (k := Rows.uptoSmall) rfl own started (by kernel_rfl) Try.func6
    (OpenSpec.witness (enc := enc) (C := Try.checked) (s := Rows.OpenSpec.upto Rows.arenaMovesSpec) (k := Rows.uptoSmall) rfl false ⟨#[], #[.slice none 0 0, .slice none 0 0], []⟩ 8 (by kernel_rfl) (by kernel_rfl) (by kernel_rfl)
      (x := ([.nil, .nil], [], [])) (by kernel_rfl) rfl (by kernel_rfl)) ?_
  intro W base args ds gs before hval0 hW _ hk _
  have hval : ∀ (j : Nat) t v, Try.f6.params[j]? = some t → args[j]? = some v → Value.okWide Try.prog W .any base t v := hval0
  have hW' := hW
  obtain ⟨p, q, hA0, hV, rfl, _, _⟩ := hW
  have hA : DataW.TrodAll enc Try.prog W 0 (fun _ => true) true Try.f6.params.toList args.toList ds p := hA0
  rw [Try.params6] at hA hval
  obtain ⟨v0, vs0, d0, ds0, p0, q0, hargs, rfl, rfl, h0, r0⟩ := trodAll_cons hA
  obtain ⟨v1, vs1, d1, ds1, p1, q1, rfl, rfl, rfl, h1, r1⟩ := trodAll_cons r0
  obtain ⟨rfl, rfl, rfl⟩ := trodAll_nil r1
  obtain rfl : args = #[v0, v1] := by cases args; simp_all
  obtain ⟨rfl, rfl⟩ := trodVars_none hV
  have hb : Rows.uptoBulkAll [d0, d1] ≤ 1048576 := by
    have h := of_decide_eq_true hk
    simpa only [List.append_nil] using h
  simp only [Rows.uptoBulkAll] at hb
  have lt0 : ∀ x ∈ p0, x.block < W.heap.size := by obtain ⟨m, hm⟩ := h0; exact DataW.trod_lt m _ _ _ hm
  obtain ⟨b0, len0, cap0, rfl⟩ := okWide_slice Try.underlying54 (hval 0 54 v0 rfl rfl)
  obtain ⟨f0, a0, c0, hf0, hs0, hw0⟩ : ∃ (f : F) (a : Option Addr) (c : Nat), Value.slice b0 len0 cap0 = .slice a f.len c ∧ NSl W (fun _ => True) f a c ∧ f.wt + 1 ≤ Rows.uptoBulk d0 := by
    obtain ⟨m, hm⟩ := h0
    obtain ⟨f, a, c, hcs, hs, hw⟩ := open_nodes m _ _ hm
    exact ⟨f, a, c, by simpa [Value.cells] using hcs, hs, hw⟩
  cases hf0
  have lt1 : ∀ x ∈ p1, x.block < W.heap.size := by obtain ⟨m, hm⟩ := h1; exact DataW.trod_lt m _ _ _ hm
  obtain ⟨b1, len1, cap1, rfl⟩ := okWide_slice Try.underlying54 (hval 1 54 v1 rfl rfl)
  obtain ⟨f1, a1, c1, hf1, hs1, hw1⟩ : ∃ (f : F) (a : Option Addr) (c : Nat), Value.slice b1 len1 cap1 = .slice a f.len c ∧ NSl W (fun _ => True) f a c ∧ f.wt + 1 ≤ Rows.uptoBulk d1 := by
    obtain ⟨m, hm⟩ := h1
    obtain ⟨f, a, c, hcs, hs, hw⟩ := open_nodes m _ _ hm
    exact ⟨f, a, c, by simpa [Value.cells] using hcs, hs, hw⟩
  cases hf1
  clear hA0 hval0
  refine (walk f0 _ _ f1 _ _ W hs0 (by omega) hs1 (by omega)).mono fun e W' ⟨he, bel⟩ => ?_
  subst he
  exact ⟨_, rfl, _, _, _, _, _, [], hW', trodAll_mk1 (shut_bool Try.underlying4 _), (trodAll_cons_mk (Below.trod laidOut (by kernel_rfl) (of_decide_eq_true (by kernel_rfl)) h0 bel lt0) (trodAll_cons_mk (Below.trod laidOut (by kernel_rfl) (of_decide_eq_true (by kernel_rfl)) h1 bel lt1) (trodAll_mk0))), rfl, bel.frame _, fun h => by cases h⟩

theorem proved : Rows.ArenaMovesUptoSaid :=
  OpenClaim.holds_of_cond 6 Try.f6 rfl rfl rfl rfl rfl rfl rfl ⟨rfl, rfl, rfl, rfl, rfl⟩ rfl rfl rfl rfl rfl (by kernel_rfl) Try.func6 (by kernel_rfl)
    (of_decide_eq_true (by kernel_rfl)) (by unfold Func.isWrapper; first | (rw [if_pos (by decide +kernel)]; kernel_rfl) | (rw [if_neg (by decide +kernel)]; exact ⟨rfl, rfl⟩))
    (fun os started H enc _ FI => lifted os started H enc FI)
#print axioms proved
end Go.Proofs.Ytpnjjpbgbdicoaa.arenaMoves
