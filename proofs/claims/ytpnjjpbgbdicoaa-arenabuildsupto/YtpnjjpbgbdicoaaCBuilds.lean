/- Proved: for every slice of nodes the law ArenaBuilds of layer 12 returns true and leaves what was handed in as it was. Condition: the arguments hold together at most 1048576 values and letters, each counted each time it is reached (the statement's own second form). -/
import Derived.Test.YtpnjjpbgbdicoaaRows
import Derived.Test.YtpnjjpbgbdicoaaFrame
import Derived.Test.YtpnjjpbgbdicoaaLBuilds
namespace Go.Proofs.Ytpnjjpbgbdicoaa.arenaBuilds
open Go.ChangeShapes Go.WideShapes Go.ChangeAt Go.RowKit

theorem walk (f0 : F) (a0 : Option Addr) (c0 : Nat) (W : World) (hs0 : NSl W (fun _ => True) f0 a0 c0) (hw0 : f0.wt ≤ 1048576) :
    Calls Try.prog 5 #[.slice a0 f0.len c0] W fun e w' => e = .returned (.bool true) ∧ Below W.heap.size W w' := by
  by_cases h1 : fewF f0 = true
  · exact arenaBuilds_walk f0 _ a0 c0 W hs0 (by omega) (small_bulk hw0) h1
  · exact arenaBuilds_few f0 _ a0 c0 W hs0 (by omega) (by simpa using h1)

set_option maxRecDepth 100000 in
theorem lifted (os : Os) (started : os.Started) (H : Type) (enc : TypeId × Value → H) (FI : Stop.Interp) :
    ReturnsInHanded {} Try.checked os 5 .any ((Rows.OpenSpec.upto Rows.arenaBuildsSpec).pre6 enc Try.prog Try.f5 Rows.arenaBuildsUptoRow.domain false) (((Rows.OpenSpec.upto Rows.arenaBuildsSpec).at FI).post enc Try.prog Try.f5 false true false false) := by
  refine returnsInHanded_of_cond (C := Try.checked) (s := Rows.OpenSpec.upto Rows.arenaBuildsSpec) (k := Rows.uptoSmall) rfl own started (by kernel_rfl) Try.func5
    (OpenSpec.witness (enc := enc) (C := Try.checked) (s := Rows.OpenSpec.upto Rows.arenaBuildsSpec) (k := Rows.uptoSmall) rfl false ⟨#[], #[.slice none 0 0], []⟩ 8 (by kernel_rfl) (by kernel_rfl) (by kernel_rfl)
      (x := ([.nil], [], [])) (by kernel_rfl) rfl (by kernel_rfl)) ?_
  intro W base args ds gs before hval0 hW _ hk _
  have hval : ∀ (j : Nat) t v, Try.f5.params[j]? = some t → args[j]? = some v → Value.okWide Try.prog W .any base t v := hval0
  have hW' := hW
  obtain ⟨p, q, hA0, hV, rfl, _, _⟩ := hW
  have hA : DataW.TrodAll enc Try.prog W 0 (fun _ => true) true Try.f5.params.toList args.toList ds p := hA0
  rw [Try.params5] at hA hval
  obtain ⟨v0, vs0, d0, ds0, p0, q0, hargs, rfl, rfl, h0, r0⟩ := trodAll_cons hA
  obtain ⟨rfl, rfl, rfl⟩ := trodAll_nil r0
  obtain rfl : args = #[v0] := by cases args; simp_all
  obtain ⟨rfl, rfl⟩ := trodVars_none hV
  have hb : Rows.uptoBulkAll [d0] ≤ 1048576 := by
    have h := of_decide_eq_true hk
    simpa only [List.append_nil] using h
  simp only [Rows.uptoBulkAll] at hb
  have lt0 : ∀ x ∈ p0, x.block < W.heap.size := by obtain ⟨m, hm⟩ := h0; exact DataW.trod_lt m _ _ _ hm
  obtain ⟨b0, len0, cap0, rfl⟩ := okWide_slice Try.underlying54 (hval 0 54 v0 rfl rfl)
  obtain ⟨f0, a0, c0, hf0, hs0, hw0⟩ : ∃ (f : F) (a : Option Addr) (c : Nat), Value.slice b0 len0 cap0 = .slice a f.len c ∧ NSl W (fun _ => True) f a c ∧ f.wt + 1 ≤ Rows.uptoBulk d0 := by
    obtain ⟨m, hm⟩ := h0
    obtain ⟨f, a, c, hcs, hs, hw⟩ := open_nodes m _ _ hm
    exact ⟨f, a, c, by simpa [Value.cells] using hcs, hs, hw⟩
  cases hf0
  clear hA0 hval0
  refine (walk f0 _ _ W hs0 (by omega)).mono fun e W' ⟨he, bel⟩ => ?_
  subst he
  exact ⟨_, rfl, _, _, _, _, _, [], hW', trodAll_mk1 (shut_bool Try.underlying4 _), (trodAll_cons_mk (Below.trod laidOut (by kernel_rfl) (of_decide_eq_true (by kernel_rfl)) h0 bel lt0) (trodAll_mk0)), rfl, bel.frame _, fun h => by cases h⟩

theorem proved : Rows.ArenaBuildsUptoSaid :=
  OpenClaim.holds_of_cond 5 Try.f5 rfl rfl rfl rfl rfl rfl rfl ⟨rfl, rfl, rfl, rfl, rfl⟩ rfl rfl rfl rfl rfl (by kernel_rfl) Try.func5 (by kernel_rfl)
    (of_decide_eq_true (by kernel_rfl)) (by unfold Func.isWrapper; first | (rw [if_pos (by decide +kernel)]; kernel_rfl) | (rw [if_neg (by decide +kernel)]; exact ⟨rfl, rfl⟩))
    (fun os started H enc _ FI => lifted os started H enc FI)
#print axioms proved
end Go.Proofs.Ytpnjjpbgbdicoaa.arenaBuilds
