/- Proved: for every slice of acts the law ArenaActs of layer 12 returns true and leaves what was handed in as it was. Condition: the arguments hold together at most 1048576 values and letters, each counted each time it is reached (the statement's own second form). -/
import Derived.Test.YtpnjjpbgbdicoaaRows
import Derived.Test.YtpnjjpbgbdicoaaFrame
import Derived.Test.YtpnjjpbgbdicoaaLActs
namespace Go.Proofs.Ytpnjjpbgbdicoaa.arenaActs
open Go.ChangeShapes Go.WideShapes Go.ChangeAt Go.RowKit

theorem walk (L : List Ac) (a : Option Addr) (c : Nat) (W : World) (hs : AcSl W W.heap.size L a c) (hw : acw L ≤ 1048576) :
    Calls Try.prog 3 #[.slice a L.length c] W fun e w' => e = .returned (.bool true) ∧ Below W.heap.size W w' := by
  by_cases h : L.length ≤ 40
  · exact arenaActs_walk L a c W hs h hw
  · exact arenaActs_long L.length a c W (by omega)

set_option maxRecDepth 100000 in
theorem lifted (os : Os) (started : os.Started) (H : Type) (enc : TypeId × Value → H) (FI : Stop.Interp) :
    ReturnsInHanded {} Try.checked os 3 .any ((Rows.OpenSpec.upto Rows.arenaActsSpec).pre6 enc Try.prog Try.f3 Rows.arenaActsUptoRow.domain false) (((Rows.OpenSpec.upto Rows.arenaActsSpec).at FI).post enc Try.prog Try.f3 false true false false) := by
  refine returnsInHanded_of_cond (C := Try.checked) (s := Rows.OpenSpec.upto Rows.arenaActsSpec) (k := Rows.uptoSmall) rfl own started (by kernel_rfl) Try.func3
    (OpenSpec.witness (enc := enc) (C := Try.checked) (s := Rows.OpenSpec.upto Rows.arenaActsSpec) (k := Rows.uptoSmall) rfl false ⟨#[], #[.slice none 0 0], []⟩ 8 (by kernel_rfl) (by kernel_rfl) (by kernel_rfl)
      (x := ([.nil], [], [])) (by kernel_rfl) rfl (by kernel_rfl)) ?_
  intro W base args ds gs before hval0 hW _ hk _
  have hval : ∀ (j : Nat) t v, Try.f3.params[j]? = some t → args[j]? = some v → Value.okWide Try.prog W .any base t v := hval0
  have hW' := hW
  obtain ⟨p, q, hA0, hV, rfl, _, _⟩ := hW
  have hA : DataW.TrodAll enc Try.prog W 0 (fun _ => true) true Try.f3.params.toList args.toList ds p := hA0
  rw [Try.params3] at hA hval
  obtain ⟨v0, vs0, d0, ds0, p0, q0, hargs, rfl, rfl, h0, r0⟩ := trodAll_cons hA
  obtain ⟨rfl, rfl, rfl⟩ := trodAll_nil r0
  obtain rfl : args = #[v0] := by cases args; simp_all
  obtain ⟨rfl, rfl⟩ := trodVars_none hV
  have hb : Rows.uptoBulkAll [d0] ≤ 1048576 := by
    have h := of_decide_eq_true hk
    simpa only [List.append_nil] using h
  simp only [Rows.uptoBulkAll] at hb
  have lt0 : ∀ x ∈ p0, x.block < W.heap.size := by obtain ⟨m, hm⟩ := h0; exact DataW.trod_lt m _ _ _ hm
  obtain ⟨b0, len0, cap0, rfl⟩ := okWide_slice Try.underlying22 (hval 0 22 v0 rfl rfl)
  obtain ⟨L, a, c, hf0, hs0, hw0⟩ : ∃ (L : List Ac) (a : Option Addr) (c : Nat), Value.slice b0 len0 cap0 = .slice a L.length c ∧ AcSl W W.heap.size L a c ∧ acw L + 1 ≤ Rows.uptoBulk d0 := by
    obtain ⟨m, hm⟩ := h0
    obtain ⟨L, a, c, hcs, hs, hw⟩ := open_acts hm
    exact ⟨L, a, c, by simpa [Value.cells] using hcs, hs, hw⟩
  cases hf0
  clear hA0 hval0
  refine (walk L _ _ W hs0 (by omega)).mono fun e W' ⟨he, bel⟩ => ?_
  subst he
  exact ⟨_, rfl, _, _, _, _, _, [], hW', trodAll_mk1 (shut_bool Try.underlying4 _), (trodAll_cons_mk (Below.trod laidOut (by kernel_rfl) (of_decide_eq_true (by kernel_rfl)) h0 bel lt0) (trodAll_mk0)), rfl, bel.frame _, fun h => by cases h⟩

theorem proved : Rows.ArenaActsUptoSaid :=
  OpenClaim.holds_of_cond 3 Try.f3 rfl rfl rfl rfl rfl rfl rfl ⟨rfl, rfl, rfl, rfl, rfl⟩ rfl rfl rfl rfl rfl (by kernel_rfl) Try.func3 (by kernel_rfl)
    (of_decide_eq_true (by kernel_rfl)) (by unfold Func.isWrapper; first | (rw [if_pos (by decide +kernel)]; kernel_rfl) | (rw [if_neg (by decide +kernel)]; exact ⟨rfl, rfl⟩))
    (fun os started H enc _ FI => lifted os started H enc FI)
#print axioms proved
end Go.Proofs.Ytpnjjpbgbdicoaa.arenaActs
