/- A name that came in is no longer than a string may be. -/
import Derived.Test.YtmdpkolncfnfbaaFrame
namespace Go.Proofs.Ytmdpkolncfnfbaa
open Go.ChangeShapes Go.WideShapes Go.ChangeAt Go.RowKit

theorem attrs_len {H : Type} {enc : TypeId × Value → H} {W : World} {a : Option Addr} {cap : Nat} {d : DataW H} {p : List MemPlace} {L : List At}
    (h : DataW.Trod enc Try.prog W 0 (fun _ => true) true 22 (.slice a L.length cap) d p) (hs : Sl L a cap W) : ∀ x, x ∈ L → x.1.length ≤ maxLen := by
  intro x hx
  obtain ⟨i, hi, rfl⟩ := at0_of_mem hx
  obtain ⟨fuel, hf⟩ := h
  obtain ⟨hcap, hnil, h0 | ⟨b, off, rfl, hc⟩⟩ := hs
  · subst h0; simp at hi
  · rcases Go.Deep.open_slice_pairs Try.underlying22 Try.underlying24 (by kernel_rfl) rfl rfl (by kernel_rfl) (by kernel_rfl) hf with ⟨hcs, _⟩ | ⟨x, l, c, m, n, V0, V1, D0, D1, P0, P1, hcs, _, hl, hm, hmm, _, hx⟩
    · simp [Value.cells] at hcs
    · simp [Value.cells] at hcs
      obtain ⟨rfl, rfl, rfl⟩ := hcs
      simp only [if_true] at hmm
      subst hmm
      obtain ⟨h1, h2, h3, h4⟩ := hx i (by omega)
      obtain ⟨s, hs, hss⟩ := DataW.trod_string Try.underlying9 h3
      simp only [List.cons.injEq, and_true] at hs
      rw [add_lit, (hc i hi).1, hs] at h1
      injection h1 with h1
      injection h1 with h1
      have := hss.2
      rw [← h1] at this
      have e : (⟨(at0 L i).1.toArray⟩ : ByteArray).size = (at0 L i).1.length := by show (at0 L i).1.toArray.size = _; simp
      rw [e] at this
      exact this
end Go.Proofs.Ytmdpkolncfnfbaa
