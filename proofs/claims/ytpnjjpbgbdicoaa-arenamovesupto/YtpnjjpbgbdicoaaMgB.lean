/- Merge's step at a text behind a text: the last one's text stored. -/
import Derived.Test.YtpnjjpbgbdicoaaMgA
import Derived.Laws.OwnMore
namespace Go.Proofs.Ytpnjjpbgbdicoaa
open Go.RowKit Go.Lib
open At (Str cellsA cellsA_len Sl)

/-- the last node's text, where it has no name -/
def F.lastT : F → Option (List UInt8)
  | .nil => none
  | .cons nm _ tx _ .nil => if nm = [] then some tx else none
  | .cons _ _ _ _ (.cons nm ats tx inn rest) => F.lastT (.cons nm ats tx inn rest)

theorem NV.more {w : World} {P : Nat → Prop} (t tx0 : List UInt8) : ∀ {d : F} {us : List Value}, NV w P d us → d.lastT = some tx0 → ∃ m, d.len = m + 1 ∧ us[m * 4]? = some (.string ⟨([] : List UInt8).toArray⟩) ∧ us[m * 4 + 2]? = some (.string ⟨tx0.toArray⟩) ∧ NV w P (d.addT t) (us.set (m * 4 + 2) (.string ⟨(tx0 ++ t).toArray⟩)) ∧ (d.addT t).len = d.len
  | .nil, us, h, hl => by simp [F.lastT] at hl
  | .cons nm ats tx inn .nil, us, h, hl => by
    simp only [F.lastT] at hl
    split at hl
    · rename_i hn
      subst hn
      injection hl with hl
      subst hl
      rw [NV] at h
      obtain ⟨a, c, a', c', vs, us', rfl, h1, h2, h3, h4⟩ := h
      rw [F.addT, if_pos rfl]
      refine ⟨0, rfl, rfl, rfl, ?_, rfl⟩
      rw [NV]
      exact ⟨a, c, a', c', vs, us', rfl, h1, h2, h3, h4⟩
    · cases hl
  | .cons nm ats tx inn (.cons nm2 ats2 tx2 inn2 rest), us, h, hl => by
    rw [F.lastT] at hl
    rw [NV] at h
    obtain ⟨a, c, a', c', vs, us', rfl, h1, h2, h3, h4⟩ := h
    obtain ⟨m, hm, k1, k2, k3, k4⟩ := NV.more t tx0 h4 hl
    refine ⟨m + 1, by rw [F.len, hm], ?_, ?_, ?_, ?_⟩
    · rw [show (m + 1) * 4 = m * 4 + 1 + 1 + 1 + 1 by omega]
      simpa using k1
    · rw [show (m + 1) * 4 + 2 = m * 4 + 2 + 1 + 1 + 1 + 1 by omega]
      simpa using k2
    · rw [F.addT, NV, show (m + 1) * 4 + 2 = m * 4 + 2 + 1 + 1 + 1 + 1 by omega]
      exact ⟨a, c, a', c', vs, us'.set (m * 4 + 2) (.string ⟨(tx0 ++ t).toArray⟩), rfl, h1, h2, h3, k3⟩
    · rw [F.addT, F.len, F.len, k4]
theorem NOwn.more {w : World} {B : Nat} {e : TypeId} {P : Nat → Prop} {v : Value} {d : F} (h : NOwn w B e P v d) (t tx0 : List UInt8) (hl : d.lastT = some tx0) :
    ∃ g m c, v = .slice (some ⟨g, 0, none⟩) (m + 1) c ∧ d.len = m + 1 ∧ B ≤ g ∧ g < w.heap.size ∧ w.cell? ⟨g, m * 4, none⟩ = some (.string ⟨([] : List UInt8).toArray⟩) ∧ w.cell? ⟨g, m * 4 + 2, none⟩ = some (.string ⟨tx0.toArray⟩) ∧
      w.frozen? ⟨g, m * 4 + 2, none⟩ = false ∧ NOwn (w.setCell ⟨g, m * 4 + 2, none⟩ (.string ⟨(tx0 ++ t).toArray⟩)) B e P v (d.addT t) ∧ w.grownBy (w.setCell ⟨g, m * 4 + 2, none⟩ (.string ⟨(tx0 ++ t).toArray⟩)) (some g) := by
  obtain ⟨us, h1, h2⟩ := h
  obtain ⟨m, hm, k1, k2, k3, k4⟩ := NV.more t tx0 h2 hl
  rcases h1.2 with ⟨-, h0⟩ | ⟨g, cap, cur, rfl, hg, -⟩
  · omega
  · have hlt := h1.lt g rfl
    rw [hm] at h1
    obtain ⟨s1, s2⟩ := h1.stored (m * 4 + 2) (.string ⟨(tx0 ++ t).toArray⟩)
    refine ⟨g, m, cap, by rw [hm], hm, hg, hlt.2, (h1.cellAt _ (by omega)).trans k1, (h1.cellAt _ (by omega)).trans k2, h1.frozenAt _, ⟨_, ?_, NV.mono ?_ (NV.kept ?_ k3.lt)⟩, s2⟩
    · rw [k4, hm]
      exact s1
    · intro b hb _
      exact hb.1
    · intro b hb
      exact s2.block b hb.2 hb.1.2
theorem F.addT_none (t : List UInt8) : ∀ {d : F}, d.lastT = none → d.addT t = d.app (F.one t)
  | .nil, _ => rfl
  | .cons nm ats tx inn .nil, h => by
    simp only [F.lastT] at h
    split at h
    · cases h
    · rename_i hn
      rw [F.addT, if_neg hn]
      rfl
  | .cons nm ats tx inn (.cons nm2 ats2 tx2 inn2 rest), h => by
    rw [F.lastT] at h
    rw [F.addT, F.addT_none t h]
    rfl

theorem NV.named {w : World} {P : Nat → Prop} : ∀ {d : F} {us : List Value} {m : Nat}, NV w P d us → d.lastT = none → d.len = m + 1 → ∃ nm : List UInt8, nm ≠ [] ∧ us[m * 4]? = some (.string ⟨nm.toArray⟩)
  | .nil, _, _, _, _, hm => by simp [F.len] at hm
  | .cons nm ats tx inn .nil, us, m, h, hl, hm => by
    simp only [F.lastT] at hl
    split at hl
    · cases hl
    · rename_i hn
      rw [NV] at h
      obtain ⟨a, c, a', c', vs, us', rfl, h1, h2, h3, h4⟩ := h
      simp only [F.len] at hm
      obtain rfl : m = 0 := by omega
      exact ⟨nm, hn, rfl⟩
  | .cons nm ats tx inn (.cons nm2 ats2 tx2 inn2 rest), us, m, h, hl, hm => by
    rw [F.lastT] at hl
    rw [NV] at h
    obtain ⟨a, c, a', c', vs, us', rfl, h1, h2, h3, h4⟩ := h
    rw [F.len] at hm
    obtain ⟨k, rfl⟩ : ∃ k, m = k + 1 := ⟨(F.cons nm2 ats2 tx2 inn2 rest).len - 1, by simp only [F.len] at hm ⊢; omega⟩
    obtain ⟨nm', hn, hk⟩ := NV.named (m := k) h4 hl (by omega)
    refine ⟨nm', hn, ?_⟩
    rw [show (k + 1) * 4 = k * 4 + 1 + 1 + 1 + 1 by omega]
    simpa using hk

theorem NOwn.named {w : World} {B : Nat} {e : TypeId} {P : Nat → Prop} {v : Value} {d : F} (h : NOwn w B e P v d) (hl : d.lastT = none) {m : Nat} (hm : d.len = m + 1) :
    ∃ g c, ∃ nm : List UInt8, v = .slice (some ⟨g, 0, none⟩) (m + 1) c ∧ nm ≠ [] ∧ g < w.heap.size ∧ w.cell? ⟨g, m * 4, none⟩ = some (.string ⟨nm.toArray⟩) := by
  obtain ⟨us, h1, h2⟩ := h
  obtain ⟨nm, hn, k1⟩ := NV.named h2 hl hm
  rcases h1.2 with ⟨-, h0⟩ | ⟨g, cap, cur, rfl, hg, -⟩
  · omega
  · have hlt := h1.lt g rfl
    rw [hm] at h1
    exact ⟨g, cap, nm, by rw [hm], hn, hlt.2, (h1.cellAt _ (by omega)).trans k1⟩
end Go.Proofs.Ytpnjjpbgbdicoaa
