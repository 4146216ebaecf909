/- A node's place; the arena's under, where a node stands in none of another one's. -/
import Derived.Test.YtpnjjpbgbdicoaaEl
import Derived.Deep.LoopGhost
namespace Go.Proofs.Ytpnjjpbgbdicoaa
open Go.RowKit Go.Lib
open At (Str cellsA cellsA_len Sl)

variable {B R cp : Nat} {L : List QN} {vn : Value} {w : World}

theorem map_set_same {α β : Type} (f : α → β) {L : List α} {i : Nat} {a b : α} (h : L[i]? = some a) (hf : f b = f a) : (L.set i b).map f = L.map f := by
  rw [List.map_set, hf]
  refine List.ext_getElem? fun j => ?_
  by_cases hj : j = i
  · subst hj
    rw [List.getElem?_set_self (by simpa using (List.getElem?_eq_some_iff.1 h).1), List.getElem?_map, h]
    rfl
  · rw [List.getElem?_set_ne (fun e => hj e.symm)]
theorem flat_set_same {α β : Type} (f : α → List β) {L : List α} {i : Nat} {a b : α} (h : L[i]? = some a) (hf : f b = f a) : (L.set i b).flatMap f = L.flatMap f := by
  rw [List.flatMap_def, List.flatMap_def, map_set_same f h hf]

/-- a node's parent stored -/
theorem AR.updPar (h : AR B w R L cp vn) {i : Nat} {n : QN} (hn : L[i]? = some n) (p : Int) {g c : Nat} (hvn : vn = .slice (some ⟨g, 0, none⟩) L.length c) :
    AR B (w.setCell ⟨g, i * 4 + 2, none⟩ (.int .i64 p)) R (L.set i { n with par := p }) cp vn ∧ Chg B w (w.setCell ⟨g, i * 4 + 2, none⟩ (.int .i64 p)) := by
  have hnm := mem_of_at hn
  have hil : i < L.length := (List.getElem?_eq_some_iff.1 hn).1
  have hTn : Ty w g 76 := by
    obtain ⟨g', c', hv', -, -, -, hT, -⟩ := h.node hn
    rw [hvn] at hv'
    cases hv'
    exact hT
  have hRg : R ≠ g := fun e => by have := h.ty; rw [e] at this; exact absurd (this.uniq hTn) (by decide)
  have hset : ∀ q, q ≠ g → (w.setCell ⟨g, i * 4 + 2, none⟩ (.int .i64 p)).heap[q]? = w.heap[q]? := fun q hq => Below.heap_setCell _ _ _ _ hq
  have step : ∀ {e kk m : Nat} {v : Value} {xs : List Value}, Rw B e kk v m xs w → e ≠ 76 → Rw B e kk v m xs (w.setCell ⟨g, i * 4 + 2, none⟩ (.int .i64 p)) := by
    intro e kk m v xs hrw hne
    refine hrw.same fun q hq => hset q fun e => ?_
    subst e
    exact hrw.type_ne hTn hne hq.symm
  have hBg : B ≤ g := by
    have := h.nodes
    subst hvn
    exact (this.lt g rfl).1
  refine ⟨⟨h.hB, ?_, ?_, ?_, ?_, ?_, ?_, ?_⟩, ⟨(Below.refl B w).setCell hBg _, fun q e hT h1 h2 h3 h4 => hset q (fun e' => by subst e'; exact h1 (hT.uniq hTn))⟩⟩
  · rw [hset R hRg]; exact h.blk
  · rw [List.length_set]
    have hnodes := h.nodes
    subst hvn
    have := hnodes.set (i * 4 + 2) (by omega) (.int .i64 p)
    have hs := fl_set nc_len L i 2 n { n with par := p } (.int .i64 p) hn (by decide) rfl
    unfold ncells at *
    rw [hs] at this
    exact this
  · intro m hm
    rcases mem_set hm with hm | rfl
    · exact step (h.attrs m hm) (by decide)
    · exact step (h.attrs n hnm) (by decide)
  · intro m hm
    rcases mem_set hm with hm | rfl
    · exact step (h.inner m hm) (by decide)
    · exact step (h.inner n hnm) (by decide)
  · intro m hm q hq
    rcases mem_set hm with hm | rfl
    · exact step (h.texts m hm q hq) (by decide)
    · exact step (h.texts n hnm q hq) (by decide)
  · rw [map_set_same (b := { n with par := p }) QN.vi hn rfl]; exact h.apI
  · rw [flat_set_same (b := { n with par := p }) _ hn rfl]; exact h.apT

/-- from a node on, through those in which it stands, the other one isn't met: so many steps up -/
def NU (L : List QN) (outer : Nat) : Nat → Int → Prop
  | 0, i => i = -1
  | k + 1, i => ∃ (j : Nat) (n : QN), i = (j : Int) ∧ j ≠ outer ∧ L[j]? = some n ∧ NU L outer k n.par

theorem NU.ne {outer k : Nat} {i : Int} (h : NU L outer k i) : i ≠ (outer : Int) := by
  cases k with
  | zero => simp only [NU] at h; omega
  | succ k => simp only [NU] at h; obtain ⟨j, n, rfl, hj, -⟩ := h; omega

set_option maxHeartbeats 4000000 in
set_option maxRecDepth 100000 in
theorem under_false (h : AR B w R L cp vn) (outer : Nat) (no : QN) (ho : L[outer]? = some no) (k : Nat) (i : Int) (hk : NU L outer k i) :
    Calls Try.prog 47 #[.pointer (some ⟨R, 0, none⟩), .int .i64 i, .int .i64 (outer : Int)] w fun e w' => e = .returned (.bool false) ∧ w' = w := by
  obtain ⟨g, c, hvn, hol, hc, -, -, d0, d1, d2, d3, -⟩ := h.node ho
  obtain ⟨av, cv, hvi, -⟩ := (h.inner no (mem_of_at ho)).slice
  rw [hvi] at d3
  have c0 := h.c0
  rw [hvn] at c0
  have hoI : (outer : Int) < (L.length : Int) := by omega
  have hne : (i == (outer : Int)) = false := beq_eq_false_iff_ne.2 hk.ne
  have HA := Lib.hid h
  have HV := Lib.hid hvn
  have HK := Lib.hid hk
  clear h hvn hvi ho hk d0 d1 d2
  by_cases hz : no.inn.length = 0
  · rw [hz] at d3
    clear hz
    go_enter Try.func47, Try.ntmps47
    go_wp2
    go_ret
    exact ⟨rfl, rfl⟩
  · have hz' : ((no.inn.length : Int) == 0) = false := beq_eq_false_iff_ne.2 (by omega)
    clear hz hne
    go_enter Try.func47, Try.ntmps47
    go_wp2
    go_loopg [1] k (fun kk v1 wr => ∃ ii : Int, v1 = .int .i64 ii ∧ NU L outer kk ii ∧ wr = w)
    case atStart => exact ⟨i, rfl, HK.out, rfl⟩
    case round =>
      obtain ⟨ii, rfl, hnu, rfl⟩ := hrel
      have hne := hnu.ne
      cases gk with
      | zero =>
        simp only [NU] at hnu
        subst hnu
        have hb : ((-1 : Int) == (outer : Int)) = false := beq_eq_false_iff_ne.2 (by omega)
        have hb2 : ((-1 : Int) != (outer : Int)) = true := bne_iff_ne.2 (by omega)
        clear hne
        go_wp2
        go_ret
        exact ⟨rfl, rfl⟩
      | succ kk =>
        simp only [NU] at hnu
        obtain ⟨j, n, rfl, hj, hjn, hnext⟩ := hnu
        obtain ⟨g', c', hv', hjl, -, -, -, -, -, e2, -, -⟩ := HA.out.node hjn
        rw [HV.out] at hv'
        cases hv'
        have hjI : (j : Int) < (L.length : Int) := by omega
        have hb : ((j : Int) == (outer : Int)) = false := beq_eq_false_iff_ne.2 (by omega)
        have hb2 : ((j : Int) != (outer : Int)) = true := bne_iff_ne.2 (by omega)
        have hb3 : ((j : Int) != -1) = true := bne_iff_ne.2 (by omega)
        have HN := Lib.hid hnext
        clear hnext hjn hne hj
        go_wp2
        go_roundg kk
        case rel => exact ⟨n.par, rfl, HN.out, rfl⟩
        case measure => omega
end Go.Proofs.Ytpnjjpbgbdicoaa
