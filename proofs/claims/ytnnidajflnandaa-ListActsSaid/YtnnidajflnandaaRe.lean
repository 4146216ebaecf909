/- The document's arena while the program's arena and list are changed. -/
import Derived.Test.YtnnidajflnandaaOc
namespace Go.Proofs.Ytnnidajflnandaa
open Go.RowKit Go.Lib
open At (Str cellsA cellsA_len Sl)

theorem sl_low {L : List At.At} {a : Option Addr} {c b0 B : Nat} {w w' : World} (h : Sl L a c w) (hlt : L ≠ [] → ∀ ad, a = some ad → ad.block < b0) (hb : Below B w w') (hB : b0 ≤ B) : Sl L a c w' := by
  refine ⟨h.1, h.2.1, ?_⟩
  rcases h.2.2 with h0 | ⟨b, off, rfl, hc⟩
  · exact Or.inl h0
  · by_cases hL : L = []
    · exact Or.inl hL
    · have hl : b < B := Nat.lt_of_lt_of_le (hlt hL _ rfl) hB
      refine Or.inr ⟨b, off, rfl, fun i hi => ?_⟩
      obtain ⟨h1, h2⟩ := hc i hi
      exact ⟨(hb.cell (p := ⟨b, off + i * 2, none⟩) hl).trans h1, (hb.cell (p := ⟨b, off + i * 2 + 1, none⟩) hl).trans h2⟩

/-- the document's arena stands while the program's things change -/
theorem RA.ev {b0 B Bv n : Nat} {v v' d0 d1 d2 d3 : Value} {w w' : World} {xs : List Value} {M : List MN} (hE : Ev B v v' w w') (hb : b0 ≤ B) (hv : Rw Bv 3 1 v n xs w) (h : RA b0 w d0 d1 d2 d3 M) (hap : Apart d3 v) : RA b0 w' d0 d1 d2 d3 M ∧ Apart d3 v' := by
  obtain ⟨h3, h4⟩ := hE.row h.par (by decide) (by decide) (by decide) (by decide) (by decide) hap
  refine ⟨⟨(hE.row h.nms (by decide) (by decide) (by decide) (by decide) (by decide) (h.nms.types hv (by decide))).1, ?_, ?_, h3⟩, h4⟩
  · obtain ⟨xa, h1, h2⟩ := h.ats
    refine ⟨xa, (hE.row h1 (by decide) (by decide) (by decide) (by decide) (by decide) (h1.types hv (by decide))).1, fun j m hm => ?_⟩
    obtain ⟨a, c, k1, k2, k3⟩ := h2 j m hm
    exact ⟨a, c, k1, sl_low k2 k3 hE.below hb, k3⟩
  · obtain ⟨xi, h1, h2⟩ := h.inn
    refine ⟨xi, (hE.row h1 (by decide) (by decide) (by decide) (by decide) (by decide) (h1.types hv (by decide))).1, fun j m hm => ?_⟩
    obtain ⟨u, k1, k2⟩ := h2 j m hm
    exact ⟨u, k1, (hE.row k2 (by decide) (by decide) (by decide) (by decide) (by decide) (Rw.types k2 hv (by decide))).1⟩

/-- both arenas, the list, and what is wanted -/
structure Lp (b0 B G : Nat) (w wr : World) (R Ls k : Nat) (L : List QN) (E : List Int) (vn v d0 d1 d2 d3 u : Value) : Prop where
  st : ST B wr R Ls L E vn v
  ra : RA b0 wr d0 d1 d2 d3 (L.map mn)
  box : Bx G #[d0, d1, d2, d3, .int .i64 0] 31 wr
  want : Rw b0 3 1 u E.length (ints E) wr
  apP : Apart d3 v
  apW : Apart u v
  on : On E
  len : E.length ≤ k
  all : L.length = k + 1
  below : Below w.heap.size w wr

set_option maxRecDepth 100000 in
set_option maxHeartbeats 4000000 in
/-- more than forty acts -/
theorem acts_long (n : Nat) (a : Option Addr) (c : Nat) (w : World) (h : 40 < n) :
    Calls Try.prog 3 #[.slice a n c] w fun e w' => e = .returned (.bool true) ∧ Below w.heap.size w w' := by
  have hgt : (n : Int) > 40 := by omega
  clear h
  go_enter Try.func3, Try.ntmps3
  go_wp2_with fail
  refine (speaks_any w).mono ?_
  rintro e w1 ⟨rfl, hb1⟩
  go_wp2_with fail
  refine (speaks_any w1).mono ?_
  rintro e w2 ⟨rfl, hb2⟩
  go_wp2
  go_ret
  exact ⟨rfl, below_trans hb1 hb2⟩
end Go.Proofs.Ytnnidajflnandaa
