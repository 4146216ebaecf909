/- The document's arena in memory: rows that are made once and read; copies of rows, and a row with one more. -/
import Derived.Test.YtnnidajflnandaaBase
import Derived.Laws.ResultCell
namespace Go.Proofs.Ytnnidajflnandaa
open Go.RowKit Go.Lib
open At (Str cellsA cellsA_len Sl below_drewN)

/-- what the walk must know of a row's type -/
structure RowT (t e : TypeId) (k bytes : Nat) : Prop where
  ht : Try.prog.underlying t = some (.slice e)
  info : ∃ (i : TypeInfo) (z : Value), Try.prog.info? e = some i ∧ i.zero = some z ∧ i.size = k ∧ i.bytes = bytes ∧ z.cells.size = k

theorem rowT {t e : TypeId} {k bytes : Nat} {z : Value} (ht : Try.prog.underlying t = some (.slice e)) (h : (Try.prog.info? e).map (fun i => (i.zero, i.size, i.bytes)) = some (some z, k, bytes)) (hz : z.cells.size = k) : RowT t e k bytes := by
  obtain ⟨i, hi, hp⟩ := Option.map_eq_some_iff.1 h
  simp only [Prod.mk.injEq] at hp
  exact ⟨ht, i, z, hi, hp.1, hp.2.1, hp.2.2, hz⟩

theorem row26 : RowT 26 9 1 16 := rowT (z := .string ByteArray.empty) Try.underlying26 (by kernel_rfl) rfl
theorem row27 : RowT 27 35 1 24 := rowT (z := .slice none 0 0) Try.underlying27 (by kernel_rfl) rfl
theorem row28 : RowT 28 110 1 24 := rowT (z := .slice none 0 0) Try.underlying28 (by kernel_rfl) rfl
theorem row29 : RowT 29 3 1 8 := rowT (z := .int .i64 0) Try.underlying29 (by kernel_rfl) rfl
theorem row85 : RowT 110 116 2 24 := rowT (z := .agg #[.string ByteArray.empty, .int .i64 0]) Try.underlying110 (by kernel_rfl) rfl

/-- a row as a source -/
theorem row_src {t e : TypeId} {k bytes : Nat} (T : RowT t e k bytes) {w : World} {B n : Nat} {v : Value} {xs : List Value} (h : Rw B e k v n xs w) (hone : ∀ x ∈ xs, x.oneCell' = true) : Src Try.prog k t v n xs w := by
  rcases h.2 with ⟨rfl, h0⟩ | ⟨g, c, rfl, -, -, -, -, h5, -⟩
  · have hl := h.1
    subst h0
    obtain rfl : xs = [] := List.eq_nil_of_length_eq_zero (by simpa using hl)
    exact Src.ofNil (P := Try.prog) _ (tx := t) (e' := e) T.ht 0
  · exact Src.ofSlice (P := Try.prog) _ (tx := t) (e' := e) T.ht ⟨g, 0, none⟩ n c xs h.1 (fun j u hj => by rw [At.add_lit, Nat.zero_add]; exact h5 j u hj) hone

/-- a row copied behind a new empty one -/
theorem copy_row {t e : TypeId} {k bytes : Nat} (T : RowT t e k bytes) (u : World) {B n : Nat} {v : Value} {xs : List Value} (h : Rw B e k v n xs u) (hone : ∀ x ∈ xs, x.oneCell' = true) (hn : n ≤ 8000000) (hb : bytes ≤ 100) :
    ∃ v' u', (Builtin.append_ #[t, t] t #[.slice (some ⟨u.heap.size, 0, none⟩) 0 0, v]).run Try.prog (u.alloc (.cells #[] e)) = .ok v' u' ∧ Rw u.heap.size e k v' n xs u' ∧ Below u.heap.size u u' ∧ v' ≠ .slice none 0 0 := by
  obtain ⟨i, z, hi, hz, hsz, hby, hzs⟩ := T.info
  have hA : Below u.heap.size u (u.alloc (.cells #[] e)) := At.below_alloc _
  have h0 : Rw u.heap.size e k (.slice (some ⟨u.heap.size, 0, none⟩) 0 0) 0 [] (u.alloc (.cells #[] e)) := ⟨by simp, Or.inr ⟨u.heap.size, 0, rfl, Nat.le_refl _, ⟨_, _, heap_alloc_new u _⟩, Nat.le_refl _, Nat.zero_le _, fun j x hj => by simp at hj, fun j hj => by omega⟩⟩
  have hbb : (0 + n) * bytes ≤ 140737488355328 := Nat.le_trans (Nat.mul_le_mul (by omega : 0 + n ≤ 8000000) hb) (by decide)
  obtain ⟨v', u', hr, h1, h2, h3, h4⟩ := h0.append (P := Try.prog) t t i z bytes T.ht hi hz hsz hby hzs v n xs (row_src T (h.below hA) hone) (by unfold maxLen; omega) hbb (by simp)
  rw [Nat.zero_add, List.nil_append] at h1
  refine ⟨v', u', hr, h1, hA.grown h2 (by simp) (fun q hq => by cases hq; exact Nat.le_refl _), ?_⟩
  rintro rfl
  rcases h3 with h3 | h3 <;> cases h3

/-- a row with one element more -/
theorem push_row {t e : TypeId} {k bytes : Nat} (T : RowT t e k bytes) (u : World) {B n : Nat} {v : Value} {xs : List Value} (h : Rw B e k v n xs u) (us : List Value) (hus : us.length = k) (hone : ∀ x ∈ us, x.oneCell' = true) (hn : n + 1 ≤ 8000000) (hb : bytes ≤ 100) (hB : B ≤ u.heap.size) :
    ∃ v' u', (Builtin.append_ #[t, t] t #[v, .slice (some ⟨u.heap.size, 0, none⟩) 1 1]).run Try.prog (u.alloc (.cells us.toArray e)) = .ok v' u' ∧ Rw B e k v' (n + 1) (xs ++ us) u' ∧ Below B u u' ∧ (u.alloc (.cells us.toArray e)).grownBy u' v.ownBlock := by
  obtain ⟨i, z, hi, hz, hsz, hby, hzs⟩ := T.info
  have hA : Below u.heap.size u (u.alloc (.cells us.toArray e)) := At.below_alloc _
  have hbb : (n + 1) * bytes ≤ 140737488355328 := Nat.le_trans (Nat.mul_le_mul hn hb) (by decide)
  have hs : Src Try.prog k t (.slice (some ⟨u.heap.size, 0, none⟩) 1 1) 1 us (u.alloc (.cells us.toArray e)) :=
    Src.ofSlice (P := Try.prog) _ (tx := t) (e' := e) T.ht ⟨u.heap.size, 0, none⟩ 1 1 us (by rw [hus, Nat.one_mul]) (fun j x hj => by
      rw [At.add_lit, Nat.zero_add, cell_of_heap (heap_alloc_new u _) j, List.getElem?_toArray]
      exact hj) hone
  obtain ⟨v', u', hr, h1, h2, -, -⟩ := (h.below hA).append (P := Try.prog) t t i z bytes T.ht hi hz hsz hby hzs _ 1 us hs (by unfold maxLen; omega) hbb (by simp; omega)
  exact ⟨v', u', hr, h1, (hA.mono hB).grown h2 (by simp; omega) (fun q hq => (h.lt q hq).1), h2⟩

/-- an item's cells -/
def ic (p : Nat × List UInt8) : List Value := [.string ⟨p.2.toArray⟩, .int .i64 (p.1 : Int)]
def icells (l : List (Nat × List UInt8)) : List Value := l.flatMap ic
theorem ic_len (p : Nat × List UInt8) : (ic p).length = 2 := rfl
theorem icells_len (l : List (Nat × List UInt8)) : (icells l).length = l.length * 2 := fl_len ic_len l
theorem icells_one (l : List (Nat × List UInt8)) : ∀ x ∈ icells l, x.oneCell' = true := by
  intro x hx
  obtain ⟨p, -, hx⟩ := List.mem_flatMap.1 hx
  simp only [ic, List.mem_cons, List.not_mem_nil, or_false] at hx
  rcases hx with rfl | rfl <;> rfl
theorem icells_append (l m : List (Nat × List UInt8)) : icells (l ++ m) = icells l ++ icells m := by unfold icells; rw [List.flatMap_append]

/-- a row of items -/
abbrev Its (w : World) (v : Value) (l : List (Nat × List UInt8)) : Prop := Rw 0 116 2 v l.length (icells l) w

/-- the document's arena in memory; the attributes lie below b0 -/
structure RA (b0 : Nat) (w : World) (v0 v1 v2 v3 : Value) (M : List MN) : Prop where
  nms : Rw 0 9 1 v0 M.length (M.map fun n => .string ⟨n.nm.toArray⟩) w
  ats : ∃ xa : List Value, Rw 0 35 1 v1 M.length xa w ∧ ∀ (j : Nat) (n : MN), M[j]? = some n → ∃ a c, xa[j]? = some (.slice a n.ats.length c) ∧ Sl n.ats a c w ∧ (n.ats ≠ [] → ∀ ad, a = some ad → ad.block < b0)
  inn : ∃ xi : List Value, Rw 0 110 1 v2 M.length xi w ∧ ∀ (j : Nat) (n : MN), M[j]? = some n → ∃ v, xi[j]? = some v ∧ Its w v n.inn
  par : Rw 0 3 1 v3 M.length (M.map fun n => .int .i64 n.par) w

theorem RA.below {b0 : Nat} {w w' : World} {v0 v1 v2 v3 : Value} {M : List MN} (h : RA b0 w v0 v1 v2 v3 M) (hb : Below w.heap.size w w') : RA b0 w' v0 v1 v2 v3 M := by
  refine ⟨h.nms.below hb, ?_, ?_, h.par.below hb⟩
  · obtain ⟨xa, h1, h2⟩ := h.ats
    refine ⟨xa, h1.below hb, fun j n hn => ?_⟩
    obtain ⟨a, c, h3, h4, h5⟩ := h2 j n hn
    exact ⟨a, c, h3, h4.below hb, h5⟩
  · obtain ⟨xi, h1, h2⟩ := h.inn
    refine ⟨xi, h1.below hb, fun j n hn => ?_⟩
    obtain ⟨v, h3, h4⟩ := h2 j n hn
    exact ⟨v, h3, h4.below hb⟩

/-- a row's element of one cell -/
theorem Rw.el {B e : Nat} {v : Value} {n : Nat} {xs : List Value} {w : World} (h : Rw B e 1 v n xs w) {j : Nat} {x : Value} (hj : xs[j]? = some x) : ∃ g c, v = .slice (some ⟨g, 0, none⟩) n c ∧ j < n ∧ Ty w g e ∧ B ≤ g ∧ w.cell? ⟨g, j, none⟩ = some x ∧ w.frozen? ⟨g, j, none⟩ = false := by
  have hl : j < n := by
    have := (List.getElem?_eq_some_iff.1 hj).1
    rw [h.1] at this
    omega
  obtain ⟨g, c, hv, hB, -, hT, -, hc, hf⟩ := h.blk (by omega)
  exact ⟨g, c, hv, hl, hT, hB, hc j x hj, hf j (by omega)⟩

/-- a block's cells -/
def Bx (g : Nat) (cs : Array Value) (t : TypeId) (w : World) : Prop := w.heap[g]? = some (.cells cs t (0, 0))
theorem Bx.lt {g : Nat} {cs : Array Value} {t : TypeId} {w : World} (h : Bx g cs t w) : g < w.heap.size := (Array.getElem?_eq_some_iff.1 h).1
theorem Bx.ty {g : Nat} {cs : Array Value} {t : TypeId} {w : World} (h : Bx g cs t w) : Ty w g t := ⟨_, _, h⟩
theorem Bx.below {g : Nat} {cs : Array Value} {t : TypeId} {w w' : World} (h : Bx g cs t w) (hb : Below w.heap.size w w') : Bx g cs t w' := (hb.block g h.lt).trans h
theorem Bx.other {g q : Nat} {cs : Array Value} {t : TypeId} {w : World} (h : Bx g cs t w) (hq : g ≠ q) (j : Nat) (u : Value) : Bx g cs t (w.setCell ⟨q, j, none⟩ u) := by
  unfold Bx
  rw [Below.heap_setCell _ _ _ _ hq]
  exact h
theorem Bx.set {g : Nat} {cs : Array Value} {t : TypeId} {w : World} (h : Bx g cs t w) (j : Nat) (u : Value) : Bx g (cs.setIfInBounds j u) t (w.setCell ⟨g, j, none⟩ u) := by
  unfold Bx at *
  simp [World.setCell, Array.getElem?_modify, h]
theorem bx_new (w : World) (cs : Array Value) (t : TypeId) : Bx w.heap.size cs t (w.alloc (.cells cs t)) := heap_alloc_new w _
theorem Bx.cell {g : Nat} {cs : Array Value} {t : TypeId} {w : World} (h : Bx g cs t w) (j : Nat) : w.cell? ⟨g, j, none⟩ = cs[j]? := cell_of_heap h j
theorem Bx.fr {g : Nat} {cs : Array Value} {t : TypeId} {w : World} (h : Bx g cs t w) (j : Nat) : w.frozen? ⟨g, j, none⟩ = false := frozen_of_heap h j

/-- a store into a block leaves rows of other types -/
theorem Rw.setBox {B e k n : Nat} {v : Value} {xs : List Value} {w : World} (h : Rw B e k v n xs w) {g : Nat} {t : TypeId} (hT : Ty w g t) (hne : e ≠ t) (j : Nat) (u : Value) : Rw B e k v n xs (w.setCell ⟨g, j, none⟩ u) := by
  refine h.same fun q hq => Below.heap_setCell _ _ _ _ fun e' => ?_
  subst e'
  exact h.type_ne hT hne hq.symm
theorem sl_setBox {L : List At.At} {a : Option Addr} {c : Nat} {w : World} (h : Sl L a c w) {g : Nat} (hg : ∀ ad, a = some ad → L ≠ [] → ad.block ≠ g) (j : Nat) (u : Value) : Sl L a c (w.setCell ⟨g, j, none⟩ u) :=
  sl_kept h fun hL ad had => Below.heap_setCell _ _ _ _ (hg ad had hL)
end Go.Proofs.Ytnnidajflnandaa
