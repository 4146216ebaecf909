/- What the law ListActs is handed: acts in a slice, read. -/
import Derived.Test.YtnnidajflnandaaFrame
import Derived.ChangeSame
namespace Go.Proofs.Ytnnidajflnandaa
open Go.ChangeShapes Go.WideShapes Go.ChangeAt Go.RowKit
open At (Str cellsA cellsA_len Sl)

/-- an act -/
structure Ac where
  d : Int
  n : Int
  s : List UInt8
  ats : List At.At

/-- acts that came in: four cells each; numbers that fit; their attributes in blocks that were there -/
def AcAt (w : World) (b0 : Nat) (x : Ac) (b off : Nat) : Prop :=
  ∃ aa ca, w.cell? ⟨b, off, none⟩ = some (.int .i64 x.d) ∧ w.cell? ⟨b, off + 1, none⟩ = some (.int .i64 x.n) ∧ w.cell? ⟨b, off + 2, none⟩ = some (.string ⟨x.s.toArray⟩) ∧ w.cell? ⟨b, off + 3, none⟩ = some (.slice aa x.ats.length ca) ∧ Sl x.ats aa ca w ∧ (x.ats ≠ [] → ∀ ad, aa = some ad → ad.block < b0) ∧
    (-9223372036854775808 ≤ x.n ∧ x.n ≤ 9223372036854775807)
def AcSl0 (b0 : Nat) (l : List Ac) (a : Option Addr) (c : Nat) (w : World) : Prop :=
  Fits l.length a c ∧ (l = [] ∨ ∃ b off, a = some ⟨b, off, none⟩ ∧ ∀ (i : Nat) (x : Ac), l[i]? = some x → AcAt w b0 x b (off + i * 4))
abbrev AcSl (l : List Ac) (a : Option Addr) (c : Nat) (w : World) : Prop := AcSl0 w.heap.size l a c w

variable {H : Type} {enc : TypeId × Value → H} {W : World}

theorem lit_fits {n : Int} (h : (Lit.int .i64 n).wf = true) : -9223372036854775808 ≤ n ∧ n ≤ 9223372036854775807 := by
  simp [Lit.wf, IntKind.min, IntKind.max, IntKind.bits, IntKind.signed] at h
  omega

theorem add_add (a : Addr) (m i : Nat) : (a.add m).add i = a.add (m + i) := by
  rcases a with ⟨b, o, sp⟩
  unfold Addr.add
  by_cases hm : m = 0
  · subst hm
    simp
  · by_cases hi : i = 0
    · subst hi
      simp [hm]
    · simp [hm, hi]
      omega

theorem sl_lt {L : List At.At} {a : Option Addr} {c : Nat} (h : Sl L a c W) : L ≠ [] → ∀ ad, a = some ad → ad.block < W.heap.size := by
  intro hL ad had
  obtain ⟨-, -, h | ⟨b, off, hb, hc⟩⟩ := h
  · exact absurd h hL
  · obtain rfl : ad = ⟨b, off, none⟩ := by rw [had] at hb; injection hb
    exact World.block_lt_of_cell? W _ (hc 0 (List.length_pos_iff.2 hL)).1

/-- attributes in a field -/
theorem open_ats {fuel : Nat} {cs : List Value} {x : DataW H × List MemPlace} (h : DataW.trod enc Try.prog W 0 (fun _ => true) true fuel 35 cs = some x) :
    ∃ (L : List At.At) (a : Option Addr) (c : Nat), cs = [.slice a L.length c] ∧ Sl L a c W := by
  rcases Go.Deep.open_slice_pairs Try.underlying35 Try.underlying71 (by kernel_rfl) rfl rfl (by kernel_rfl) (by kernel_rfl) h with ⟨rfl, _⟩ | ⟨x, len, c, m, n, V0, V1, D0, D1, P0, P1, rfl, _, hl, hm, hmm, _, hx⟩
  · exact ⟨[], none, 0, rfl, Nat.le_refl _, fun _ => ⟨rfl, rfl⟩, Or.inl rfl⟩
  · simp only [if_true] at hmm
    subst hmm
    obtain ⟨L, hL, hLi⟩ := choose_list (α := At.At) ([], []) len (fun i y => W.cell? (x.add (i * 2)) = some (.string ⟨y.1.toArray⟩) ∧ W.cell? (x.add (i * 2 + 1)) = some (.string ⟨y.2.toArray⟩)) (by
      intro i hi
      obtain ⟨h1, h2, h3, h4⟩ := hx i (by omega)
      obtain ⟨s, hs, _⟩ := DataW.trod_string Try.underlying9 h3
      obtain ⟨t, ht, _⟩ := DataW.trod_string Try.underlying9 h4
      obtain ⟨l1, rfl⟩ := str_list s
      obtain ⟨l2, rfl⟩ := str_list t
      simp only [List.cons.injEq, and_true] at hs ht
      exact ⟨(l1, l2), by rw [h1, hs], by rw [h2, ht]⟩)
    refine ⟨L, some x, _, by rw [hL], by omega, (fun h => by cases h), ?_⟩
    by_cases h0 : len = 0
    · left; exact List.eq_nil_of_length_eq_zero (by omega)
    · right
      obtain ⟨b, off, spot⟩ := x
      have hspot : spot = none := by simpa [Addr.add] using World.cell?_spot (hLi 0 (by omega)).1
      subst hspot
      refine ⟨b, off, rfl, fun i hi => ?_⟩
      obtain ⟨k1, k2⟩ := hLi i (by omega)
      rw [At.add_lit] at k1 k2
      exact ⟨k1, by rw [Nat.add_assoc]; exact k2⟩

/-- acts, one behind the other -/
theorem open_acts_list (n : Nat) (a : Addr) : ∀ (l : List (DataW H × List MemPlace)) (i0 : Nat),
    (∀ j y, l[j]? = some y → (W.cells? 0 (a.add ((i0 + j) * 4)) 4).bind (DataW.trod enc Try.prog W 0 (fun _ => true) true n 37) = some y) →
    ∃ L : List Ac, L.length = l.length ∧ ∀ (j : Nat) (x : Ac), L[j]? = some x → ∃ (aa : Option Addr) (ca : Nat), (∀ (i : Nat) (u : Value), [Value.int .i64 x.d, .int .i64 x.n, .string ⟨x.s.toArray⟩, .slice aa x.ats.length ca][i]? = some u → W.cell? (a.add ((i0 + j) * 4 + i)) = some u) ∧ Sl x.ats aa ca W ∧ (-9223372036854775808 ≤ x.n ∧ x.n ≤ 9223372036854775807) := by
  intro l
  induction l with
  | nil => intro i0 _; exact ⟨[], rfl, fun j x h => by simp at h⟩
  | cons y l ihl =>
    intro i0 h
    obtain ⟨L, hL, hc⟩ := ihl (i0 + 1) (fun j z hz => by
      have := h (j + 1) z (by simpa using hz)
      rw [show i0 + (j + 1) = i0 + 1 + j by omega] at this
      exact this)
    have h0 := h 0 y rfl
    rw [Nat.add_zero] at h0
    obtain ⟨cs, hcs, ht⟩ := Option.bind_eq_some_iff.1 h0
    obtain ⟨-, hl5, hcell⟩ := World.cells?_some hcs
    obtain ⟨xs, m, hnm, rfl, -, hxs, hf⟩ := DataW.trod_struct Try.underlying37 ht
    have c9 : Try.prog.cellsOf 9 = 1 := by kernel_rfl
    have c3 : Try.prog.cellsOf 3 = 1 := by kernel_rfl
    have c35 : Try.prog.cellsOf 35 = 1 := by kernel_rfl
    match cs, hl5, xs, hxs with
    | [v0, v1, v2, v3], _, [y0, y1, y2, y3], _ =>
      have t0 : DataW.trod enc Try.prog W 0 (fun _ => true) true m 3 (([v0, v1, v2, v3].drop 0).take (Try.prog.cellsOf 3)) = some y0 := hf 0 _ rfl
      have t1 : DataW.trod enc Try.prog W 0 (fun _ => true) true m 3 (([v0, v1, v2, v3].drop 1).take (Try.prog.cellsOf 3)) = some y1 := hf 1 _ rfl
      have t2 : DataW.trod enc Try.prog W 0 (fun _ => true) true m 9 (([v0, v1, v2, v3].drop 2).take (Try.prog.cellsOf 9)) = some y2 := hf 2 _ rfl
      have t3 : DataW.trod enc Try.prog W 0 (fun _ => true) true m 35 (([v0, v1, v2, v3].drop 3).take (Try.prog.cellsOf 35)) = some y3 := hf 3 _ rfl
      rw [c3] at t0 t1
      rw [c9] at t2
      rw [c35] at t3
      obtain ⟨n0, e0, rfl, -⟩ := DataW.trod_int Try.underlying3 t0
      obtain ⟨n1, e1, rfl, w1⟩ := DataW.trod_int Try.underlying3 t1
      obtain ⟨s2, e2, rfl, -⟩ := DataW.trod_string Try.underlying9 t2
      obtain ⟨A, aa, ca, e3, hA⟩ := open_ats t3
      have e0' : v0 = .int .i64 n0 := by simpa using e0
      have e1' : v1 = .int .i64 n1 := by simpa using e1
      have e2' : v2 = .string s2 := by simpa using e2
      have e3' : v3 = .slice aa A.length ca := by simpa using e3
      subst e0' e1' e2' e3'
      refine ⟨⟨n0, n1, s2.data.toList, A⟩ :: L, by simp [hL], fun j x hj => ?_⟩
      cases j with
      | zero =>
        simp only [List.getElem?_cons_zero, Option.some.injEq] at hj
        subst hj
        refine ⟨aa, ca, fun i u hi => ?_, hA, lit_fits w1⟩
        have hi4 : i < 4 := by have := (List.getElem?_eq_some_iff.1 hi).1; simpa using this
        have := hcell i hi4
        rw [hi] at this
        rw [← this, Nat.add_zero]
        rw [add_add]
      | succ j =>
        simp only [List.getElem?_cons_succ] at hj
        obtain ⟨aa', ca', k1, k2⟩ := hc j x hj
        refine ⟨aa', ca', fun i u hi => ?_, k2⟩
        have := k1 i u hi
        rw [show i0 + (j + 1) = i0 + 1 + j by omega]
        exact this

/-- a slice of acts that came in -/
theorem open_acts {a : Option Addr} {len cap : Nat} {d : DataW H} {p : List MemPlace}
    (h : DataW.Trod enc Try.prog W 0 (fun _ => true) true 22 (.slice a len cap) d p) : ∃ L : List Ac, L.length = len ∧ AcSl L a cap W := by
  obtain ⟨fuel, hf⟩ := h
  rcases DataW.trod_slice Try.underlying22 hf with ⟨hcs, _⟩ | ⟨a', len', cap', elems, rest, n, -, hcs, -, -, hl, -, hlen, hel, -⟩
  · simp [Value.cells] at hcs
    obtain ⟨rfl, rfl, rfl⟩ := hcs
    exact ⟨[], rfl, ⟨Nat.le_refl _, fun _ => ⟨rfl, rfl⟩⟩, Or.inl rfl⟩
  · simp [Value.cells] at hcs
    obtain ⟨rfl, rfl, rfl⟩ := hcs
    obtain ⟨L, hL, hc⟩ := open_acts_list (enc := enc) (W := W) n a' elems 0 (fun j y hj => by
      have hjl : j < len := by rw [← hlen]; exact (List.getElem?_eq_some_iff.1 hj).1
      have := hel j hjl
      rw [show Try.prog.cellsOf 37 = 4 by kernel_rfl, hj] at this
      rw [Nat.zero_add]
      exact this)
    refine ⟨L, by rw [hL, hlen], ⟨by omega, fun h => (by cases h)⟩, ?_⟩
    by_cases h0 : L = []
    · exact Or.inl h0
    · right
      have hpos : 0 < L.length := List.length_pos_iff.2 h0
      obtain ⟨aa, ca, k1, -⟩ := hc 0 _ (List.getElem?_eq_getElem hpos)
      have h1 := k1 0 _ rfl
      obtain ⟨b, off, spot⟩ := a'
      have hspot : spot = none := by simpa [Addr.add] using World.cell?_spot h1
      subst hspot
      refine ⟨b, off, rfl, fun i x hi => ?_⟩
      obtain ⟨aa, ca, k1, k2, k3⟩ := hc i x hi
      have g := fun j u hj => k1 j u hj
      simp only [Nat.zero_add] at g
      have g' : ∀ (j : Nat) (u : Value), [Value.int .i64 x.d, .int .i64 x.n, .string ⟨x.s.toArray⟩, .slice aa x.ats.length ca][j]? = some u → W.cell? ⟨b, off + i * 4 + j, none⟩ = some u := by
        intro j u hj
        have := g j u hj
        rw [At.add_lit] at this
        rw [Nat.add_assoc]
        exact this
      exact ⟨aa, ca, g' 0 _ rfl, g' 1 _ rfl, g' 2 _ rfl, g' 3 _ rfl, k2, sl_lt k2, k3⟩
end Go.Proofs.Ytnnidajflnandaa
