/- What the law ArenaActs is handed: acts in a slice, read. -/
import Derived.Test.YtpnjjpbgbdicoaaFrame
import Derived.Test.YtpnjjpbgbdicoaaRw
namespace Go.Proofs.Ytpnjjpbgbdicoaa
open Go.ChangeShapes Go.WideShapes Go.ChangeAt Go.RowKit
open At (Str cellsA cellsA_len Sl)

/-- an act -/
structure Ac where
  d : Int
  a : Int
  b : Int
  s : List UInt8
  ats : List At.At

/-- acts that came in: five cells each; numbers that fit; their attributes below b0 -/
def AcAt (w : World) (b0 : Nat) (x : Ac) (b off : Nat) : Prop :=
  ∃ aa ca, w.cell? ⟨b, off, none⟩ = some (.int .i64 x.d) ∧ w.cell? ⟨b, off + 1, none⟩ = some (.int .i64 x.a) ∧ w.cell? ⟨b, off + 2, none⟩ = some (.int .i64 x.b) ∧ w.cell? ⟨b, off + 3, none⟩ = some (.string ⟨x.s.toArray⟩) ∧ w.cell? ⟨b, off + 4, none⟩ = some (.slice aa x.ats.length ca) ∧ Sl x.ats aa ca w ∧ (x.ats ≠ [] → ∀ ad, aa = some ad → ad.block < b0) ∧
    (-9223372036854775808 ≤ x.a ∧ x.a ≤ 9223372036854775807) ∧ (-9223372036854775808 ≤ x.b ∧ x.b ≤ 9223372036854775807)
def AcSl (w : World) (b0 : Nat) (l : List Ac) (a : Option Addr) (c : Nat) : Prop :=
  Fits l.length a c ∧ (l = [] ∨ ∃ b off, a = some ⟨b, off, none⟩ ∧ ∀ (i : Nat) (x : Ac), l[i]? = some x → AcAt w b0 x b (off + i * 5))
/-- how much there is in it -/
def acw : List Ac → Nat
  | [] => 0
  | x :: l => x.s.length + x.ats.length + 1 + acw l

variable {H : Type} {enc : TypeId × Value → H} {W : World}

theorem lit_fits {n : Int} (h : (Lit.int .i64 n).wf = true) : -9223372036854775808 ≤ n ∧ n ≤ 9223372036854775807 := by
  simp [Lit.wf, IntKind.min, IntKind.max, IntKind.bits, IntKind.signed] at h
  omega

theorem add_add (a : Addr) (m i : Nat) : (a.add m).add i = a.add (m + i) := by
  rcases a with ⟨b, o, sp⟩
  unfold Addr.add
  by_cases hm : m = 0
  · subst hm
    simp
  · by_cases hi : i = 0
    · subst hi
      simp [hm]
    · simp [hm, hi]
      omega

theorem sl_lt {L : List At.At} {a : Option Addr} {c : Nat} (h : Sl L a c W) : L ≠ [] → ∀ ad, a = some ad → ad.block < W.heap.size := by
  intro hL ad had
  obtain ⟨-, -, h | ⟨b, off, hb, hc⟩⟩ := h
  · exact absurd h hL
  · obtain rfl : ad = ⟨b, off, none⟩ := by rw [had] at hb; injection hb
    exact World.block_lt_of_cell? W _ (hc 0 (List.length_pos_iff.2 hL)).1

/-- acts, one behind the other -/
theorem open_acts_list (n : Nat) (a : Addr) : ∀ (l : List (DataW H × List MemPlace)) (i0 : Nat),
    (∀ j y, l[j]? = some y → (W.cells? 0 (a.add ((i0 + j) * 5)) 5).bind (DataW.trod enc Try.prog W 0 (fun _ => true) true n 35) = some y) →
    ∃ L : List Ac, L.length = l.length ∧ acw L ≤ Rows.uptoBulkAll (l.map (·.1)) ∧ ∀ (j : Nat) (x : Ac), L[j]? = some x → ∃ (aa : Option Addr) (ca : Nat), (∀ (i : Nat) (u : Value), [Value.int .i64 x.d, .int .i64 x.a, .int .i64 x.b, .string ⟨x.s.toArray⟩, .slice aa x.ats.length ca][i]? = some u → W.cell? (a.add ((i0 + j) * 5 + i)) = some u) ∧ Sl x.ats aa ca W ∧ (-9223372036854775808 ≤ x.a ∧ x.a ≤ 9223372036854775807) ∧ (-9223372036854775808 ≤ x.b ∧ x.b ≤ 9223372036854775807) := by
  intro l
  induction l with
  | nil => intro i0 _; exact ⟨[], rfl, Nat.zero_le _, fun j x h => by simp at h⟩
  | cons y l ihl =>
    intro i0 h
    obtain ⟨L, hL, hw, hc⟩ := ihl (i0 + 1) (fun j z hz => by
      have := h (j + 1) z (by simpa using hz)
      rw [show i0 + (j + 1) = i0 + 1 + j by omega] at this
      exact this)
    have h0 := h 0 y rfl
    rw [Nat.add_zero] at h0
    obtain ⟨cs, hcs, ht⟩ := Option.bind_eq_some_iff.1 h0
    obtain ⟨-, hl5, hcell⟩ := World.cells?_some hcs
    obtain ⟨xs, m, hnm, rfl, -, hxs, hf⟩ := DataW.trod_struct Try.underlying35 ht
    have c9 : Try.prog.cellsOf 9 = 1 := by kernel_rfl
    have c3 : Try.prog.cellsOf 3 = 1 := by kernel_rfl
    have c33 : Try.prog.cellsOf 33 = 1 := by kernel_rfl
    match cs, hl5, xs, hxs with
    | [v0, v1, v2, v3, v4], _, [y0, y1, y2, y3, y4], _ =>
      have t0 : DataW.trod enc Try.prog W 0 (fun _ => true) true m 3 (([v0, v1, v2, v3, v4].drop 0).take (Try.prog.cellsOf 3)) = some y0 := hf 0 _ rfl
      have t1 : DataW.trod enc Try.prog W 0 (fun _ => true) true m 3 (([v0, v1, v2, v3, v4].drop 1).take (Try.prog.cellsOf 3)) = some y1 := hf 1 _ rfl
      have t2 : DataW.trod enc Try.prog W 0 (fun _ => true) true m 3 (([v0, v1, v2, v3, v4].drop 2).take (Try.prog.cellsOf 3)) = some y2 := hf 2 _ rfl
      have t3 : DataW.trod enc Try.prog W 0 (fun _ => true) true m 9 (([v0, v1, v2, v3, v4].drop 3).take (Try.prog.cellsOf 9)) = some y3 := hf 3 _ rfl
      have t4 : DataW.trod enc Try.prog W 0 (fun _ => true) true m 33 (([v0, v1, v2, v3, v4].drop 4).take (Try.prog.cellsOf 33)) = some y4 := hf 4 _ rfl
      rw [c3] at t0 t1 t2
      rw [c9] at t3
      rw [c33] at t4
      obtain ⟨n0, e0, rfl, -⟩ := DataW.trod_int Try.underlying3 t0
      obtain ⟨n1, e1, rfl, w1⟩ := DataW.trod_int Try.underlying3 t1
      obtain ⟨n2, e2, rfl, w2⟩ := DataW.trod_int Try.underlying3 t2
      obtain ⟨s3, e3, rfl, -⟩ := DataW.trod_string Try.underlying9 t3
      obtain ⟨A, aa, ca, e4, hA, hAw⟩ := open_ats t4
      have e0' : v0 = .int .i64 n0 := by simpa using e0
      have e1' : v1 = .int .i64 n1 := by simpa using e1
      have e2' : v2 = .int .i64 n2 := by simpa using e2
      have e3' : v3 = .string s3 := by simpa using e3
      have e4' : v4 = .slice aa A.length ca := by simpa using e4
      subst e0' e1' e2' e3' e4'
      have hal := F.atw_len A
      refine ⟨⟨n0, n1, n2, s3.data.toList, A⟩ :: L, by simp [hL], ?_, fun j x hj => ?_⟩
      · simp only [acw, List.map_cons, List.map_nil, Rows.uptoBulkAll, Rows.uptoBulk]
        omega
      · cases j with
        | zero =>
          simp only [List.getElem?_cons_zero, Option.some.injEq] at hj
          subst hj
          refine ⟨aa, ca, fun i u hi => ?_, hA, lit_fits w1, lit_fits w2⟩
          have hi5 : i < 5 := by have := (List.getElem?_eq_some_iff.1 hi).1; simpa using this
          have := hcell i hi5
          rw [hi] at this
          rw [← this, Nat.add_zero]
          rw [add_add]
        | succ j =>
          simp only [List.getElem?_cons_succ] at hj
          obtain ⟨aa', ca', k1, k2⟩ := hc j x hj
          refine ⟨aa', ca', fun i u hi => ?_, k2⟩
          have := k1 i u hi
          rw [show i0 + (j + 1) = i0 + 1 + j by omega]
          exact this

/-- a slice of acts that came in -/
theorem open_acts {fuel : Nat} {cs : List Value} {x : DataW H × List MemPlace} (h : DataW.trod enc Try.prog W 0 (fun _ => true) true fuel 22 cs = some x) :
    ∃ (L : List Ac) (a : Option Addr) (c : Nat), cs = [.slice a L.length c] ∧ AcSl W W.heap.size L a c ∧ acw L + 1 ≤ Rows.uptoBulk x.1 := by
  rcases DataW.trod_slice Try.underlying22 h with ⟨rfl, rfl⟩ | ⟨a, len, cap, elems, rest, n, -, rfl, rfl, -, hl, -, hlen, hel, -⟩
  · exact ⟨[], none, 0, rfl, ⟨⟨Nat.le_refl _, fun _ => ⟨rfl, rfl⟩⟩, Or.inl rfl⟩, Nat.le_refl _⟩
  · obtain ⟨L, hL, hw, hc⟩ := open_acts_list (enc := enc) (W := W) n a elems 0 (fun j y hj => by
      have hjl : j < len := by rw [← hlen]; exact (List.getElem?_eq_some_iff.1 hj).1
      have := hel j hjl
      rw [show Try.prog.cellsOf 35 = 5 by kernel_rfl, hj] at this
      rw [Nat.zero_add]
      exact this)
    refine ⟨L, some a, cap, by rw [hL, hlen], ⟨⟨by omega, fun h => (by cases h)⟩, ?_⟩, ?_⟩
    · by_cases h0 : L = []
      · exact Or.inl h0
      · right
        have hpos : 0 < L.length := List.length_pos_iff.2 h0
        obtain ⟨aa, ca, k1, -⟩ := hc 0 _ (List.getElem?_eq_getElem hpos)
        have h1 := k1 0 _ rfl
        obtain ⟨b, off, spot⟩ := a
        have hspot : spot = none := by simpa [Addr.add] using World.cell?_spot h1
        subst hspot
        refine ⟨b, off, rfl, fun i x hi => ?_⟩
        obtain ⟨aa, ca, k1, k2, k3, k4⟩ := hc i x hi
        have g := fun j u hj => k1 j u hj
        simp only [Nat.zero_add] at g
        have g' : ∀ (j : Nat) (u : Value), [Value.int .i64 x.d, .int .i64 x.a, .int .i64 x.b, .string ⟨x.s.toArray⟩, .slice aa x.ats.length ca][j]? = some u → W.cell? ⟨b, off + i * 5 + j, none⟩ = some u := by
          intro j u hj
          have := g j u hj
          rw [At.add_lit] at this
          rw [Nat.add_assoc]
          exact this
        exact ⟨aa, ca, g' 0 _ rfl, g' 1 _ rfl, g' 2 _ rfl, g' 3 _ rfl, g' 4 _ rfl, k2, sl_lt k2, k3, k4⟩
    · simp only [Rows.uptoBulk]
      omega
end Go.Proofs.Ytpnjjpbgbdicoaa
