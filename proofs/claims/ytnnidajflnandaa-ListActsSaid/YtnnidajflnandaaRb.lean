/- The document's arena: New and Element, walked. -/
import Derived.Test.YtnnidajflnandaaRa
namespace Go.Proofs.Ytnnidajflnandaa
open Go.RowKit Go.Lib
open At (Str cellsA cellsA_len Sl below_drewN)

/-- a row copied, with one more -/
theorem ext_row {t e : TypeId} {k bytes : Nat} (T : RowT t e k bytes) (u : World) {B n : Nat} {v : Value} {xs : List Value} (h : Rw B e k v n xs u) (hone : ∀ x ∈ xs, x.oneCell' = true) (us : List Value) (hus : us.length = k) (huo : ∀ x ∈ us, x.oneCell' = true) (hn : n + 1 ≤ 8000000) (hb : bytes ≤ 100) :
    ∃ v1 u1 a2 c2 u2, (Builtin.append_ #[t, t] t #[.slice (some ⟨u.heap.size, 0, none⟩) 0 0, v]).run Try.prog (u.alloc (.cells #[] e)) = .ok v1 u1 ∧ (Builtin.append_ #[t, t] t #[v1, .slice (some ⟨u1.heap.size, 0, none⟩) 1 1]).run Try.prog (u1.alloc (.cells us.toArray e)) = .ok (.slice a2 (n + 1) c2) u2 ∧
      Rw u.heap.size e k (.slice a2 (n + 1) c2) (n + 1) (xs ++ us) u2 ∧ Below u.heap.size u u1 ∧ Below u.heap.size u u2 := by
  obtain ⟨v1, u1, r1, h1, b1, -⟩ := copy_row T u h hone (by omega) hb
  obtain ⟨v2, u2, r2, h2, b2, -⟩ := push_row T u1 h1 us hus huo hn hb b1.size
  obtain ⟨a2, c2, rfl, -⟩ := h2.slice
  exact ⟨v1, u1, a2, c2, u2, r1, r2, h2, b1, b1.trans b2⟩

/-- so for a field of a boxed arena -/
theorem ext_box {t e bytes : Nat} (T : RowT t e 1 bytes) (hb : bytes ≤ 100) (hne : e ≠ 31) (u : World) {g3 : Nat} {cs : Array Value} (hbx : Bx g3 cs 31 u) (f : Nat) {B n : Nat} {v : Value} {xs : List Value} (hf : cs[f]? = some v) (h : Rw B e 1 v n xs u) (hone : ∀ x ∈ xs, x.oneCell' = true) (x : Value) (hx : x.oneCell' = true) (hn : n + 1 ≤ 8000000) :
    ∃ v1 u1 a2 c2 u2, (u.alloc (.cells #[] e)).cell? ⟨g3, f, none⟩ = some v ∧ (Builtin.append_ #[t, t] t #[.slice (some ⟨u.heap.size, 0, none⟩) 0 0, v]).run Try.prog (u.alloc (.cells #[] e)) = .ok v1 u1 ∧ (Builtin.append_ #[t, t] t #[v1, .slice (some ⟨u1.heap.size, 0, none⟩) 1 1]).run Try.prog (u1.alloc (.cells #[x] e)) = .ok (.slice a2 (n + 1) c2) u2 ∧
      u2.cell? ⟨g3, f, none⟩ = some v ∧ u2.frozen? ⟨g3, f, none⟩ = false ∧ Bx g3 (cs.setIfInBounds f (.slice a2 (n + 1) c2)) 31 (u2.setCell ⟨g3, f, none⟩ (.slice a2 (n + 1) c2)) ∧
      Rw u.heap.size e 1 (.slice a2 (n + 1) c2) (n + 1) (xs ++ [x]) (u2.setCell ⟨g3, f, none⟩ (.slice a2 (n + 1) c2)) ∧ Below u.heap.size u u2 := by
  obtain ⟨v1, u1, a2, c2, u2, r1, r2, h2, b1, b2⟩ := ext_row T u h hone [x] rfl (fun y hy => by simp only [List.mem_singleton] at hy; rw [hy]; exact hx) hn hb
  have k2 := hbx.below b2
  exact ⟨v1, u1, a2, c2, u2, ((hbx.below (At.below_alloc _)).cell f).trans hf, r1, r2, (k2.cell f).trans hf, k2.fr f, k2.set f _, h2.setBox k2.ty hne f _, b2⟩

theorem below_set {B : Nat} {w w' : World} (h : Below B w w') {g : Nat} (hg : B ≤ g) (j : Nat) (u : Value) : Below B w (w'.setCell ⟨g, j, none⟩ u) := h.setCell (p := ⟨g, j, none⟩) hg u

theorem info31 : (Try.prog.info? 31).map (·.size) = some 5 := by kernel_rfl

/-- the arena as a value -/
abbrev rv (v0 v1 v2 v3 : Value) (cp : Nat) : Value := .agg #[v0, v1, v2, v3, .int .i64 (cp : Int)]

/-- what Element answers -/
def RElemPost (b0 cp : Nat) (M : List MN) (nm : List UInt8) (ats : List At.At) (w : World) (e : Ending) (w' : World) : Prop :=
  ∃ v0 v1 v2 v3, e = .returned (.tuple #[rv v0 v1 v2 v3 cp, .int .i64 (M.length : Int)]) ∧ RA b0 w' v0 v1 v2 v3 (M ++ [⟨nm, ats, -1, []⟩]) ∧ Below w.heap.size w w' ∧ ∀ g, v3.ownBlock = some g → w.heap.size ≤ g

/-- one cell more in each of the four rows -/
theorem RA.more {b0 : Nat} {w : World} {v0 v1 v2 v3 : Value} {M : List MN} {nm : List UInt8} {ats : List At.At} {a : Option Addr} {c : Nat}
    (hn : Rw 0 9 1 v0 (M.length + 1) ((M.map fun n => .string ⟨n.nm.toArray⟩) ++ [.string ⟨nm.toArray⟩]) w)
    {xa xi : List Value} (ha : Rw 0 35 1 v1 (M.length + 1) (xa ++ [.slice a ats.length c]) w) (ha' : ∀ (j : Nat) (n : MN), M[j]? = some n → ∃ a c, xa[j]? = some (.slice a n.ats.length c) ∧ Sl n.ats a c w ∧ (n.ats ≠ [] → ∀ ad, a = some ad → ad.block < b0)) (hs : Sl ats a c w) (hsb : ats ≠ [] → ∀ ad, a = some ad → ad.block < b0) (hla : xa.length = M.length)
    (hi : Rw 0 110 1 v2 (M.length + 1) (xi ++ [.slice none 0 0]) w) (hi' : ∀ (j : Nat) (n : MN), M[j]? = some n → ∃ v, xi[j]? = some v ∧ Its w v n.inn) (hli : xi.length = M.length)
    (hp : Rw 0 3 1 v3 (M.length + 1) ((M.map fun n => .int .i64 n.par) ++ [.int .i64 (-1)]) w) : RA b0 w v0 v1 v2 v3 (M ++ [⟨nm, ats, -1, []⟩]) := by
  have hl : (M ++ [(⟨nm, ats, -1, []⟩ : MN)]).length = M.length + 1 := by simp
  refine ⟨by rw [hl, List.map_append]; exact hn, ⟨_, by rw [hl]; exact ha, fun j n hj => ?_⟩, ⟨_, by rw [hl]; exact hi, fun j n hj => ?_⟩, by rw [hl, List.map_append]; exact hp⟩
  · by_cases hjl : j < M.length
    · rw [List.getElem?_append_left hjl] at hj
      obtain ⟨a', c', h1, h2⟩ := ha' j n hj
      exact ⟨a', c', by rw [List.getElem?_append_left (by omega)]; exact h1, h2⟩
    · rw [List.getElem?_append_right (by omega)] at hj
      have h0 : j - M.length = 0 := by
        have := (List.getElem?_eq_some_iff.1 hj).1
        simp only [List.length_singleton] at this
        omega
      rw [h0] at hj
      injection hj with hj
      subst hj
      exact ⟨a, c, by rw [List.getElem?_append_right (by omega), hla, h0]; rfl, hs, hsb⟩
  · by_cases hjl : j < M.length
    · rw [List.getElem?_append_left hjl] at hj
      obtain ⟨v, h1, h2⟩ := hi' j n hj
      exact ⟨v, by rw [List.getElem?_append_left (by omega)]; exact h1, h2⟩
    · rw [List.getElem?_append_right (by omega)] at hj
      have h0 : j - M.length = 0 := by
        have := (List.getElem?_eq_some_iff.1 hj).1
        simp only [List.length_singleton] at this
        omega
      rw [h0] at hj
      injection hj with hj
      subst hj
      exact ⟨.slice none 0 0, by rw [List.getElem?_append_right (by omega), hli, h0]; rfl, Rw.nil _ _ _ _⟩

/-- a box's store and growth elsewhere leave all that RA tells of rows -/
theorem sl_step {b0 : Nat} {L : List At.At} {a : Option Addr} {c : Nat} {u u2 : World} (h : Sl L a c u) (hlt : L ≠ [] → ∀ ad, a = some ad → ad.block < b0) (hb : Below u.heap.size u u2) {g : Nat} (hg : b0 ≤ g) (j : Nat) (x : Value) : Sl L a c (u2.setCell ⟨g, j, none⟩ x) :=
  sl_setBox (h.below hb) (fun ad had hL e => by have := hlt hL ad had; omega) j x

theorem str_one {α : Type} (f : α → Value) (hf : ∀ a, (f a).oneCell' = true) (M : List α) : ∀ x ∈ M.map f, x.oneCell' = true := by
  intro x hx
  obtain ⟨a, -, rfl⟩ := List.mem_map.1 hx
  exact hf a
/-- a row all of whose elements are told has them of one cell each -/
theorem row_one {xs : List Value} {n : Nat} (hl : xs.length = n) (h : ∀ j, j < n → ∃ x, xs[j]? = some x ∧ x.oneCell' = true) : ∀ x ∈ xs, x.oneCell' = true := by
  intro x hx
  obtain ⟨j, hj⟩ := List.mem_iff_getElem?.1 hx
  have hjl := (List.getElem?_eq_some_iff.1 hj).1
  obtain ⟨y, hy, h1⟩ := h j (by omega)
  rw [hj] at hy
  cases hy
  exact h1
theorem results_row_tmp {P : Program} {fn : Func} {p u : Tmp} {ty : TypeId} (h : fn.results = #[.cell p ty, .tmp u]) (tmps : Array Value) (w : World) (g : Nat) (t : TypeId) (cs : Array Value) (fr : Nat × Nat) (d : TypeDesc)
    (hp : tmps.getD p undef = .pointer (some ⟨g, 0, none⟩)) (hg : w.heap[g]? = some (.cells cs t fr))
    (hu : P.underlying ty = some d) (hd : (match d with | .struct _ | .array _ _ => true | _ => false) = true) (hi : (P.info? ty).map (·.size) = some cs.size) :
    (results fn tmps).run P w = .ok (.tuple #[.agg cs, tmps.getD u undef]) w := by
  rw [results_cell_tmp h]
  have e1 : (asAddr (tmps.getD p undef)).run P w = .ok ⟨g, 0, none⟩ w := by rw [hp]; simp [asAddr]
  rw [e1]
  simp only [Result.andThen]
  rw [run_loadVar_row w g t ty cs fr d hg hu hd hi]

theorem Bx.set5 {g : Nat} {t : TypeId} {x0 x1 x2 x3 x4 : Value} {w : World} (h : Bx g #[x0, x1, x2, x3, x4] t w) (y0 y1 y2 y3 y4 : Value) :
    Bx g #[y0, y1, y2, y3, y4] t (((((w.setCell ⟨g, 0, none⟩ y0).setCell ⟨g, 1, none⟩ y1).setCell ⟨g, 2, none⟩ y2).setCell ⟨g, 3, none⟩ y3).setCell ⟨g, 4, none⟩ y4) :=
  ((((h.set 0 y0).set 1 y1).set 2 y2).set 3 y3).set 4 y4
theorem below_set5 {B g : Nat} {w w' : World} (h : Below B w w') (hg : B ≤ g) (y0 y1 y2 y3 y4 : Value) :
    Below B w (((((w'.setCell ⟨g, 0, none⟩ y0).setCell ⟨g, 1, none⟩ y1).setCell ⟨g, 2, none⟩ y2).setCell ⟨g, 3, none⟩ y3).setCell ⟨g, 4, none⟩ y4) :=
  below_set (below_set (below_set (below_set (below_set h hg 0 _) hg 1 _) hg 2 _) hg 3 _) hg 4 _

/-- a box's store leaves the arena -/
theorem RA.setBox {b0 : Nat} {w : World} {v0 v1 v2 v3 : Value} {M : List MN} (h : RA b0 w v0 v1 v2 v3 M) {g : Nat} (hT : Ty w g 31) (hg : b0 ≤ g) (j : Nat) (u : Value) : RA b0 (w.setCell ⟨g, j, none⟩ u) v0 v1 v2 v3 M := by
  refine ⟨h.nms.setBox hT (by decide) j u, ?_, ?_, h.par.setBox hT (by decide) j u⟩
  · obtain ⟨xa, h1, h2⟩ := h.ats
    refine ⟨xa, h1.setBox hT (by decide) j u, fun j' n hn => ?_⟩
    obtain ⟨a, c, h3, h4, h5⟩ := h2 j' n hn
    exact ⟨a, c, h3, sl_setBox h4 (fun ad had hL e => by have := h5 hL ad had; omega) j u, h5⟩
  · obtain ⟨xi, h1, h2⟩ := h.inn
    refine ⟨xi, h1.setBox hT (by decide) j u, fun j' n hn => ?_⟩
    obtain ⟨v, h3, h4⟩ := h2 j' n hn
    exact ⟨v, h3, h4.setBox hT (by decide) j u⟩
theorem RA.set5 {b0 : Nat} {w : World} {v0 v1 v2 v3 : Value} {M : List MN} (h : RA b0 w v0 v1 v2 v3 M) {g : Nat} (hT : Ty w g 31) (hg : b0 ≤ g) (y0 y1 y2 y3 y4 : Value) :
    RA b0 (((((w.setCell ⟨g, 0, none⟩ y0).setCell ⟨g, 1, none⟩ y1).setCell ⟨g, 2, none⟩ y2).setCell ⟨g, 3, none⟩ y3).setCell ⟨g, 4, none⟩ y4) v0 v1 v2 v3 M :=
  ((((h.setBox hT hg 0 _).setBox (hT.setCell _ _ rfl) hg 1 _).setBox ((hT.setCell _ _ rfl).setCell _ _ rfl) hg 2 _).setBox (((hT.setCell _ _ rfl).setCell _ _ rfl).setCell _ _ rfl) hg 3 _).setBox ((((hT.setCell _ _ rfl).setCell _ _ rfl).setCell _ _ rfl).setCell _ _ rfl) hg 4 _

set_option maxHeartbeats 8000000 in
set_option maxRecDepth 100000 in
theorem relem_any {b0 : Nat} {w : World} {v0 v1 v2 v3 : Value} {M : List MN} (h : RA b0 w v0 v1 v2 v3 M) (hb0 : b0 ≤ w.heap.size) (nm : List UInt8) (ats : List At.At) (a : Option Addr) (c cp : Nat) (hs : Sl ats a c w) (hsb : ats ≠ [] → ∀ ad, a = some ad → ad.block < b0) (hM : M.length + 1 ≤ 8000000) :
    Calls Try.prog 11 #[rv v0 v1 v2 v3 cp, .string ⟨nm.toArray⟩, .slice a ats.length c] w (RElemPost b0 cp M nm ats w) := by
  obtain ⟨hn, ⟨xa, ha, ha'⟩, ⟨xi, hi, hi'⟩, hp⟩ := h
  obtain ⟨a0, c0, rfl, -⟩ := hn.slice
  obtain ⟨a1, c1, rfl, -⟩ := ha.slice
  obtain ⟨a2, c2, rfl, -⟩ := hi.slice
  obtain ⟨a3, c3, rfl, -⟩ := hp.slice
  have hla : xa.length = M.length := by have := ha.1; omega
  have hli : xi.length = M.length := by have := hi.1; omega
  have one0 : ∀ x ∈ (M.map fun n => (.string ⟨n.nm.toArray⟩ : Value)), x.oneCell' = true := str_one _ (fun _ => rfl) M
  have one3 : ∀ x ∈ (M.map fun n => (.int .i64 n.par : Value)), x.oneCell' = true := str_one _ (fun _ => rfl) M
  have one1 : ∀ x ∈ xa, x.oneCell' = true := row_one hla fun j hj => by
    obtain ⟨a, c, h1, -⟩ := ha' j _ (List.getElem?_eq_getElem hj)
    exact ⟨_, h1, rfl⟩
  have one2 : ∀ x ∈ xi, x.oneCell' = true := row_one hli fun j hj => by
    obtain ⟨v, h1, h2⟩ := hi' j _ (List.getElem?_eq_getElem hj)
    obtain ⟨a, c, rfl, -⟩ := h2.slice
    exact ⟨_, h1, rfl⟩
  obtain ⟨WA, hWA⟩ : ∃ WA, (w.alloc (.cells #[.slice a0 M.length c0, .slice a1 M.length c1, .slice a2 M.length c2, .slice a3 M.length c3, .int .i64 (cp : Int)] 31)).alloc (.cells #[.slice none 0 0, .slice none 0 0, .slice none 0 0, .slice none 0 0, .int .i64 0] 31) = WA := ⟨_, rfl⟩
  have hbA : Below w.heap.size w WA := by rw [← hWA]; exact (At.below_alloc _).alloc (by simp) _
  have bx3 : Bx w.heap.size #[.slice a0 M.length c0, .slice a1 M.length c1, .slice a2 M.length c2, .slice a3 M.length c3, .int .i64 (cp : Int)] 31 WA := by rw [← hWA]; exact (bx_new w _ 31).below (At.below_alloc _)
  have bx6 : Bx (w.heap.size + 1) #[.slice none 0 0, .slice none 0 0, .slice none 0 0, .slice none 0 0, .int .i64 0] 31 WA := by
    have := bx_new (w.alloc (.cells #[.slice a0 M.length c0, .slice a1 M.length c1, .slice a2 M.length c2, .slice a3 M.length c3, .int .i64 (cp : Int)] 31)) #[.slice none 0 0, .slice none 0 0, .slice none 0 0, .slice none 0 0, .int .i64 0] 31
    rw [hWA] at this
    simpa using this
  have hne36 : w.heap.size + 1 ≠ w.heap.size := by omega
  obtain ⟨p1, u1, A0, C0, W1, k1, r1, r1', k1', f1, bx3a, n1, b1⟩ := ext_box row26 (by decide) (by decide) WA bx3 0 rfl (hn.below hbA) one0 (.string ⟨nm.toArray⟩) rfl hM
  obtain ⟨X1, hX1⟩ : ∃ X1, W1.setCell ⟨w.heap.size, 0, none⟩ (.slice A0 (M.length + 1) C0) = X1 := ⟨_, rfl⟩
  have mv1 : ∀ {B e k n : Nat} {v : Value} {xs : List Value}, Rw B e k v n xs WA → e ≠ 31 → Rw B e k v n xs X1 := fun hr hne => by rw [← hX1]; exact (hr.below b1).setBox (bx3.below b1).ty hne _ _
  have sv1 : ∀ {L : List At.At} {a : Option Addr} {c : Nat}, Sl L a c WA → (L ≠ [] → ∀ ad, a = some ad → ad.block < b0) → Sl L a c X1 := fun hs hlt => by rw [← hX1]; exact sl_step hs hlt b1 hb0 _ _
  have hbX1 : Below w.heap.size w X1 := by rw [← hX1]; exact below_set (hbA.trans (b1.mono hbA.size)) (Nat.le_refl _) _ _
  have bx61 : Bx (w.heap.size + 1) #[.slice none 0 0, .slice none 0 0, .slice none 0 0, .slice none 0 0, .int .i64 0] 31 X1 := by rw [← hX1]; exact (bx6.below b1).other hne36 _ _
  rw [hX1] at bx3a n1
  replace n1 := n1.base (Nat.zero_le _)
  obtain ⟨p2, u2, A1, C1, W2, k2, r2, r2', k2', f2, bx3b, n2, b2⟩ := ext_box row27 (by decide) (by decide) X1 bx3a 1 rfl (mv1 (ha.below hbA) (by decide)) one1 (.slice a ats.length c) rfl hM
  obtain ⟨X2, hX2⟩ : ∃ X2, W2.setCell ⟨w.heap.size, 1, none⟩ (.slice A1 (M.length + 1) C1) = X2 := ⟨_, rfl⟩
  have mv2 : ∀ {B e k n : Nat} {v : Value} {xs : List Value}, Rw B e k v n xs X1 → e ≠ 31 → Rw B e k v n xs X2 := fun hr hne => by rw [← hX2]; exact (hr.below b2).setBox (bx3a.below b2).ty hne _ _
  have sv2 : ∀ {L : List At.At} {a : Option Addr} {c : Nat}, Sl L a c X1 → (L ≠ [] → ∀ ad, a = some ad → ad.block < b0) → Sl L a c X2 := fun hs hlt => by rw [← hX2]; exact sl_step hs hlt b2 hb0 _ _
  have hbX2 : Below w.heap.size w X2 := by rw [← hX2]; exact below_set (hbX1.trans (b2.mono hbX1.size)) (Nat.le_refl _) _ _
  have bx62 : Bx (w.heap.size + 1) #[.slice none 0 0, .slice none 0 0, .slice none 0 0, .slice none 0 0, .int .i64 0] 31 X2 := by rw [← hX2]; exact (bx61.below b2).other hne36 _ _
  rw [hX2] at bx3b n2
  replace n2 := n2.base (Nat.zero_le _)
  obtain ⟨p3, u3, A2, C2, W3, k3, r3, r3', k3', f3, bx3c, n3, b3⟩ := ext_box row28 (by decide) (by decide) X2 bx3b 2 rfl (mv2 (mv1 (hi.below hbA) (by decide)) (by decide)) one2 (.slice none 0 0) rfl hM
  obtain ⟨X3, hX3⟩ : ∃ X3, W3.setCell ⟨w.heap.size, 2, none⟩ (.slice A2 (M.length + 1) C2) = X3 := ⟨_, rfl⟩
  have mv3 : ∀ {B e k n : Nat} {v : Value} {xs : List Value}, Rw B e k v n xs X2 → e ≠ 31 → Rw B e k v n xs X3 := fun hr hne => by rw [← hX3]; exact (hr.below b3).setBox (bx3b.below b3).ty hne _ _
  have sv3 : ∀ {L : List At.At} {a : Option Addr} {c : Nat}, Sl L a c X2 → (L ≠ [] → ∀ ad, a = some ad → ad.block < b0) → Sl L a c X3 := fun hs hlt => by rw [← hX3]; exact sl_step hs hlt b3 hb0 _ _
  have hbX3 : Below w.heap.size w X3 := by rw [← hX3]; exact below_set (hbX2.trans (b3.mono hbX2.size)) (Nat.le_refl _) _ _
  have bx63 : Bx (w.heap.size + 1) #[.slice none 0 0, .slice none 0 0, .slice none 0 0, .slice none 0 0, .int .i64 0] 31 X3 := by rw [← hX3]; exact (bx62.below b3).other hne36 _ _
  rw [hX3] at bx3c n3
  replace n3 := n3.base (Nat.zero_le _)
  obtain ⟨p4, u4, A3, C3, W4, k4, r4, r4', k4', f4, bx3d, n4, b4⟩ := ext_box row29 (by decide) (by decide) X3 bx3c 3 rfl (mv3 (mv2 (mv1 (hp.below hbA) (by decide)) (by decide)) (by decide)) one3 (.int .i64 (-1)) rfl hM
  obtain ⟨X4, hX4⟩ : ∃ X4, W4.setCell ⟨w.heap.size, 3, none⟩ (.slice A3 (M.length + 1) C3) = X4 := ⟨_, rfl⟩
  have mv4 : ∀ {B e k n : Nat} {v : Value} {xs : List Value}, Rw B e k v n xs X3 → e ≠ 31 → Rw B e k v n xs X4 := fun hr hne => by rw [← hX4]; exact (hr.below b4).setBox (bx3c.below b4).ty hne _ _
  have sv4 : ∀ {L : List At.At} {a : Option Addr} {c : Nat}, Sl L a c X3 → (L ≠ [] → ∀ ad, a = some ad → ad.block < b0) → Sl L a c X4 := fun hs hlt => by rw [← hX4]; exact sl_step hs hlt b4 hb0 _ _
  have hbX4 : Below w.heap.size w X4 := by rw [← hX4]; exact below_set (hbX3.trans (b4.mono hbX3.size)) (Nat.le_refl _) _ _
  have bx64 : Bx (w.heap.size + 1) #[.slice none 0 0, .slice none 0 0, .slice none 0 0, .slice none 0 0, .int .i64 0] 31 X4 := by rw [← hX4]; exact (bx63.below b4).other hne36 _ _
  rw [hX4] at bx3d n4
  have hF : ∀ g, (Value.slice A3 (M.length + 1) C3).ownBlock = some g → w.heap.size ≤ g := fun g hg => Nat.le_trans hbX3.size (n4.lt g hg).1
  replace n4 := n4.base (Nat.zero_le _)
  have hRA : RA b0 X4 (.slice A0 (M.length + 1) C0) (.slice A1 (M.length + 1) C1) (.slice A2 (M.length + 1) C2) (.slice A3 (M.length + 1) C3) (M ++ [⟨nm, ats, -1, []⟩]) :=
    RA.more (mv4 (mv3 (mv2 n1 (by decide)) (by decide)) (by decide)) (mv4 (mv3 n2 (by decide)) (by decide)) (fun j n hj => by
      obtain ⟨a', c', h1, h2, h3⟩ := ha' j n hj
      exact ⟨a', c', h1, sv4 (sv3 (sv2 (sv1 (h2.below hbA) h3) h3) h3) h3, h3⟩) (sv4 (sv3 (sv2 (sv1 (hs.below hbA) hsb) hsb) hsb) hsb) hsb hla (mv4 n3 (by decide)) (fun j n hj => by
      obtain ⟨v, h1, h2⟩ := hi' j n hj
      exact ⟨v, h1, mv4 (mv3 (mv2 (mv1 (Rw.below h2 hbA) (by decide)) (by decide)) (by decide)) (by decide)⟩) hli n4
  have q0 := bx3d.cell 0
  have q1 := bx3d.cell 1
  have q2 := bx3d.cell 2
  have q3 := bx3d.cell 3
  have q4 := bx3d.cell 4
  have z0 := bx64.cell 0
  have z1 := bx64.cell 1
  have z2 := bx64.cell 2
  have z3 := bx64.cell 3
  have z4 := bx64.cell 4
  have y0 := bx64.fr 0
  have y1 := bx64.fr 1
  have y2 := bx64.fr 2
  have y3 := bx64.fr 3
  have y4 := bx64.fr 4
  have HRA := Lib.hid hRA
  have HBX := Lib.hid bx64
  have HB4 := Lib.hid hbX4
  have HB0 := Lib.hid hb0
  have HF := Lib.hid hF
  have R1 := Lib.hid r1
  have R1' := Lib.hid r1'
  have R2 := Lib.hid r2
  have R2' := Lib.hid r2'
  have R3 := Lib.hid r3
  have R3' := Lib.hid r3'
  have R4 := Lib.hid r4
  have R4' := Lib.hid r4'
  have hwr : IntKind.i64.wrap (M.length : Int) = (M.length : Int) := wrap_small _ (by omega) (by omega)
  clear hn ha ha' hi hi' hp hla hli one0 one1 one2 one3 hbA bx3 bx6 hne36 mv1 mv2 mv3 mv4 sv1 sv2 sv3 sv4 hbX1 hbX2 hbX3 hbX4 bx61 bx62 bx63 bx64 bx3a bx3b bx3c bx3d n1 n2 n3 n4 hF b1 b2 b3 b4 r1 r1' r2 r2' r3 r3' r4 r4' hRA hs hsb hb0
  go_enter Try.func11, Try.ntmps11
  go_wp2_with (at_builtin; first
    | (refine Lib.wpList_append_run _ rfl (.tmp 8) (.tmp 10) 26 26 rfl _ _ rfl rfl _ u1 R1.out ?_)
    | (refine Lib.wpList_append_run _ rfl (.tmp 11) (.tmp 13) 26 26 rfl _ _ rfl rfl _ W1 R1'.out ?_)
    | (refine Lib.wpList_append_run _ rfl (.tmp 16) (.tmp 18) 27 27 rfl _ _ rfl rfl _ u2 R2.out ?_)
    | (refine Lib.wpList_append_run _ rfl (.tmp 19) (.tmp 21) 27 27 rfl _ _ rfl rfl _ W2 R2'.out ?_)
    | (refine Lib.wpList_append_run _ rfl (.tmp 24) (.tmp 26) 28 28 rfl _ _ rfl rfl _ u3 R3.out ?_)
    | (refine Lib.wpList_append_run _ rfl (.tmp 27) (.tmp 28) 28 28 rfl _ _ rfl rfl _ W3 R3'.out ?_)
    | (refine Lib.wpList_append_run _ rfl (.tmp 31) (.tmp 33) 29 29 rfl _ _ rfl rfl _ u4 R4.out ?_)
    | (refine Lib.wpList_append_run _ rfl (.tmp 34) (.tmp 35) 29 29 rfl _ _ rfl rfl _ W4 R4'.out ?_))
  go_region_law (fail)
  all_goals go_wp2
  all_goals (try simp only [Exit.inBlock, Exit.then])
  all_goals refine bodyPost_ret (results_row_tmp rfl _ _ (w.heap.size + 1) 31 #[.slice A0 (M.length + 1) C0, .slice A1 (M.length + 1) C1, .slice A2 (M.length + 1) C2, .slice A3 (M.length + 1) C3, .int .i64 (cp : Int)] (0, 0) _ rfl ?_ Try.underlying31 rfl info31) rfl ?_
  all_goals first
    | exact (HBX.out.set5 _ _ _ _ _).below (below_drew _)
    | exact ⟨_, _, _, _, rfl, (HRA.out.set5 HBX.out.ty (Nat.le_trans HB0.out (Nat.le_succ _)) _ _ _ _ _).below (below_drew _), below_trans (below_set5 HB4.out (Nat.le_succ _) _ _ _ _ _) (below_drew _), HF.out⟩
end Go.Proofs.Ytnnidajflnandaa
