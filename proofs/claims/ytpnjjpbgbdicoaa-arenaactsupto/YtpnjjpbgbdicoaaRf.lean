/- The document's arena: rows copied and stored into; Text, walked. -/
import Derived.Test.YtpnjjpbgbdicoaaRe
namespace Go.Proofs.Ytpnjjpbgbdicoaa
open Go.RowKit Go.Lib
open At (Str cellsA cellsA_len Sl below_drewN)

/-- a store into the row of what stands in nodes -/
theorem RA.setInn {b0 : Nat} {w : World} {v0 v1 v2 v3 : Value} {M : List MN} (h : RA b0 w v0 v1 v2 v3 M) {k : Nat} {n : MN} (hk : M[k]? = some n) {g2 c2 : Nat} (hv2 : v2 = .slice (some ⟨g2, 0, none⟩) M.length c2) (hg2 : b0 ≤ g2) (v' : Value) (inn' : List (Nat × List UInt8)) (hi : Its w v' inn') :
    RA b0 (w.setCell ⟨g2, k, none⟩ v') v0 v1 v2 v3 (M.set k { n with inn := inn' }) := by
  have hkl := (List.getElem?_eq_some_iff.1 hk).1
  obtain ⟨xi, h1, h2⟩ := h.inn
  obtain ⟨v, hv, -⟩ := h2 k n hk
  obtain ⟨g', c', hv', -, hT, -, -, -⟩ := h1.el hv
  have hgg : g' = g2 := by rw [hv2] at hv'; injection hv' with e1; injection e1 with e1; injection e1 with e1; exact e1.symm
  subst hgg
  have hl : (M.set k { n with inn := inn' }).length = M.length := List.length_set
  have em : ∀ {α : Type} (f : MN → α), f { n with inn := inn' } = f n → (M.set k { n with inn := inn' }).map f = M.map f := fun f hf => map_set_same f hk hf
  refine ⟨by rw [hl, em (fun n => Value.string ⟨n.nm.toArray⟩) rfl]; exact h.nms.setBox hT (by decide) k _, ?_, ?_, by rw [hl, em (fun n => Value.int .i64 n.par) rfl]; exact h.par.setBox hT (by decide) k _⟩
  · obtain ⟨xa, p1, p2⟩ := h.ats
    refine ⟨xa, by rw [hl]; exact p1.setBox hT (by decide) k _, fun j m hm => ?_⟩
    have : ∃ m', M[j]? = some m' ∧ m'.ats = m.ats := by
      by_cases hjk : j = k
      · subst hjk
        rw [List.getElem?_set_self hkl] at hm
        injection hm with hm
        subst hm
        exact ⟨n, hk, rfl⟩
      · rw [List.getElem?_set_ne (fun e => hjk e.symm)] at hm
        exact ⟨m, hm, rfl⟩
    obtain ⟨m', hm', he⟩ := this
    obtain ⟨a, c, e1, e2, e3⟩ := p2 j m' hm'
    rw [he] at e1 e2 e3
    exact ⟨a, c, e1, sl_setBox e2 (fun ad had hL e => by have := e3 hL ad had; omega) k _, e3⟩
  · rw [hv2] at h1 ⊢
    refine ⟨xi.set k v', by rw [hl]; exact h1.set k (by omega) v', fun j m hm => ?_⟩
    have hxl : xi.length = M.length := by have := h1.1; omega
    by_cases hjk : j = k
    · subst hjk
      rw [List.getElem?_set_self hkl] at hm
      injection hm with hm
      subst hm
      exact ⟨v', List.getElem?_set_self (by omega), Rw.setBox hi hT (by decide) j _⟩
    · rw [List.getElem?_set_ne (fun e => hjk e.symm)] at hm
      obtain ⟨u, e1, e2⟩ := h2 j m hm
      exact ⟨u, by rw [List.getElem?_set_ne (fun e => hjk e.symm)]; exact e1, Rw.setBox e2 hT (by decide) k _⟩

/-- a store into the row of where nodes stand -/
theorem RA.setPar {b0 : Nat} {w : World} {v0 v1 v2 v3 : Value} {M : List MN} (h : RA b0 w v0 v1 v2 v3 M) {k : Nat} {n : MN} (hk : M[k]? = some n) {g2 c2 : Nat} (hv3 : v3 = .slice (some ⟨g2, 0, none⟩) M.length c2) (hg2 : b0 ≤ g2) (p : Int) :
    RA b0 (w.setCell ⟨g2, k, none⟩ (.int .i64 p)) v0 v1 v2 v3 (M.set k { n with par := p }) := by
  have hkl := (List.getElem?_eq_some_iff.1 hk).1
  have h1 := h.par
  obtain ⟨g', c', hv', -, hT, -, -, -⟩ := h1.el (j := k) (x := .int .i64 n.par) (by rw [List.getElem?_map, hk]; rfl)
  have hgg : g' = g2 := by rw [hv3] at hv'; injection hv' with e1; injection e1 with e1; injection e1 with e1; exact e1.symm
  subst hgg
  have hl : (M.set k { n with par := p }).length = M.length := List.length_set
  have em : ∀ {α : Type} (f : MN → α), f { n with par := p } = f n → (M.set k { n with par := p }).map f = M.map f := fun f hf => map_set_same f hk hf
  refine ⟨by rw [hl, em (fun n => Value.string ⟨n.nm.toArray⟩) rfl]; exact h.nms.setBox hT (by decide) k _, ?_, ?_, ?_⟩
  · obtain ⟨xa, p1, p2⟩ := h.ats
    refine ⟨xa, by rw [hl]; exact p1.setBox hT (by decide) k _, fun j m hm => ?_⟩
    have : ∃ m', M[j]? = some m' ∧ m'.ats = m.ats := by
      by_cases hjk : j = k
      · subst hjk
        rw [List.getElem?_set_self hkl] at hm
        injection hm with hm
        subst hm
        exact ⟨n, hk, rfl⟩
      · rw [List.getElem?_set_ne (fun e => hjk e.symm)] at hm
        exact ⟨m, hm, rfl⟩
    obtain ⟨m', hm', he⟩ := this
    obtain ⟨a, c, e1, e2, e3⟩ := p2 j m' hm'
    rw [he] at e1 e2 e3
    exact ⟨a, c, e1, sl_setBox e2 (fun ad had hL e => by have := e3 hL ad had; omega) k _, e3⟩
  · obtain ⟨xi, p1, p2⟩ := h.inn
    refine ⟨xi, by rw [hl]; exact p1.setBox hT (by decide) k _, fun j m hm => ?_⟩
    have : ∃ m', M[j]? = some m' ∧ m'.inn = m.inn := by
      by_cases hjk : j = k
      · subst hjk
        rw [List.getElem?_set_self hkl] at hm
        injection hm with hm
        subst hm
        exact ⟨n, hk, rfl⟩
      · rw [List.getElem?_set_ne (fun e => hjk e.symm)] at hm
        exact ⟨m, hm, rfl⟩
    obtain ⟨m', hm', he⟩ := this
    obtain ⟨u, e1, e2⟩ := p2 j m' hm'
    rw [he] at e2
    exact ⟨u, e1, Rw.setBox e2 hT (by decide) k _⟩
  · rw [hv3] at h1 ⊢
    rw [hl]
    have := h1.set k (by omega) (.int .i64 p)
    rw [List.map_set]
    exact this

theorem xi_one {M : List MN} {w : World} {xi : List Value} (hl : xi.length = M.length) (h2 : ∀ (j : Nat) (n : MN), M[j]? = some n → ∃ v, xi[j]? = some v ∧ Its w v n.inn) : ∀ x ∈ xi, x.oneCell' = true :=
  row_one hl fun j hj => by
    obtain ⟨v, h1, h3⟩ := h2 j _ (List.getElem?_eq_getElem hj)
    obtain ⟨a, c, rfl, -⟩ := h3.slice
    exact ⟨_, h1, rfl⟩

/-- the row of what stands in nodes, copied; its field in the box stored -/
theorem RA.copyInn {b0 : Nat} {u : World} {v0 v1 v2 v3 : Value} {M : List MN} (h : RA b0 u v0 v1 v2 v3 M) (hb0 : b0 ≤ u.heap.size) (hM : M.length ≤ 4000000) (h0 : M ≠ []) :
    ∃ g c u', (Builtin.append_ #[28, 28] 28 #[.slice (some ⟨u.heap.size, 0, none⟩) 0 0, v2]).run Try.prog (u.alloc (.cells #[] 85)) = .ok (.slice (some ⟨g, 0, none⟩) M.length c) u' ∧ u.heap.size ≤ g ∧ b0 ≤ g ∧ RA b0 u' v0 v1 (.slice (some ⟨g, 0, none⟩) M.length c) v3 M ∧ Below u.heap.size u u' := by
  obtain ⟨xi, h1, h2⟩ := h.inn
  have hl : xi.length = M.length := by have := h1.1; omega
  obtain ⟨v', u', hr, h3, hb, -⟩ := copy_row row28 u h1 (xi_one hl h2) (by omega) (by decide)
  have hpos : 0 < M.length := List.length_pos_iff.2 h0
  obtain ⟨g, c, rfl, hg, -⟩ := h3.blk hpos
  have hh := h.below hb
  refine ⟨g, c, u', hr, hg, Nat.le_trans hb0 hg, ⟨hh.nms, hh.ats, ⟨xi, h3.base (Nat.zero_le _), fun j n hn => ?_⟩, hh.par⟩, hb⟩
  obtain ⟨v, e1, e2⟩ := h2 j n hn
  exact ⟨v, e1, Rw.below e2 hb⟩
theorem RA.copyPar {b0 : Nat} {u : World} {v0 v1 v2 v3 : Value} {M : List MN} (h : RA b0 u v0 v1 v2 v3 M) (hb0 : b0 ≤ u.heap.size) (hM : M.length ≤ 4000000) (h0 : M ≠ []) :
    ∃ g c u', (Builtin.append_ #[29, 29] 29 #[.slice (some ⟨u.heap.size, 0, none⟩) 0 0, v3]).run Try.prog (u.alloc (.cells #[] 3)) = .ok (.slice (some ⟨g, 0, none⟩) M.length c) u' ∧ u.heap.size ≤ g ∧ b0 ≤ g ∧ RA b0 u' v0 v1 v2 (.slice (some ⟨g, 0, none⟩) M.length c) M ∧ Below u.heap.size u u' := by
  obtain ⟨v', u', hr, h3, hb, -⟩ := copy_row row29 u h.par (str_one _ (fun _ => rfl) M) (by omega) (by decide)
  have hpos : 0 < M.length := List.length_pos_iff.2 h0
  obtain ⟨g, c, rfl, hg, -⟩ := h3.blk hpos
  have hh := h.below hb
  exact ⟨g, c, u', hr, hg, Nat.le_trans hb0 hg, ⟨hh.nms, hh.ats, hh.inn, h3.base (Nat.zero_le _)⟩, hb⟩
/-- what a function of the document's arena answers -/
def RPost (b0 cp : Nat) (M : List MN) (w : World) (e : Ending) (w' : World) : Prop :=
  ∃ v0 v1 v2 v3, e = .returned (rv v0 v1 v2 v3 cp) ∧ RA b0 w' v0 v1 v2 v3 M ∧ Below w.heap.size w w'

/-- the box and the answer's cells -/
structure BB (w : World) (v0 v1 v2 v3 : Value) (cp : Nat) (u : World) : Prop where
  box : Bx w.heap.size #[v0, v1, v2, v3, .int .i64 (cp : Int)] 31 u
  ans : Bx (w.heap.size + 1) #[.slice none 0 0, .slice none 0 0, .slice none 0 0, .slice none 0 0, .int .i64 0] 31 u
  below : Below w.heap.size w u

theorem bb_new (w : World) (v0 v1 v2 v3 : Value) (cp : Nat) : BB w v0 v1 v2 v3 cp ((w.alloc (.cells #[v0, v1, v2, v3, .int .i64 (cp : Int)] 31)).alloc (.cells #[.slice none 0 0, .slice none 0 0, .slice none 0 0, .slice none 0 0, .int .i64 0] 31)) := by
  refine ⟨(bx_new w _ 31).below (At.below_alloc _), ?_, (At.below_alloc _).alloc (by simp) _⟩
  have := bx_new (w.alloc (.cells #[v0, v1, v2, v3, .int .i64 (cp : Int)] 31)) #[.slice none 0 0, .slice none 0 0, .slice none 0 0, .slice none 0 0, .int .i64 0] 31
  simpa using this
theorem BB.grow {w u u' : World} {v0 v1 v2 v3 : Value} {cp : Nat} (h : BB w v0 v1 v2 v3 cp u) (hb : Below u.heap.size u u') : BB w v0 v1 v2 v3 cp u' := ⟨h.box.below hb, h.ans.below hb, below_trans h.below hb⟩
theorem BB.other {w u : World} {v0 v1 v2 v3 : Value} {cp : Nat} (h : BB w v0 v1 v2 v3 cp u) {g : Nat} (hg : w.heap.size ≤ g) (hT : ∃ t, Ty u g t ∧ t ≠ 31) (j : Nat) (x : Value) : BB w v0 v1 v2 v3 cp (u.setCell ⟨g, j, none⟩ x) := by
  obtain ⟨t, hT, hne⟩ := hT
  have n1 : w.heap.size ≠ g := fun e => hne ((e ▸ hT : Ty u w.heap.size t).uniq h.box.ty)
  have n2 : w.heap.size + 1 ≠ g := fun e => hne ((e ▸ hT : Ty u (w.heap.size + 1) t).uniq h.ans.ty)
  exact ⟨h.box.other n1 _ _, h.ans.other n2 _ _, below_set h.below hg _ _⟩
theorem BB.set2 {w u : World} {v0 v1 v2 v3 : Value} {cp : Nat} (h : BB w v0 v1 v2 v3 cp u) (x : Value) : BB w v0 v1 x v3 cp (u.setCell ⟨w.heap.size, 2, none⟩ x) := ⟨h.box.set 2 x, h.ans.other (by omega) _ _, below_set h.below (Nat.le_refl _) _ _⟩
theorem BB.set3 {w u : World} {v0 v1 v2 v3 : Value} {cp : Nat} (h : BB w v0 v1 v2 v3 cp u) (x : Value) : BB w v0 v1 v2 x cp (u.setCell ⟨w.heap.size, 3, none⟩ x) := ⟨h.box.set 3 x, h.ans.other (by omega) _ _, below_set h.below (Nat.le_refl _) _ _⟩

/-- the answer stored -/
theorem BB.answer {b0 : Nat} {w u : World} {v0 v1 v2 v3 : Value} {cp : Nat} {M : List MN} (h : BB w v0 v1 v2 v3 cp u) (hr : RA b0 u v0 v1 v2 v3 M) (hb0 : b0 ≤ w.heap.size) (y0 y1 y2 y3 y4 : Value) :
    let U := ((((u.setCell ⟨w.heap.size + 1, 0, none⟩ y0).setCell ⟨w.heap.size + 1, 1, none⟩ y1).setCell ⟨w.heap.size + 1, 2, none⟩ y2).setCell ⟨w.heap.size + 1, 3, none⟩ y3).setCell ⟨w.heap.size + 1, 4, none⟩ y4
    Bx (w.heap.size + 1) #[y0, y1, y2, y3, y4] 31 U ∧ RA b0 U v0 v1 v2 v3 M ∧ Below w.heap.size w U :=
  ⟨h.ans.set5 _ _ _ _ _, hr.set5 h.ans.ty (Nat.le_trans hb0 (Nat.le_succ _)) _ _ _ _ _, below_set5 h.below (Nat.le_succ _) _ _ _ _ _⟩

/-- the cells that a walk reads and writes at its end -/
theorem BB.cells {w u : World} {v0 v1 v2 v3 : Value} {cp : Nat} (h : BB w v0 v1 v2 v3 cp u) :
    (u.cell? ⟨w.heap.size, 0, none⟩ = some v0 ∧ u.cell? ⟨w.heap.size, 1, none⟩ = some v1 ∧ u.cell? ⟨w.heap.size, 2, none⟩ = some v2 ∧ u.cell? ⟨w.heap.size, 3, none⟩ = some v3 ∧ u.cell? ⟨w.heap.size, 4, none⟩ = some (.int .i64 (cp : Int))) ∧
    (u.cell? ⟨w.heap.size + 1, 0, none⟩ = some (.slice none 0 0) ∧ u.cell? ⟨w.heap.size + 1, 1, none⟩ = some (.slice none 0 0) ∧ u.cell? ⟨w.heap.size + 1, 2, none⟩ = some (.slice none 0 0) ∧ u.cell? ⟨w.heap.size + 1, 3, none⟩ = some (.slice none 0 0) ∧ u.cell? ⟨w.heap.size + 1, 4, none⟩ = some (.int .i64 0)) ∧
    (u.frozen? ⟨w.heap.size + 1, 0, none⟩ = false ∧ u.frozen? ⟨w.heap.size + 1, 1, none⟩ = false ∧ u.frozen? ⟨w.heap.size + 1, 2, none⟩ = false ∧ u.frozen? ⟨w.heap.size + 1, 3, none⟩ = false ∧ u.frozen? ⟨w.heap.size + 1, 4, none⟩ = false) :=
  ⟨⟨h.box.cell 0, h.box.cell 1, h.box.cell 2, h.box.cell 3, h.box.cell 4⟩, ⟨h.ans.cell 0, h.ans.cell 1, h.ans.cell 2, h.ans.cell 3, h.ans.cell 4⟩, h.ans.fr 0, h.ans.fr 1, h.ans.fr 2, h.ans.fr 3, h.ans.fr 4⟩

set_option maxHeartbeats 4000000 in
set_option maxRecDepth 100000 in
theorem rtext_none {b0 : Nat} {w : World} {v0 v1 v2 v3 : Value} {M : List MN} (h : RA b0 w v0 v1 v2 v3 M) (hb0 : b0 ≤ w.heap.size) (cp k : Nat) :
    Calls Try.prog 20 #[rv v0 v1 v2 v3 cp, .int .i64 (k : Int), .string ⟨([] : List UInt8).toArray⟩] w (RPost b0 cp M w) := by
  have hRA := h
  obtain ⟨hnm, ⟨xa, ha, ha'⟩, ⟨xi, hi, -⟩, hp⟩ := h
  obtain ⟨a0, c0, rfl, -⟩ := hnm.slice
  obtain ⟨a1, c1, rfl, -⟩ := ha.slice
  obtain ⟨a2, c2, rfl, -⟩ := hi.slice
  obtain ⟨a3, c3, rfl, -⟩ := hp.slice
  have bb := bb_new w (.slice a0 M.length c0) (.slice a1 M.length c1) (.slice a2 M.length c2) (.slice a3 M.length c3) cp
  obtain ⟨W0, hW0⟩ : ∃ W0, (w.alloc (.cells #[.slice a0 M.length c0, .slice a1 M.length c1, .slice a2 M.length c2, .slice a3 M.length c3, .int .i64 (cp : Int)] 31)).alloc (.cells #[.slice none 0 0, .slice none 0 0, .slice none 0 0, .slice none 0 0, .int .i64 0] 31) = W0 := ⟨_, rfl⟩
  rw [hW0] at bb
  obtain ⟨⟨q0, q1, q2, q3, q4⟩, ⟨z0, z1, z2, z3, z4⟩, y0, y1, y2, y3, y4⟩ := bb.cells
  have FIN := Lib.hid (fun y0 y1 y2 y3 y4 => bb.answer (hRA.below bb.below) hb0 y0 y1 y2 y3 y4)
  clear hRA hnm ha ha' hi hp bb
  go_enter Try.func20, Try.ntmps20
  go_wp2
  (try simp only [Exit.inBlock, Exit.then])
  refine bodyPost_ret (results_cell_row rfl _ _ (w.heap.size + 1) 31 #[.slice a0 M.length c0, .slice a1 M.length c1, .slice a2 M.length c2, .slice a3 M.length c3, .int .i64 (cp : Int)] (0, 0) _ rfl ?_ Try.underlying31 rfl info31) rfl ?_
  · exact (FIN.out _ _ _ _ _).1
  · exact ⟨_, _, _, _, rfl, (FIN.out _ _ _ _ _).2.1, (FIN.out _ _ _ _ _).2.2⟩

set_option maxHeartbeats 8000000 in
set_option maxRecDepth 100000 in
theorem rtext_some {b0 : Nat} {w : World} {v0 v1 v2 v3 : Value} {M : List MN} (h : RA b0 w v0 v1 v2 v3 M) (hb0 : b0 ≤ w.heap.size) (cp k : Nat) (n : MN) (hn : M[k]? = some n) (s : List UInt8) (hs : s ≠ []) (hM : M.length ≤ 4000000) (hl : n.inn.length ≤ 4000000) (hx : ∀ p ∈ n.inn, p.2.length + s.length ≤ 1000000000) :
    Calls Try.prog 20 #[rv v0 v1 v2 v3 cp, .int .i64 (k : Int), .string ⟨s.toArray⟩] w (RPost b0 cp (M.set k { n with inn := mtext n.inn s }) w) := by
  have hRA := h
  obtain ⟨hnm, ⟨xa, ha, ha'⟩, ⟨xi, hi, hi'⟩, hp⟩ := h
  obtain ⟨a0, c0, rfl, -⟩ := hnm.slice
  obtain ⟨a1, c1, rfl, -⟩ := ha.slice
  obtain ⟨a2, c2, rfl, -⟩ := hi.slice
  obtain ⟨a3, c3, rfl, -⟩ := hp.slice
  have hkl := (List.getElem?_eq_some_iff.1 hn).1
  have hM0 : M ≠ [] := by intro e; rw [e] at hkl; exact absurd hkl (Nat.not_lt_zero _)
  have bb := bb_new w (.slice a0 M.length c0) (.slice a1 M.length c1) (.slice a2 M.length c2) (.slice a3 M.length c3) cp
  obtain ⟨W0, hW0⟩ : ∃ W0, (w.alloc (.cells #[.slice a0 M.length c0, .slice a1 M.length c1, .slice a2 M.length c2, .slice a3 M.length c3, .int .i64 (cp : Int)] 31)).alloc (.cells #[.slice none 0 0, .slice none 0 0, .slice none 0 0, .slice none 0 0, .int .i64 0] 31) = W0 := ⟨_, rfl⟩
  rw [hW0] at bb
  obtain ⟨g, c, W1, r1, hg, hgb, hra1, hb1⟩ := (hRA.below bb.below).copyInn (Nat.le_trans hb0 bb.below.size) hM hM0
  have q2 : (W0.alloc (.cells #[] 85)).cell? ⟨w.heap.size, 2, none⟩ = some (.slice a2 M.length c2) := (bb.grow (At.below_alloc _)).cells.1.2.2.1
  have bb1 := bb.grow hb1
  have k2 := bb1.cells.1.2.2.1
  have f2 := bb1.box.fr 2
  obtain ⟨X1, hX1⟩ : ∃ X1, W1.setCell ⟨w.heap.size, 2, none⟩ (.slice (some ⟨g, 0, none⟩) M.length c) = X1 := ⟨_, rfl⟩
  have bx1 := bb1.set2 (.slice (some ⟨g, 0, none⟩) M.length c)
  have hrx := hra1.setBox bb1.box.ty hb0 2 (.slice (some ⟨g, 0, none⟩) M.length c)
  rw [hX1] at bx1 hrx
  have hA1 : Below X1.heap.size X1 (X1.alloc (.cells #[] 88)) := At.below_alloc _
  have bx1a := bx1.grow hA1
  have k3 := bx1a.cells.1.2.2.1
  obtain ⟨xj, hj1, hj2⟩ := hrx.inn
  obtain ⟨vk, hvk, hik⟩ := hj2 k n hn
  obtain ⟨gk, ck, hgk, -, hTk, -, k4, f4⟩ := (hj1.below hA1).el hvk
  have hgg : gk = g := by injection hgk with e1; injection e1 with e1; injection e1 with e1; exact e1.symm
  subst hgg
  obtain ⟨ak, cck, rfl, -⟩ := hik.slice
  obtain ⟨v2', W2, r2, hit, hb2, -⟩ := copy_row row85 X1 hik (icells_one _) (by omega) (by decide)
  obtain ⟨al, cl, rfl, -⟩ := hit.slice
  have hwX : w.heap.size ≤ X1.heap.size := bx1.below.size
  have hgw : w.heap.size ≤ gk := Nat.le_trans bb.below.size hg
  -- the end of it, from a world where the items are there
  have tail : ∀ (Y : World) (av : Option Addr) (m cv : Nat) (inn' : List (Nat × List UInt8)), Below X1.heap.size X1 Y → Its Y (.slice av m cv) inn' → ∃ (Z : World), Y.setCell ⟨gk, k, none⟩ (.slice av m cv) = Z ∧ Y.cell? ⟨w.heap.size, 2, none⟩ = some (.slice (some ⟨gk, 0, none⟩) M.length c) ∧ Y.cell? ⟨gk, k, none⟩ = some (.slice ak n.inn.length cck) ∧ Y.frozen? ⟨gk, k, none⟩ = false ∧ BB w (.slice a0 M.length c0) (.slice a1 M.length c1) (.slice (some ⟨gk, 0, none⟩) M.length c) (.slice a3 M.length c3) cp Z ∧ RA b0 Z (.slice a0 M.length c0) (.slice a1 M.length c1) (.slice (some ⟨gk, 0, none⟩) M.length c) (.slice a3 M.length c3) (M.set k { n with inn := inn' }) := by
    intro Y av m cv inn' hY hIt
    have byY := bx1.grow hY
    obtain ⟨gk', ck', hgk', -, hTk', -, k4', f4'⟩ := (hj1.below hY).el hvk
    have hgg : gk' = gk := by injection hgk' with e1; injection e1 with e1; injection e1 with e1; exact e1.symm
    subst hgg
    exact ⟨_, rfl, byY.cells.1.2.2.1, k4', f4', byY.other hgw ⟨85, hTk', by decide⟩ _ _, (hrx.below hY).setInn hn rfl hgb _ inn' hIt⟩
  have TL := Lib.hid tail
  have R1 := Lib.hid r1
  have R2 := Lib.hid r2
  have HIT := Lib.hid hit
  have HB2 := Lib.hid hb2
  have HB0 := Lib.hid hb0
  have hne : (s == []) = false := str_ne hs
  have hkI : (k : Int) < (M.length : Int) := by omega
  have HWX := Lib.hid hwX
  clear hRA hnm ha ha' hi hi' hp bb hra1 hb1 bb1 bx1 hrx hA1 bx1a hj1 hj2 hvk hik hgk hTk hit hb2 r1 r2 tail hn hM0 hgw hg hgb hkl f4 hb0 hwX
  by_cases hemp : n.inn = []
  · have hlen : n.inn.length = 0 := by rw [hemp]; rfl
    have hmt : mtext n.inn s = [(0, s)] := by rw [hemp]; unfold mtext; rw [if_neg hs]; rfl
    obtain ⟨v3', W3, r3, hit3, hb3, -⟩ := push_row row85 W2 HIT.out [.string ⟨s.toArray⟩, .int .i64 0] rfl (fun x hx => by
      simp only [List.mem_cons, List.not_mem_nil, or_false] at hx
      rcases hx with rfl | rfl <;> rfl) (by omega) (by decide) HB2.out.size
    obtain ⟨a5, c5, rfl, -⟩ := hit3.slice
    rw [hlen] at hit3 r3 R2 k4 TL
    obtain ⟨Z, hZ, t1, t2, t3, bbZ, raZ⟩ := TL.out W3 a5 (0 + 1) c5 [(0, s)] (HB2.out.trans hb3) (by
      have e : icells n.inn ++ [.string ⟨s.toArray⟩, .int .i64 0] = icells [(0, s)] := by rw [hemp]; rfl
      rw [e] at hit3
      exact hit3.base (Nat.zero_le _))
    obtain ⟨⟨q0', q1', q2', q3', q4'⟩, ⟨z0, z1, z2, z3, z4⟩, y0, y1, y2, y3, y4⟩ := bbZ.cells
    have FIN := Lib.hid (fun y0 y1 y2 y3 y4 => bbZ.answer raZ HB0.out y0 y1 y2 y3 y4)
    have R3 := Lib.hid r3
    have HMT := Lib.hid hmt
    clear hit3 hb3 r3 bbZ raZ hemp hmt hx hs hlen
    go_enter Try.func20, Try.ntmps20
    go_wp2_with (at_builtin; first
      | (refine Lib.wpList_append_run _ rfl (.tmp 11) (.tmp 13) 28 28 rfl _ _ rfl rfl _ W1 R1.out ?_)
      | (refine Lib.wpList_append_run _ rfl (.tmp 16) (.tmp 21) 85 85 rfl _ _ rfl rfl _ W2 R2.out ?_)
      | (refine Lib.wpList_append_run _ rfl (.tmp 51) (.tmp 54) 85 85 rfl _ _ rfl rfl _ W3 R3.out ?_))
    (try simp only [Exit.inBlock, Exit.then])
    refine bodyPost_ret (results_cell_row rfl _ _ (w.heap.size + 1) 31 #[.slice a0 M.length c0, .slice a1 M.length c1, .slice (some ⟨gk, 0, none⟩) M.length c, .slice a3 M.length c3, .int .i64 (cp : Int)] (0, 0) _ rfl ?_ Try.underlying31 rfl info31) rfl ?_
    · exact (FIN.out _ _ _ _ _).1
    · exact ⟨_, _, _, _, rfl, by rw [HMT.out]; exact (FIN.out _ _ _ _ _).2.1, (FIN.out _ _ _ _ _).2.2⟩
  · obtain ⟨m, hm⟩ : ∃ m, n.inn.length = m + 1 := ⟨n.inn.length - 1, by have := List.length_pos_iff.2 hemp; omega⟩
    obtain ⟨p, hp⟩ : ∃ p, n.inn[m]? = some p := ⟨n.inn[m]'(by omega), List.getElem?_eq_getElem (by omega)⟩
    obtain ⟨gl, cl', hgl, -, hTl, e0, e1⟩ := Its.item (w := W2) (l := n.inn) (HIT.out.base (Nat.zero_le _)) hp
    injection hgl with e1' _ e3'
    subst e1' e3'
    have hmb : m ≤ 4000000 := by omega
    have hxp := hx p (mem_of_at hp)
    by_cases hp0 : p.1 = 0
    · have hmt := mtext_more n.inn s hs m p.2 hm (by rw [hp, ← hp0])
      have hset := HIT.out.set (m * 2) (by omega) (.string ⟨(p.2 ++ s).toArray⟩)
      have hic := fl_set ic_len n.inn m 0 p (0, p.2 ++ s) (.string ⟨(p.2 ++ s).toArray⟩) hp (by decide) (by rw [show ic p = [.string ⟨p.2.toArray⟩, .int .i64 (p.1 : Int)] from rfl, hp0]; rfl)
      rw [Nat.add_zero] at hic
      have hglo : X1.heap.size ≤ gl := (HIT.out.lt gl rfl).1
      have hlen2 : (n.inn.set m (0, p.2 ++ s)).length = m + 1 := by rw [List.length_set, hm]
      have ffl : W2.frozen? ⟨gl, m * 2, none⟩ = false := by
        obtain ⟨g9, c9, hv9, -, -, -, -, -, hf9⟩ := HIT.out.blk (by omega)
        injection hv9 with e5
        injection e5 with e5
        injection e5 with e5
        subst e5
        exact hf9 _ (by omega)
      unfold icells at hset
      rw [hic] at hset
      obtain ⟨Y, hY⟩ : ∃ Y, W2.setCell ⟨gl, m * 2, none⟩ (.string ⟨(p.2 ++ s).toArray⟩) = Y := ⟨_, rfl⟩
      rw [hY] at hset
      have hbY : Below X1.heap.size X1 Y := by rw [← hY]; exact below_set HB2.out hglo _ _
      rw [hm] at R2 k4 TL hset
      obtain ⟨Z, hZ, t1, t2, t3, bbZ, raZ⟩ := TL.out Y (some ⟨gl, 0, none⟩) (m + 1) cl (n.inn.set m (0, p.2 ++ s)) hbY (by unfold Its; rw [hlen2]; exact hset.base (Nat.zero_le _))
      obtain ⟨⟨q0', q1', q2', q3', q4'⟩, ⟨z0, z1, z2, z3, z4⟩, y0, y1, y2, y3, y4⟩ := bbZ.cells
      have FIN := Lib.hid (fun y0 y1 y2 y3 y4 => bbZ.answer raZ HB0.out y0 y1 y2 y3 y4)
      have HMT := Lib.hid hmt
      have hX := join_one p.2 s
      have hjl : ¬ (9223372036854775807 < p.2.length + s.length) := by omega
      rw [hp0] at e1
      clear hset hbY bbZ raZ hemp hmt hx hs hm hp hp0 hic hlen2 hglo hTl hxp
      go_enter Try.func20, Try.ntmps20
      go_wp2_with (at_builtin; first
        | (refine Lib.wpList_append_run _ rfl (.tmp 11) (.tmp 13) 28 28 rfl _ _ rfl rfl _ W1 R1.out ?_)
        | (refine Lib.wpList_append_run _ rfl (.tmp 16) (.tmp 21) 85 85 rfl _ _ rfl rfl _ W2 R2.out ?_))
      (try simp only [Exit.inBlock, Exit.then])
      refine bodyPost_ret (results_cell_row rfl _ _ (w.heap.size + 1) 31 #[.slice a0 M.length c0, .slice a1 M.length c1, .slice (some ⟨gk, 0, none⟩) M.length c, .slice a3 M.length c3, .int .i64 (cp : Int)] (0, 0) _ rfl ?_ Try.underlying31 rfl info31) rfl ?_
      · exact (FIN.out _ _ _ _ _).1
      · exact ⟨_, _, _, _, rfl, by rw [HMT.out]; exact (FIN.out _ _ _ _ _).2.1, (FIN.out _ _ _ _ _).2.2⟩
    · have hmt : mtext n.inn s = n.inn ++ [(0, s)] := mtext_new n.inn s hs (fun q hq => by
        rw [List.getLast?_eq_getElem?, hm, Nat.add_sub_cancel, hp] at hq
        injection hq with hq
        subst hq
        exact hp0)
      obtain ⟨v3', W3, r3, hit3, hb3, -⟩ := push_row row85 W2 HIT.out [.string ⟨s.toArray⟩, .int .i64 0] rfl (fun x hx => by
        simp only [List.mem_cons, List.not_mem_nil, or_false] at hx
        rcases hx with rfl | rfl <;> rfl) (by omega) (by decide) HB2.out.size
      obtain ⟨a5, c5, rfl, -⟩ := hit3.slice
      have hq0 : ((p.1 : Int) == 0) = false := beq_eq_false_iff_ne.2 (by omega)
      have hq1 : ¬ ((p.1 : Int) = 0) := by omega
      rw [hm] at hit3 r3 R2 k4 TL
      obtain ⟨Z, hZ, t1, t2, t3, bbZ, raZ⟩ := TL.out W3 a5 (m + 1 + 1) c5 (n.inn ++ [(0, s)]) (HB2.out.trans hb3) (by
        have e : icells n.inn ++ [.string ⟨s.toArray⟩, .int .i64 0] = icells (n.inn ++ [(0, s)]) := by rw [icells_append]; rfl
        rw [e] at hit3
        unfold Its
        rw [List.length_append, hm]
        exact hit3.base (Nat.zero_le _))
      obtain ⟨⟨q0', q1', q2', q3', q4'⟩, ⟨z0, z1, z2, z3, z4⟩, y0, y1, y2, y3, y4⟩ := bbZ.cells
      have FIN := Lib.hid (fun y0 y1 y2 y3 y4 => bbZ.answer raZ HB0.out y0 y1 y2 y3 y4)
      have R3 := Lib.hid r3
      have HMT := Lib.hid hmt
      clear hit3 hb3 r3 bbZ raZ hemp hmt hx hs hm hp hp0 hTl hxp
      go_enter Try.func20, Try.ntmps20
      go_wp2_with (at_builtin; first
        | (refine Lib.wpList_append_run _ rfl (.tmp 11) (.tmp 13) 28 28 rfl _ _ rfl rfl _ W1 R1.out ?_)
        | (refine Lib.wpList_append_run _ rfl (.tmp 16) (.tmp 21) 85 85 rfl _ _ rfl rfl _ W2 R2.out ?_)
        | (refine Lib.wpList_append_run _ rfl (.tmp 51) (.tmp 54) 85 85 rfl _ _ rfl rfl _ W3 R3.out ?_))
      (try simp only [Exit.inBlock, Exit.then])
      refine bodyPost_ret (results_cell_row rfl _ _ (w.heap.size + 1) 31 #[.slice a0 M.length c0, .slice a1 M.length c1, .slice (some ⟨gk, 0, none⟩) M.length c, .slice a3 M.length c3, .int .i64 (cp : Int)] (0, 0) _ rfl ?_ Try.underlying31 rfl info31) rfl ?_
      · exact (FIN.out _ _ _ _ _).1
      · exact ⟨_, _, _, _, rfl, by rw [HMT.out]; exact (FIN.out _ _ _ _ _).2.1, (FIN.out _ _ _ _ _).2.2⟩
end Go.Proofs.Ytpnjjpbgbdicoaa
