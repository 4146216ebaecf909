/- Lists of entries: those from the end on, with their places; those behind the last mark. No program here. -/
namespace Go.Proofs.Ytnnidajflnandaa

/-- entries from the last one on, with their places; R is the list backward -/
def bw : List Int → List (Nat × Int)
  | [] => []
  | i :: r => (r.length, i) :: bw r

theorem bw_len : ∀ R : List Int, (bw R).length = R.length
  | [] => rfl
  | _ :: r => by simp only [bw, List.length_cons, bw_len r]

theorem bw_suffix {R d r : List Int} (h : R = d ++ r) : ∃ pre, bw R = pre ++ bw r ∧ pre.length = d.length := by
  subst h
  induction d with
  | nil => exact ⟨[], rfl, rfl⟩
  | cons i d ih =>
    obtain ⟨pre, h, hl⟩ := ih
    exact ⟨((d ++ r).length, i) :: pre, by simp only [List.cons_append, bw, h], by simp only [List.length_cons, hl]⟩

/-- an entry at its place -/
theorem rev_at {E d r : List Int} {x : Int} (h : E.reverse = d ++ x :: r) : E[r.length]? = some x := by
  have e : E = r.reverse ++ x :: d.reverse := by
    have := congrArg List.reverse h
    rw [List.reverse_reverse] at this
    rw [this]
    simp
  rw [e, List.getElem?_append_right (by simp)]
  simp

theorem rev_len {E d r : List Int} (h : E.reverse = d ++ r) : r.length ≤ E.length := by
  have := congrArg List.length h
  simp at this
  omega

theorem bw_at : ∀ {R : List Int} {p : Nat × Int} {E : List Int}, E.reverse = R → p ∈ bw R → E[p.1]? = some p.2 := by
  intro R
  induction R with
  | nil => intro p E _ h; cases h
  | cons i r ih =>
    intro p E hE hp
    simp only [bw, List.mem_cons] at hp
    rcases hp with rfl | hp
    · exact rev_at (d := []) hE
    · -- the list without its last one
      have e : E = r.reverse ++ [i] := by
        have := congrArg List.reverse hE
        rw [List.reverse_reverse] at this
        rw [this]
        simp
      have h1 := ih (E := r.reverse) (by simp) hp
      have hl := (List.getElem?_eq_some_iff.1 h1).1
      rw [e, List.getElem?_append_left hl]
      exact h1

/-- is it no mark? -/
def nm (i : Int) : Bool := i != -1
/-- those behind the last mark, from the last one on -/
def tl (R : List Int) : List Int := R.takeWhile nm
def bb (R : List Int) : List (Nat × Int) := (bw R).takeWhile fun p => nm p.2

theorem bb_cons {i : Int} {r : List Int} (h : i ≠ -1) : bb (i :: r) = (r.length, i) :: bb r := by
  have h1 : nm i = true := by simp [nm, h]
  simp [bb, bw, h1]
theorem bb_mark (r : List Int) : bb (-1 :: r) = [] := by simp [bb, bw, nm]

/-- a front of the whole that has no mark is a front of those behind the mark -/
theorem front_bb {L : List (Nat × Int)} {pre : List (Nat × Int)} (h : pre <+: L) (hn : ∀ p ∈ pre, nm p.2 = true) : pre <+: L.takeWhile fun p => nm p.2 := by
  obtain ⟨s, rfl⟩ := h
  induction pre with
  | nil => exact List.nil_prefix
  | cons p pre ih =>
    rw [List.cons_append, List.takeWhile_cons, if_pos (hn p (by simp))]
    exact (List.prefix_cons_inj p).2 (ih fun q hq => hn q (by simp [hq]))

/-- behind a front without a mark a mark comes: those are all -/
theorem stop_bb {L : List (Nat × Int)} {pre : List (Nat × Int)} {x : Nat × Int} (h : pre ++ [x] <+: L) (hn : ∀ p ∈ pre, nm p.2 = true) (hx : nm x.2 = false) : (L.takeWhile fun p => nm p.2) = pre := by
  obtain ⟨s, rfl⟩ := h
  induction pre with
  | nil => simp [hx]
  | cons p pre ih =>
    simp only [List.cons_append, List.append_assoc, List.nil_append] at ih ⊢
    rw [List.takeWhile_cons, if_pos (hn p (by simp))]
    rw [ih fun q hq => hn q (by simp [hq])]

theorem all_bb {L : List (Nat × Int)} (hn : ∀ p ∈ L, nm p.2 = true) : (L.takeWhile fun p => nm p.2) = L := by
  induction L with
  | nil => rfl
  | cons p L ih =>
    rw [List.takeWhile_cons, if_pos (hn p (by simp)), ih fun q hq => hn q (by simp [hq])]
end Go.Proofs.Ytnnidajflnandaa
