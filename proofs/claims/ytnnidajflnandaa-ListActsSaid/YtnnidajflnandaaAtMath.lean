/- Lists of attributes as plain lists of pairs of byte lists: the value of a name, an attribute more, whether two are the same. No program here. -/
namespace Go.Proofs.Ytnnidajflnandaa.At

abbrev Str := List UInt8
abbrev At := Str × Str

def at0 (L : List At) (i : Nat) : At := L.getD i ([], [])

theorem at0_zero (a : At) (r : List At) : at0 (a :: r) 0 = a := rfl
theorem at0_succ (a : At) (r : List At) (i : Nat) : at0 (a :: r) (i + 1) = at0 r i := rfl
theorem at0_get {L : List At} {i : Nat} (h : i < L.length) : L[i]? = some (at0 L i) := by
  unfold at0; rw [List.getD_eq_getElem?_getD, List.getElem?_eq_getElem h]; rfl
theorem at0_mem {L : List At} {i : Nat} (h : i < L.length) : at0 L i ∈ L := List.mem_of_getElem? (at0_get h)
theorem at0_of_mem {L : List At} {a : At} (h : a ∈ L) : ∃ i, i < L.length ∧ at0 L i = a := by
  obtain ⟨i, hi, he⟩ := List.getElem_of_mem h
  refine ⟨i, hi, ?_⟩
  have := at0_get hi
  rw [List.getElem?_eq_getElem hi, he] at this
  exact (Option.some.inj this).symm
theorem take_snoc {L : List At} {i : Nat} (h : i < L.length) : L.take (i + 1) = L.take i ++ [at0 L i] := by
  rw [List.take_succ_eq_append_getElem h]
  have := at0_get h
  rw [List.getElem?_eq_getElem h] at this
  rw [Option.some.inj this]
theorem at0_take {L : List At} {i k : Nat} (h : i < k) : at0 (L.take k) i = at0 L i := by
  unfold at0
  rw [List.getD_eq_getElem?_getD, List.getD_eq_getElem?_getD, List.getElem?_take_of_lt h]
theorem at0_left {L M : List At} {i : Nat} (h : i < L.length) : at0 (L ++ M) i = at0 L i := by
  unfold at0
  rw [List.getD_eq_getElem?_getD, List.getD_eq_getElem?_getD, List.getElem?_append_left h]
theorem ext_at {L M : List At} (hl : L.length = M.length) (h : ∀ i, i < L.length → at0 L i = at0 M i) : L = M := by
  apply List.ext_getElem? 
  intro i
  by_cases hi : i < L.length
  · rw [at0_get hi, at0_get (hl ▸ hi), h i hi]
  · rw [List.getElem?_eq_none (by omega), List.getElem?_eq_none (by omega)]

/-- the place of the first attribute of a name -/
def ix : List At → Str → Option Nat
  | [], _ => none
  | a :: r, n => if a.1 = n then some 0 else (ix r n).map (· + 1)

/-- its value -/
def get : List At → Str → Option Str
  | [], _ => none
  | a :: r, n => if a.1 = n then some a.2 else get r n

theorem ix_at : ∀ {L : List At} {n : Str} {k : Nat}, (∀ j, j < k → (at0 L j).1 ≠ n) → k < L.length → (at0 L k).1 = n → ix L n = some k
  | [], _, _, _, h, _ => absurd h (by simp)
  | a :: r, n, 0, _, _, h => by unfold ix; exact if_pos h
  | a :: r, n, k + 1, hj, hk, h => by
    have h0 : a.1 ≠ n := hj 0 (by omega)
    have ih : ix r n = some k := ix_at (fun j hjk => hj (j + 1) (by omega)) (by simpa using hk) h
    unfold ix; rw [if_neg h0, ih]; rfl
theorem ix_none : ∀ {L : List At} {n : Str}, (∀ j, j < L.length → (at0 L j).1 ≠ n) → ix L n = none
  | [], _, _ => rfl
  | a :: r, n, h => by
    have h0 : a.1 ≠ n := h 0 (by simp)
    have ih : ix r n = none := ix_none (fun j hj => h (j + 1) (by simpa using hj))
    unfold ix; rw [if_neg h0, ih]; rfl
theorem ix_some : ∀ {L : List At} {n : Str} {k : Nat}, ix L n = some k → k < L.length ∧ (at0 L k).1 = n ∧ get L n = some (at0 L k).2
  | [], _, _, h => by simp [ix] at h
  | a :: r, n, k, h => by
    unfold ix at h
    unfold get
    by_cases h0 : a.1 = n
    · rw [if_pos h0] at h ⊢
      obtain rfl := Option.some.inj h
      exact ⟨by simp, h0, rfl⟩
    · rw [if_neg h0] at h ⊢
      cases hi : ix r n with
      | none => rw [hi] at h; cases h
      | some j =>
        rw [hi] at h
        obtain rfl := Option.some.inj h
        obtain ⟨h1, h2, h3⟩ := ix_some hi
        exact ⟨by simp; omega, h2, h3⟩
theorem get_ix_none : ∀ {L : List At} {n : Str}, ix L n = none → get L n = none
  | [], _, _ => rfl
  | a :: r, n, h => by
    unfold ix at h
    unfold get
    by_cases h0 : a.1 = n
    · rw [if_pos h0] at h; cases h
    · rw [if_neg h0] at h ⊢
      cases hi : ix r n with
      | none => exact get_ix_none hi
      | some j => rw [hi] at h; cases h

def place (L : List At) (n : Str) : Int := match ix L n with | some k => (k : Int) | none => -1

theorem get_at {L : List At} {n : Str} {k : Nat} (h : ∀ j, j < k → (at0 L j).1 ≠ n) (hk : k < L.length) (he : (at0 L k).1 = n) : get L n = some (at0 L k).2 := (ix_some (ix_at h hk he)).2.2
theorem get_none {L : List At} {n : Str} (h : ∀ j, j < L.length → (at0 L j).1 ≠ n) : get L n = none := get_ix_none (ix_none h)
theorem ahead_succ {L : List At} {n : Str} {k : Nat} (h : ∀ j, j < k → (at0 L j).1 ≠ n) (hk : (at0 L k).1 ≠ n) : ∀ j, j < k + 1 → (at0 L j).1 ≠ n := by
  intro j hj
  rcases Nat.lt_or_ge j k with g | g
  · exact h j g
  · obtain rfl : j = k := by omega
    exact hk

/-- an attribute more, unless its name is there -/
def add (L : List At) (x : At) : List At := match get L x.1 with | some _ => L | none => L ++ [x]
theorem add_some {L : List At} {x : At} {v : Str} (h : get L x.1 = some v) : add L x = L := by unfold add; rw [h]
theorem add_none {L : List At} {x : At} (h : get L x.1 = none) : add L x = L ++ [x] := by unfold add; rw [h]
theorem add_len (L : List At) (x : At) : L.length ≤ (add L x).length ∧ (add L x).length ≤ L.length + 1 := by
  cases h : get L x.1 with
  | none => rw [add_none h]; simp
  | some v => rw [add_some h]; omega

/-- has a list that name with that value? -/
def has (M : List At) (a : At) : Bool := get M a.1 == some a.2
def within (L M : List At) : Bool := L.all (has M)
def same (L M : List At) : Bool := decide (L.length = M.length) && (within L M && within M L)

theorem has_none {M : List At} {a : At} (h : get M a.1 = none) : has M a = false := by unfold has; rw [h]; rfl
theorem has_some {M : List At} {a : At} {v : Str} (h : get M a.1 = some v) : has M a = (v == a.2) := by unfold has; rw [h]; rfl

theorem within_take {L M : List At} {i : Nat} (h : i < L.length) (hw : within (L.take i) M = true) (hh : has M (at0 L i) = true) : within (L.take (i + 1)) M = true := by
  unfold within at *
  rw [take_snoc h, List.all_append, hw]
  simp [hh]
theorem within_not {L M : List At} {i : Nat} (h : i < L.length) (hh : has M (at0 L i) = false) : within L M = false := by
  unfold within
  rw [List.all_eq_false]
  exact ⟨at0 L i, at0_mem h, by simp [hh]⟩
theorem within_all {L M : List At} {i : Nat} (h : i = L.length) (hw : within (L.take i) M = true) : within L M = true := by
  rw [h, List.take_length] at hw; exact hw

theorem same_len {L M : List At} (h : L.length ≠ M.length) : same L M = false := by unfold same; rw [decide_eq_false h]; rfl
theorem same_in {L M : List At} (h : L.length = M.length) : same L M = (within L M && within M L) := by unfold same; rw [decide_eq_true h]; rfl
theorem same_comm (L M : List At) : same L M = same M L := by
  unfold same
  rw [Bool.and_comm (within L M), show decide (L.length = M.length) = decide (M.length = L.length) from decide_eq_decide.2 ⟨Eq.symm, Eq.symm⟩]

end Go.Proofs.Ytnnidajflnandaa.At
