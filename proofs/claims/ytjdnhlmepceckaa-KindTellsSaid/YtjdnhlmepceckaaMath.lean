/- The reference's ten texts: a name stands in one of them, with a blank ahead and behind, just if it is one of the words. -/
import Derived.Test.YtjdnhlmepceckaaOf
namespace Go.Proofs.Ytjdnhlmepceckaa

def s0 : List UInt8 := [32, 97, 114, 101, 97, 32, 98, 97, 115, 101, 32, 98, 97, 115, 101, 102, 111, 110, 116, 32, 98, 103, 115, 111, 117, 110, 100, 32, 98, 114, 32, 101, 109, 98, 101, 100, 32, 104, 114, 32, 105, 109, 103, 32, 105, 110, 112, 117, 116, 32, 107, 101, 121, 103, 101, 110, 32, 108, 105, 110, 107, 32, 109, 101, 116, 97, 32, 112, 97, 114, 97, 109, 32, 115, 111, 117, 114, 99, 101, 32, 116, 114, 97, 99, 107, 32, 119, 98, 114, 32]
def s1 : List UInt8 := [32, 97, 100, 100, 114, 101, 115, 115, 32, 97, 114, 116, 105, 99, 108, 101, 32, 97, 115, 105, 100, 101, 32, 98, 108, 111, 99, 107, 113, 117, 111, 116, 101, 32, 99, 101, 110, 116, 101, 114, 32, 100, 100, 32, 100, 101, 116, 97, 105, 108, 115, 32, 100, 105, 97, 108, 111, 103, 32, 100, 105, 114, 32, 100, 105, 118, 32, 100, 108, 32, 100, 116, 32, 102, 105, 101, 108, 100, 115, 101, 116, 32, 102, 105, 103, 99, 97, 112, 116, 105, 111, 110, 32, 102, 105, 103, 117, 114, 101, 32, 102, 111, 111, 116, 101, 114, 32, 102, 111, 114, 109, 32, 104, 49, 32, 104, 50, 32, 104, 51, 32, 104, 52, 32, 104, 53, 32, 104, 54, 32, 104, 101, 97, 100, 101, 114, 32, 104, 103, 114, 111, 117, 112, 32, 104, 114, 32, 108, 105, 32, 108, 105, 115, 116, 105, 110, 103, 32, 109, 97, 105, 110, 32, 109, 101, 110, 117, 32, 110, 97, 118, 32, 111, 108, 32, 112, 32, 112, 108, 97, 105, 110, 116, 101, 120, 116, 32, 112, 114, 101, 32, 115, 101, 99, 116, 105, 111, 110, 32, 115, 117, 109, 109, 97, 114, 121, 32, 116, 97, 98, 108, 101, 32, 117, 108, 32, 120, 109, 112, 32]
def s2 : List UInt8 := [32, 104, 49, 32, 104, 50, 32, 104, 51, 32, 104, 52, 32, 104, 53, 32, 104, 54, 32]
def s3 : List UInt8 := [32, 97, 32, 98, 32, 98, 105, 103, 32, 99, 111, 100, 101, 32, 101, 109, 32, 102, 111, 110, 116, 32, 105, 32, 110, 111, 98, 114, 32, 115, 32, 115, 109, 97, 108, 108, 32, 115, 116, 114, 105, 107, 101, 32, 115, 116, 114, 111, 110, 103, 32, 116, 116, 32, 117, 32]
def s4 : List UInt8 := [32, 97, 100, 100, 114, 101, 115, 115, 32, 97, 112, 112, 108, 101, 116, 32, 97, 114, 101, 97, 32, 97, 114, 116, 105, 99, 108, 101, 32, 97, 115, 105, 100, 101, 32, 98, 97, 115, 101, 32, 98, 97, 115, 101, 102, 111, 110, 116, 32, 98, 103, 115, 111, 117, 110, 100, 32, 98, 108, 111, 99, 107, 113, 117, 111, 116, 101, 32, 98, 114, 32, 98, 117, 116, 116, 111, 110, 32, 99, 101, 110, 116, 101, 114, 32, 100, 100, 32, 100, 101, 116, 97, 105, 108, 115, 32, 100, 105, 114, 32, 100, 105, 118, 32, 100, 108, 32, 100, 116, 32, 101, 109, 98, 101, 100, 32, 102, 105, 101, 108, 100, 115, 101, 116, 32, 102, 105, 103, 99, 97, 112, 116, 105, 111, 110, 32, 102, 105, 103, 117, 114, 101, 32, 102, 111, 111, 116, 101, 114, 32, 102, 111, 114, 109, 32, 104, 49, 32, 104, 50, 32, 104, 51, 32, 104, 52, 32, 104, 53, 32, 104, 54, 32, 104, 101, 97, 100, 101, 114, 32, 104, 103, 114, 111, 117, 112, 32, 104, 114, 32, 105, 102, 114, 97, 109, 101, 32, 105, 109, 103, 32, 105, 110, 112, 117, 116, 32, 107, 101, 121, 103, 101, 110, 32, 108, 105, 32, 108, 105, 110, 107, 32, 108, 105, 115, 116, 105, 110, 103, 32, 109, 97, 105, 110, 32, 109, 97, 114, 113, 117, 101, 101, 32, 109, 101, 110, 117, 32, 109, 101, 116, 97, 32, 110, 97, 118, 32, 110, 111, 101, 109, 98, 101, 100, 32, 110, 111, 102, 114, 97, 109, 101, 115, 32, 111, 98, 106, 101, 99, 116, 32, 111, 108, 32, 112, 32, 112, 97, 114, 97, 109, 32, 112, 108, 97, 105, 110, 116, 101, 120, 116, 32, 112, 114, 101, 32, 115, 99, 114, 105, 112, 116, 32, 115, 101, 99, 116, 105, 111, 110, 32, 115, 101, 108, 101, 99, 116, 32, 115, 111, 117, 114, 99, 101, 32, 115, 116, 121, 108, 101, 32, 115, 117, 109, 109, 97, 114, 121, 32, 116, 97, 98, 108, 101, 32, 116, 101, 109, 112, 108, 97, 116, 101, 32, 116, 101, 120, 116, 97, 114, 101, 97, 32, 116, 105, 116, 108, 101, 32, 116, 114, 97, 99, 107, 32, 117, 108, 32, 119, 98, 114, 32, 120, 109, 112, 32]
def s5 : List UInt8 := [32, 97, 112, 112, 108, 101, 116, 32, 109, 97, 114, 113, 117, 101, 101, 32, 111, 98, 106, 101, 99, 116, 32, 116, 97, 98, 108, 101, 32, 116, 101, 109, 112, 108, 97, 116, 101, 32]
def s6 : List UInt8 := [32, 98, 111, 100, 121, 32, 99, 97, 112, 116, 105, 111, 110, 32, 99, 111, 108, 32, 99, 111, 108, 103, 114, 111, 117, 112, 32, 102, 114, 97, 109, 101, 32, 102, 114, 97, 109, 101, 115, 101, 116, 32, 104, 101, 97, 100, 32, 104, 116, 109, 108, 32, 116, 98, 111, 100, 121, 32, 116, 100, 32, 116, 102, 111, 111, 116, 32, 116, 104, 32, 116, 104, 101, 97, 100, 32, 116, 114, 32]
def s7 : List UInt8 := [32, 100, 100, 32, 100, 116, 32, 108, 105, 32, 111, 112, 116, 103, 114, 111, 117, 112, 32, 111, 112, 116, 105, 111, 110, 32, 112, 32, 114, 98, 32, 114, 112, 32, 114, 116, 32, 114, 116, 99, 32]
def s8 : List UInt8 := [32, 97, 112, 112, 108, 101, 116, 32, 109, 97, 114, 113, 117, 101, 101, 32, 111, 98, 106, 101, 99, 116, 32]
def s9 : List UInt8 := [32, 97, 32, 97, 98, 98, 114, 32, 97, 100, 100, 114, 101, 115, 115, 32, 97, 114, 116, 105, 99, 108, 101, 32, 97, 115, 105, 100, 101, 32, 98, 32, 98, 100, 105, 32, 98, 100, 111, 32, 98, 105, 103, 32, 98, 108, 111, 99, 107, 113, 117, 111, 116, 101, 32, 98, 114, 32, 99, 101, 110, 116, 101, 114, 32, 99, 105, 116, 101, 32, 99, 111, 100, 101, 32, 100, 100, 32, 100, 101, 108, 32, 100, 102, 110, 32, 100, 105, 114, 32, 100, 105, 118, 32, 100, 108, 32, 100, 116, 32, 101, 109, 32, 102, 105, 103, 99, 97, 112, 116, 105, 111, 110, 32, 102, 105, 103, 117, 114, 101, 32, 102, 111, 110, 116, 32, 102, 111, 111, 116, 101, 114, 32, 104, 49, 32, 104, 50, 32, 104, 51, 32, 104, 52, 32, 104, 53, 32, 104, 54, 32, 104, 101, 97, 100, 101, 114, 32, 104, 114, 32, 105, 32, 105, 109, 103, 32, 105, 110, 115, 32, 107, 98, 100, 32, 108, 105, 32, 109, 97, 105, 110, 32, 109, 97, 114, 107, 32, 110, 97, 118, 32, 111, 108, 32, 112, 32, 112, 114, 101, 32, 113, 32, 115, 32, 115, 97, 109, 112, 32, 115, 101, 99, 116, 105, 111, 110, 32, 115, 109, 97, 108, 108, 32, 115, 112, 97, 110, 32, 115, 116, 114, 105, 107, 101, 32, 115, 116, 114, 111, 110, 103, 32, 115, 117, 98, 32, 115, 117, 112, 32, 116, 105, 109, 101, 32, 116, 116, 32, 117, 32, 117, 108, 32, 118, 97, 114, 32, 119, 98, 114, 32]

/-- the ten texts -/
def S : Nat → List UInt8
  | 0 => s0 | 1 => s1 | 2 => s2 | 3 => s3 | 4 => s4 | 5 => s5 | 6 => s6 | 7 => s7 | 8 => s8 | 9 => s9 | _ => []

/-- words, with a blank behind each -/
def J : List (List UInt8) → List UInt8
  | [] => []
  | x :: l => x ++ 32 :: J l

/-- a text stands in another one -/
def Sub (s p : List UInt8) : Prop := ∃ i, i + p.length ≤ s.length ∧ (s.drop i).take p.length = p

theorem split_eq {x l r t : List UInt8} (hx : 32 ∉ x) (hl : 32 ∉ l) (h : x ++ 32 :: t = l ++ 32 :: r) : x = l := by
  induction x generalizing l with
  | nil =>
    cases l with
    | nil => rfl
    | cons b l => simp at h; exact absurd h.1 (fun e => hl (by simp [e]))
  | cons a x ih =>
    cases l with
    | nil => simp at h; exact absurd h.1.symm (fun e => hx (by simp [e]))
    | cons b l =>
      simp at h hx hl
      rw [h.1, ih hx.2 hl.2 h.2]

theorem sub_mem {l : List UInt8} (hl : 32 ∉ l) : ∀ (ws : List (List UInt8)), (∀ x ∈ ws, 32 ∉ x) → ∀ i r, (32 :: J ws).drop i = 32 :: (l ++ 32 :: r) → l ∈ ws := by
  intro ws
  induction ws with
  | nil =>
    intro _ i r h
    cases i with
    | zero => simp [J] at h
    | succ i => simp [J] at h
  | cons x ws ih =>
    intro hws i r h
    have hx := hws x (by simp)
    cases i with
    | zero =>
      simp only [J, List.drop_zero, List.cons.injEq, true_and] at h
      rw [split_eq hx hl h]
      simp
    | succ i =>
      simp only [J, List.drop_succ_cons] at h
      by_cases hi : i < x.length
      · exfalso
        rw [List.drop_append_of_le_length (by omega)] at h
        have : (x.drop i ++ 32 :: J ws)[0]? = some 32 := by rw [h]; rfl
        rw [List.getElem?_append_left (by simp; omega), List.getElem?_drop] at this
        exact hx (List.mem_of_getElem? this)
      · obtain ⟨k, rfl⟩ : ∃ k, i = x.length + k := ⟨i - x.length, by omega⟩
        rw [← List.drop_drop, List.drop_left] at h
        exact List.mem_cons_of_mem _ (ih (fun y hy => hws y (by simp [hy])) k r h)

theorem mem_sub {l : List UInt8} : ∀ (ws : List (List UInt8)), l ∈ ws → ∃ i r, (32 :: J ws).drop i = 32 :: (l ++ 32 :: r) := by
  intro ws
  induction ws with
  | nil => intro h; cases h
  | cons x ws ih =>
    intro h
    rcases List.mem_cons.1 h with rfl | h
    · exact ⟨0, J ws, rfl⟩
    · obtain ⟨i, r, hi⟩ := ih h
      refine ⟨x.length + 1 + i, r, ?_⟩
      rw [show x.length + 1 + i = (x.length + i) + 1 by omega, List.drop_succ_cons]
      show (x ++ 32 :: J ws).drop (x.length + i) = _
      rw [← List.drop_drop, List.drop_left, hi]

theorem sub_iff {l : List UInt8} (hl : 32 ∉ l) (ws : List (List UInt8)) (hws : ∀ x ∈ ws, 32 ∉ x) : Sub (32 :: J ws) (32 :: (l ++ [32])) ↔ l ∈ ws := by
  constructor
  · rintro ⟨i, _, h⟩
    refine sub_mem hl ws hws i (((32 :: J ws).drop i).drop (l.length + 2)) ?_
    have := List.take_append_drop (l.length + 2) ((32 :: J ws).drop i)
    rw [show (32 :: (l ++ [32])).length = l.length + 2 by simp] at h
    rw [h] at this
    rw [← this]
    simp
  · intro h
    obtain ⟨i, r, hi⟩ := mem_sub ws h
    refine ⟨i, ?_, ?_⟩
    · have := congrArg List.length hi
      simp at this ⊢
      omega
    · rw [hi, show (32 :: (l ++ 32 :: r)) = (32 :: (l ++ [32])) ++ r by simp, List.take_left]

theorem noB (ws : List (List UInt8)) (h : (ws.all fun x => !x.contains 32) = true) : ∀ x ∈ ws, 32 ∉ x := by
  intro x hx hc
  have := List.all_eq_true.1 h x hx
  simp [hc] at this

theorem S_iff {l : List UInt8} (hl : 32 ∉ l) : ∀ k, k < 10 → (Sub (S k) (32 :: (l ++ [32])) ↔ (W k).contains l = true) := by
  intro k hk
  have h : ∀ (s : List UInt8) (ws : List (List UInt8)), s = 32 :: J ws → (ws.all fun x => !x.contains 32) = true → (Sub s (32 :: (l ++ [32])) ↔ ws.contains l = true) := by
    intro s ws h1 h2
    rw [h1, sub_iff hl ws (noB ws h2)]
    simp
  match k, hk with
  | 0, _ => exact h s0 w0 (by decide +kernel) (by decide +kernel)
  | 1, _ => exact h s1 w1 (by decide +kernel) (by decide +kernel)
  | 2, _ => exact h s2 w2 (by decide +kernel) (by decide +kernel)
  | 3, _ => exact h s3 w3 (by decide +kernel) (by decide +kernel)
  | 4, _ => exact h s4 w4 (by decide +kernel) (by decide +kernel)
  | 5, _ => exact h s5 w5 (by decide +kernel) (by decide +kernel)
  | 6, _ => exact h s6 w6 (by decide +kernel) (by decide +kernel)
  | 7, _ => exact h s7 w7 (by decide +kernel) (by decide +kernel)
  | 8, _ => exact h s8 w8 (by decide +kernel) (by decide +kernel)
  | 9, _ => exact h s9 w9 (by decide +kernel) (by decide +kernel)

/-- a name that is no word is of no kind -/
theorem W_plain (l : List UInt8) (h : 32 ∈ l ∨ l = []) : ∀ k, k < 10 → (W k).contains l = false := by
  intro k hk
  have hh : ∀ (ws : List (List UInt8)), (ws.all fun x => !x.contains 32 && !x.isEmpty) = true → ws.contains l = false := by
    intro ws h2
    rw [Bool.eq_false_iff]
    intro hc
    have := List.all_eq_true.1 h2 l (by simpa using hc)
    simp at this
    rcases h with h | h
    · exact this.1 h
    · exact this.2 h
  match k, hk with
  | 0, _ => exact hh w0 (by decide +kernel)
  | 1, _ => exact hh w1 (by decide +kernel)
  | 2, _ => exact hh w2 (by decide +kernel)
  | 3, _ => exact hh w3 (by decide +kernel)
  | 4, _ => exact hh w4 (by decide +kernel)
  | 5, _ => exact hh w5 (by decide +kernel)
  | 6, _ => exact hh w6 (by decide +kernel)
  | 7, _ => exact hh w7 (by decide +kernel)
  | 8, _ => exact hh w8 (by decide +kernel)
  | 9, _ => exact hh w9 (by decide +kernel)
end Go.Proofs.Ytjdnhlmepceckaa
