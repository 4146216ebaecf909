/- Of elements pushed one behind the other without a mark, those stay that have fewer than three like ones behind them. No program here. -/
import Derived.Test.YtnnidajflnandaaMk
namespace Go.Proofs.Ytnnidajflnandaa
open Go.RowKit Go.Lib
open At (Str cellsA cellsA_len Sl)

section
variable {α : Type} [DecidableEq α]

def bump (f : α → Nat) (a : α) : α → Nat := fun b => if b = a then f b + 1 else f b
theorem bump_self (f : α → Nat) (a : α) : bump f a a = f a + 1 := by unfold bump; rw [if_pos rfl]
theorem bump_ne (f : α → Nat) {a b : α} (h : b ≠ a) : bump f a b = f b := by unfold bump; rw [if_neg h]
theorem bump_comm (f : α → Nat) {a c : α} (h : c ≠ a) : bump (bump f a) c = bump (bump f c) a := by
  funext b
  by_cases h1 : b = a
  · subst h1
    rw [bump_self, bump_ne _ (Ne.symm h), bump_self, bump_ne _ (Ne.symm h)]
  · by_cases h2 : b = c
    · subst h2
      rw [bump_self, bump_ne _ h1, bump_ne _ h1, bump_self]
    · rw [bump_ne _ h2, bump_ne _ h1, bump_ne _ h1, bump_ne _ h2]

/-- those kept, the newest one first; f: how many of each key are newer -/
def keepF (key : Int → α) : (α → Nat) → List Int → List Int
  | _, [] => []
  | f, x :: r => if f (key x) < 3 then x :: keepF key (bump f (key x)) r else keepF key (bump f (key x)) r

/-- without the m-th one of a key (from 1; 0: all are left) -/
def del (key : Int → α) (a : α) : Nat → List Int → List Int
  | 0, l => l
  | _ + 1, [] => []
  | m + 1, x :: r => if key x = a then (if m = 0 then r else x :: del key a m r) else x :: del key a (m + 1) r

theorem del_ne (key : Int → α) {a : α} {x : Int} (h : key x ≠ a) (m : Nat) (r : List Int) : del key a m (x :: r) = x :: del key a m r := by
  cases m with
  | zero => simp only [del]
  | succ m => simp only [del, if_neg h]

theorem keep_bump (key : Int → α) (a : α) : ∀ (xs : List Int) (f : α → Nat), keepF key (bump f a) xs = del key a (3 - f a) (keepF key f xs) := by
  intro xs
  induction xs with
  | nil =>
    intro f
    simp only [keepF]
    cases 3 - f a <;> rfl
  | cons x r ih =>
    intro f
    by_cases hc : key x = a
    · subst hc
      have h1 := ih (bump f (key x))
      rw [bump_self] at h1
      simp only [keepF, bump_self]
      rw [h1]
      by_cases h2 : f (key x) + 1 < 3
      · rw [if_pos h2, if_pos (by omega), show 3 - f (key x) = (3 - (f (key x) + 1)) + 1 by omega]
        simp only [del, if_true]
        rw [if_neg (by omega)]
      · rw [if_neg h2, show 3 - (f (key x) + 1) = 0 by omega]
        by_cases h3 : f (key x) < 3
        · rw [if_pos h3, show 3 - f (key x) = 0 + 1 by omega]
          simp [del]
        · rw [if_neg h3, show 3 - f (key x) = 0 by omega]
    · have h1 := ih (bump f (key x))
      rw [bump_ne _ (Ne.symm hc)] at h1
      simp only [keepF]
      rw [bump_ne _ hc, bump_comm _ hc, h1]
      by_cases h2 : f (key x) < 3
      · rw [if_pos h2, if_pos h2, del_ne key hc]
      · rw [if_neg h2, if_neg h2]

def cnt (key : Int → α) (a : α) (l : List Int) : Nat := (l.filter fun x => decide (key x = a)).length
theorem cnt_yes {key : Int → α} {a : α} {x : Int} (h : key x = a) (r : List Int) : cnt key a (x :: r) = cnt key a r + 1 := by unfold cnt; rw [List.filter_cons_of_pos (by simp [h])]; simp
theorem cnt_no {key : Int → α} {a : α} {x : Int} (h : key x ≠ a) (r : List Int) : cnt key a (x :: r) = cnt key a r := by unfold cnt; rw [List.filter_cons_of_neg (by simp [h])]

theorem keep_cnt (key : Int → α) (a : α) : ∀ (xs : List Int) (f : α → Nat), cnt key a (keepF key f xs) ≤ 3 - f a := by
  intro xs
  induction xs with
  | nil => intro f; exact Nat.zero_le _
  | cons x r ih =>
    intro f
    have h1 := ih (bump f (key x))
    simp only [keepF]
    by_cases hc : key x = a
    · subst hc
      rw [bump_self] at h1
      by_cases h3 : f (key x) < 3
      · rw [if_pos h3, cnt_yes rfl]
        omega
      · rw [if_neg h3]
        omega
    · rw [bump_ne _ (Ne.symm hc)] at h1
      by_cases h3 : f (key x) < 3
      · rw [if_pos h3, cnt_no hc]
        exact h1
      · rw [if_neg h3]
        exact h1

theorem del_few {key : Int → α} {a : α} : ∀ {l : List Int} {m : Nat}, cnt key a l < m → del key a m l = l := by
  intro l
  induction l with
  | nil => intro m _; cases m <;> rfl
  | cons x r ih =>
    intro m hm
    by_cases hc : key x = a
    · rw [cnt_yes hc] at hm
      obtain ⟨k, rfl⟩ : ∃ k, m = k + 1 := ⟨m - 1, by omega⟩
      simp only [del, if_pos hc]
      rw [if_neg (by omega), ih (by omega)]
    · rw [cnt_no hc] at hm
      rw [del_ne key hc, ih hm]

theorem cnt_bw (key : Int → α) (a : α) (R : List Int) : ((bw R).filter fun p => decide (key p.2 = a)).length = cnt key a R := by
  induction R with
  | nil => rfl
  | cons x r ih =>
    simp only [bw]
    by_cases hc : key x = a
    · rw [List.filter_cons_of_pos (by simp [hc]), cnt_yes hc, List.length_cons, ih]
    · rw [List.filter_cons_of_neg (by simp [hc]), cnt_no hc, ih]

/-- the oldest one of a key, struck at its place -/
theorem del_last {key : Int → α} {a : α} : ∀ {R : List Int} {m : Nat}, cnt key a R = m + 1 → ∃ q, ((bw R).filter fun p => decide (key p.2 = a)).getLast? = some q ∧ q.1 < R.length ∧ (R.reverse.eraseIdx q.1).reverse = del key a (m + 1) R := by
  intro R
  induction R with
  | nil => intro m h; simp [cnt] at h
  | cons x r ih =>
    intro m h
    by_cases h0 : cnt key a r = 0
    · have hc : key x = a := by
        by_cases hc : key x = a
        · exact hc
        · rw [cnt_no hc] at h; omega
      rw [cnt_yes hc] at h
      have hf : (bw r).filter (fun p => decide (key p.2 = a)) = [] := List.eq_nil_of_length_eq_zero (by rw [cnt_bw]; exact h0)
      refine ⟨(r.length, x), ?_, by simp, ?_⟩
      · simp only [bw]
        rw [List.filter_cons_of_pos (by simp [hc]), hf]
        rfl
      · obtain rfl : m = 0 := by omega
        simp only [del, if_pos hc, if_true]
        rw [List.reverse_cons, List.eraseIdx_append_of_length_le (by simp)]
        simp
    · obtain ⟨k, hk⟩ : ∃ k, cnt key a r = k + 1 := ⟨cnt key a r - 1, by omega⟩
      obtain ⟨q, h1, h2, h3⟩ := ih hk
      refine ⟨q, ?_, by simp; omega, ?_⟩
      · simp only [bw]
        by_cases hc : key x = a
        · rw [List.filter_cons_of_pos (by simp [hc]), List.getLast?_cons, h1]
          rfl
        · rw [List.filter_cons_of_neg (by simp [hc]), h1]
      · rw [List.reverse_cons, List.eraseIdx_append_of_lt_length (by simpa using h2), List.reverse_append, h3]
        by_cases hc : key x = a
        · rw [cnt_yes hc] at h
          obtain rfl : m = k + 1 := by omega
          simp [del, hc]
        · rw [cnt_no hc] at h
          obtain rfl : m = k := by omega
          rw [del_ne key hc]
          simp

theorem keep_mem {key : Int → α} : ∀ {xs : List Int} {f : α → Nat} {x : Int}, x ∈ keepF key f xs → x ∈ xs := by
  intro xs
  induction xs with
  | nil => intro f x h; cases h
  | cons y r ih =>
    intro f x h
    simp only [keepF] at h
    split at h
    · rcases List.mem_cons.1 h with rfl | h
      · exact List.mem_cons_self ..
      · exact List.mem_cons_of_mem _ (ih h)
    · exact List.mem_cons_of_mem _ (ih h)

/-- the numbers from k down to 1 -/
def ids : Nat → List Int
  | 0 => []
  | k + 1 => ((k + 1 : Nat) : Int) :: ids k
theorem ids_mem : ∀ {k : Nat} {x : Int}, x ∈ ids k → 0 < x ∧ x ≤ (k : Int) := by
  intro k
  induction k with
  | zero => intro x h; cases h
  | succ k ih =>
    intro x h
    rcases List.mem_cons.1 h with rfl | h
    · omega
    · have := ih h
      omega
theorem ids_len : ∀ k, (ids k).length = k
  | 0 => rfl
  | k + 1 => by simp [ids, ids_len k]
theorem keep_len (key : Int → α) : ∀ (xs : List Int) (f : α → Nat), (keepF key f xs).length ≤ xs.length := by
  intro xs
  induction xs with
  | nil => intro f; exact Nat.le_refl _
  | cons y r ih =>
    intro f
    have := ih (bump f (key y))
    simp only [keepF]
    split <;> simp <;> omega

/-- how many of a key there are among lo + 1 .. lo + c -/
def cu (key : Int → α) (a : α) (lo : Nat) : Nat → Nat
  | 0 => 0
  | c + 1 => cu key a lo c + (if key ((lo + c + 1 : Nat) : Int) = a then 1 else 0)
theorem cu_front (key : Int → α) (a : α) (lo : Nat) : ∀ c, cu key a lo (c + 1) = (if key ((lo + 1 : Nat) : Int) = a then 1 else 0) + cu key a (lo + 1) c := by
  intro c
  induction c with
  | zero => simp [cu]
  | succ c ih =>
    rw [cu, ih]
    simp only [cu]
    rw [show lo + 1 + c + 1 = lo + (c + 1) + 1 by omega, Nat.add_assoc]
theorem cu_le (key : Int → α) (a : α) (lo : Nat) : ∀ c, cu key a lo c ≤ c := by
  intro c
  induction c with
  | zero => exact Nat.le_refl _
  | succ c ih => simp only [cu]; split <;> omega

/-- what is kept of the first i, of n -/
def D (key : Int → α) (n i : Nat) : List Int := keepF key (fun a => cu key a i (n - i)) (ids i)
theorem D_step (key : Int → α) {n i : Nat} (h : i < n) : D key n (i + 1) = if cu key (key ((i + 1 : Nat) : Int)) (i + 1) (n - (i + 1)) < 3 then ((i + 1 : Nat) : Int) :: D key n i else D key n i := by
  have hb : bump (fun a => cu key a (i + 1) (n - (i + 1))) (key ((i + 1 : Nat) : Int)) = fun a => cu key a i (n - i) := by
    funext b
    rw [show n - i = (n - (i + 1)) + 1 by omega, cu_front]
    by_cases hc : b = key ((i + 1 : Nat) : Int)
    · subst hc
      rw [bump_self, if_pos rfl]
      omega
    · rw [bump_ne _ hc, if_neg (Ne.symm hc)]
      omega
  unfold D
  simp only [ids, keepF]
  rw [hb]
theorem D_end (key : Int → α) (n : Nat) : D key n n = keepF key (fun _ => 0) (ids n) := by
  unfold D
  rw [Nat.sub_self]
  rfl
end
end Go.Proofs.Ytnnidajflnandaa
