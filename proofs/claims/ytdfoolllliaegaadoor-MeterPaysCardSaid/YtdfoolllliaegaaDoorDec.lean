/- Plain facts on decimal numerals: a number's numeral tells it, and holds no blank; so the text of a Short tells both its numbers. No program in this text. -/
import Derived.Lib.ItoaNum
import Derived.Lib.ItoaLen
namespace Go.Proofs.YtdfoolllliaegaaDoor

/-- What a list of digits is worth. -/
def worth (l : List UInt8) : Nat := l.foldl (fun a c => a * 10 + (c.toNat - 48)) 0

theorem dig_nat (k : Nat) (h : k < 10) : (UInt8.ofNat (48 + k)).toNat = 48 + k := by
  simp [UInt8.toNat_ofNat']; omega

theorem dec_step (u : Nat) : Lib.decDigits u = if u < 10 then [UInt8.ofNat (48 + u)] else Lib.decDigits (u / 10) ++ [UInt8.ofNat (48 + u % 10)] := by
  rw [Lib.decDigits]; split <;> rfl

theorem dec_worth (u : Nat) : worth (Lib.decDigits u) = u := by
  induction u using Nat.strongRecOn with
  | ind u ih =>
    rw [dec_step]
    by_cases h : u < 10
    · rw [if_pos h]; simp only [worth, List.foldl_cons, List.foldl_nil, dig_nat u h]; omega
    · rw [if_neg h]
      have := ih (u / 10) (by omega)
      unfold worth at this ⊢
      rw [List.foldl_append, this]
      simp only [List.foldl_cons, List.foldl_nil, dig_nat (u % 10) (by omega)]
      omega

theorem dec_digits (u : Nat) : ∀ c ∈ Lib.decDigits u, 48 ≤ c.toNat ∧ c.toNat ≤ 57 := by
  induction u using Nat.strongRecOn with
  | ind u ih =>
    rw [dec_step]
    by_cases h : u < 10
    · rw [if_pos h]; intro c hc; simp only [List.mem_singleton] at hc; subst hc; rw [dig_nat u h]; omega
    · rw [if_neg h]
      intro c hc
      rcases List.mem_append.1 hc with hc | hc
      · exact ih (u / 10) (by omega) c hc
      · simp only [List.mem_singleton] at hc; subst hc; rw [dig_nat _ (by omega)]; omega

theorem dec_ne (u : Nat) : Lib.decDigits u ≠ [] := by
  rw [dec_step]; split <;> simp

theorem itoa_no32 (n : Int) : ∀ c ∈ Lib.itoa n, c ≠ 32 := by
  intro c hc e
  subst e
  unfold Lib.itoa at hc
  split at hc
  · rcases List.mem_cons.1 hc with h | h
    · exact absurd h (by decide)
    · exact absurd (dec_digits _ _ h).1 (by decide)
  · exact absurd (dec_digits _ _ hc).1 (by decide)

theorem itoa_inj (a b : Int) (h : Lib.itoa a = Lib.itoa b) : a = b := by
  have key : ∀ u v : Nat, Lib.decDigits u = Lib.decDigits v → u = v := fun u v e => by rw [← dec_worth u, e, dec_worth]
  have head : ∀ u v : Nat, 45 :: Lib.decDigits u ≠ Lib.decDigits v := fun u v e => by
    have := (dec_digits v 45 (by rw [← e]; simp)).1
    exact absurd this (by decide)
  unfold Lib.itoa at h
  split at h <;> split at h
  · have := key _ _ (List.cons.inj h).2; omega
  · exact absurd h (head _ _)
  · exact absurd h.symm (head _ _)
  · have := key _ _ h; omega

/-- The text of a Short, as bytes. -/
def shortText (a b : Int) : List UInt8 := Lib.itoa a ++ [32, 111, 102, 32] ++ Lib.itoa b

theorem cut32 : ∀ (p q x y : List UInt8), (∀ c ∈ p, c ≠ 32) → (∀ c ∈ q, c ≠ 32) → p ++ 32 :: x = q ++ 32 :: y → p = q ∧ x = y
  | [], [], x, y, _, _, h => by simpa using h
  | [], c :: q, x, y, _, hq, h => by
    have := (List.cons.inj (by simpa using h)).1
    exact absurd this.symm (hq c (by simp))
  | c :: p, [], x, y, hp, _, h => by
    have := (List.cons.inj (by simpa using h)).1
    exact absurd this (hp c (by simp))
  | c :: p, d :: q, x, y, hp, hq, h => by
    have h' : c = d ∧ p ++ 32 :: x = q ++ 32 :: y := by simpa using h
    have := cut32 p q x y (fun e he => hp e (by simp [he])) (fun e he => hq e (by simp [he])) h'.2
    exact ⟨by rw [h'.1, this.1], this.2⟩

theorem shortText_inj (a b c d : Int) (h : shortText a b = shortText c d) : a = c ∧ b = d := by
  unfold shortText at h
  have h' : Lib.itoa a ++ 32 :: (111 :: 102 :: 32 :: Lib.itoa b) = Lib.itoa c ++ 32 :: (111 :: 102 :: 32 :: Lib.itoa d) := by simpa using h
  obtain ⟨e1, e2⟩ := cut32 _ _ _ _ (itoa_no32 a) (itoa_no32 c) h'
  exact ⟨itoa_inj _ _ e1, itoa_inj _ _ (by simpa using e2)⟩

theorem itoa_one (n : Int) (h0 : 0 ≤ n) (h : n < 10) : Lib.itoa n = [UInt8.ofNat (48 + n.toNat)] := by
  unfold Lib.itoa; rw [if_neg (by omega), dec_step, if_pos (by omega)]
theorem itoa_minus (n : Int) (h0 : n < 0) : Lib.itoa n = 45 :: Lib.itoa (-n) := by
  unfold Lib.itoa; rw [if_pos h0, if_neg (by omega)]; congr 2; omega
theorem itoa_ten (n : Int) (h : 10 ≤ n) : Lib.itoa n = Lib.itoa (n.tdiv 10) ++ Lib.itoa (n.tmod 10) := by
  obtain ⟨u, rfl⟩ := Int.eq_ofNat_of_zero_le (show 0 ≤ n by omega)
  have e1 : ((u : Int).tdiv 10) = ((u / 10 : Nat) : Int) := by rw [Int.tdiv_eq_ediv_of_nonneg (by omega)]; omega
  have e2 : ((u : Int).tmod 10) = ((u % 10 : Nat) : Int) := by rw [Int.tmod_eq_emod_of_nonneg (by omega)]; omega
  rw [e1, e2]
  unfold Lib.itoa
  rw [if_neg (by omega), if_neg (by omega), if_neg (by omega)]
  simp only [Int.toNat_natCast]
  rw [dec_step, if_neg (by omega), dec_step (u % 10), if_pos (by omega)]
theorem itoa_below (n : Int) (h : n ≤ -10) : Lib.itoa n = Lib.itoa (n.tdiv 10) ++ Lib.itoa (-(n.tmod 10)) := by
  obtain ⟨m, rfl⟩ : ∃ m : Int, n = -m := ⟨-n, by omega⟩
  rw [Int.neg_tdiv, Int.neg_tmod, Int.neg_neg, itoa_minus (-m) (by omega), Int.neg_neg, itoa_ten m (by omega)]
  have : 0 < m.tdiv 10 := by rw [Int.tdiv_eq_ediv_of_nonneg (by omega)]; omega
  rw [itoa_minus (-(m.tdiv 10)) (by omega), Int.neg_neg]; rfl
end Go.Proofs.YtdfoolllliaegaaDoor
