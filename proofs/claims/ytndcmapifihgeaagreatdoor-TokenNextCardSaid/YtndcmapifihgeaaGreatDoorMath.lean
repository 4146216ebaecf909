/- Plain mathematics of layer 5: what a reference at the head of a list of bytes stands for, and the text of a list. Nothing of the program's text. -/
import Derived.Test.YtndcmapifihgeaaGreatDoorChMath
import Derived.Test.YtndcmapifihgeaaGreatDoorEnMath
namespace Go.Proofs.YtndcmapifihgeaaGreatDoor
open Go.Lib
open Ch (at0 nx nx_width at0_lt at0_drop enc_len)
open En (findL nmL nm_facts IsF findL_is findGo)

/-- the value of a digit; 99: it is none -/
def hx (n : Nat) : Nat := if 48 ≤ n ∧ n ≤ 57 then n - 48 else if 97 ≤ n ∧ n ≤ 102 then n - 87 else if 65 ≤ n ∧ n ≤ 70 then n - 55 else 99

/-- the number of digits at the head of a list, from another number on, and how many they are -/
def numR (base : Nat) : List UInt8 → Nat → Nat × Nat
  | [], n => (n, 0)
  | b :: r, n => if hx b.toNat < base then ((numR base r (min (n * base + hx b.toNat) 1114112)).1, (numR base r (min (n * base + hx b.toNat) 1114112)).2 + 1) else (n, 0)

theorem numR_stop {base : Nat} {m : List UInt8} {n : Nat} (h : ¬ hx (at0 m 0) < base) : numR base m n = (n, 0) := by
  cases m with
  | nil => rfl
  | cons b r => exact if_neg h

theorem at0_nil (j : Nat) : at0 [] j = 0 := rfl
theorem at0_out {m : List UInt8} {j : Nat} (h : m.length ≤ j) : at0 m j = 0 := by
  unfold at0; rw [List.getD_eq_getElem?_getD, List.getElem?_eq_none h]; rfl
theorem at0_in {m : List UInt8} {j : Nat} (h : at0 m j ≠ 0) : j < m.length := by
  rcases Nat.lt_or_ge j m.length with k | k
  · exact k
  · exact absurd (at0_out k) h

theorem numR_step {base : Nat} {m : List UInt8} {n : Nat} (hb : base ≤ 99) (h : hx (at0 m 0) < base) :
    numR base m n = ((numR base (m.drop 1) (min (n * base + hx (at0 m 0)) 1114112)).1, (numR base (m.drop 1) (min (n * base + hx (at0 m 0)) 1114112)).2 + 1) := by
  cases m with
  | nil => exact absurd h (by rw [at0_nil]; show ¬ 99 < base; omega)
  | cons b r => exact if_pos h

theorem numR_le (base : Nat) : ∀ (m : List UInt8) (n : Nat), n ≤ 1114112 → (numR base m n).1 ≤ 1114112 ∧ (numR base m n).2 ≤ m.length
  | [], n, h => ⟨h, Nat.le_refl _⟩
  | b :: r, n, h => by
    unfold numR
    split
    · have := numR_le base r (min (n * base + hx b.toNat) 1114112) (by omega)
      simp only [List.length_cons]
      omega
    · exact ⟨h, Nat.zero_le _⟩

def movedL : List Nat := [8364, 129, 8218, 402, 8222, 8230, 8224, 8225, 710, 8240, 352, 8249, 338, 141, 381, 143, 144, 8216, 8217, 8220, 8221, 8226, 8211, 8212, 732, 8482, 353, 8250, 339, 157, 382, 376]

/-- the character of a number -/
def pt (n : Int) : Nat :=
  if n ≤ 0 ∨ 1114111 < n ∨ (55296 ≤ n ∧ n ≤ 57343) then 65533 else if 128 ≤ n ∧ n < 160 then movedL.getD (n - 128).toNat 0 else n.toNat

theorem moved_ok : ∀ i, i < 32 → 0 < movedL.getD i 0 ∧ movedL.getD i 0 < 55296 := by decide

/-- what may be -/
def ok (c : Nat) : Prop := 0 < c ∧ c ≤ 1114111 ∧ (c < 55296 ∨ 57343 < c)
theorem pt_ok (n : Int) : ok (pt n) := by
  unfold pt ok
  split
  · decide
  · split
    · have := moved_ok (n - 128).toNat (by omega)
      omega
    · omega

/-- is it an x? -/
def kM (m : List UInt8) : Nat := if at0 m 0 = 120 ∨ at0 m 0 = 88 then 1 else 0
def baseM (m : List UInt8) : Nat := if at0 m 0 = 120 ∨ at0 m 0 = 88 then 16 else 10
def numV (m : List UInt8) : Nat × Nat := numR (baseM m) (m.drop (kM m)) 0
def semiN (m : List UInt8) (j : Nat) : Nat := if at0 m j = 59 then 1 else 0

/-- a reference by number, behind its & and its # -/
def numM (m : List UInt8) : Option (List UInt8 × Nat) :=
  if (numV m).2 = 0 then none else some (encodeRune (pt ((numV m).1 : Int) : Int), kM m + (numV m).2 + semiN m (kM m + (numV m).2))

def letN (c : Nat) : Bool := (decide (97 ≤ c) && decide (c ≤ 122)) || (decide (65 ≤ c) && decide (c ≤ 90))
def digN (c : Nat) : Bool := decide (48 ≤ c) && decide (c ≤ 57)
def goesN (c : Nat) : Bool := letN c || digN c || c == 61

/-- a reference by name, behind its & -/
def nameM (m : List UInt8) (attr : Bool) : Option (List UInt8 × Nat) :=
  if (findL m).1 = 0 then none
  else if (attr = true ∧ at0 m ((findL m).1 - 1) ≠ 59) ∧ goesN (at0 m (findL m).1) = true then none
  else some ((findL m).2, (findL m).1)

def sh (k : Nat) (o : Option (List UInt8 × Nat)) : Option (List UInt8 × Nat) := o.map fun p => (p.1, k + p.2)

/-- the reference that counts at the head of a list -/
def rd (m : List UInt8) (attr : Bool) : Option (List UInt8 × Nat) :=
  if at0 m 0 = 38 then (if at0 m 1 = 35 then sh 2 (numM (m.drop 2)) else sh 1 (nameM (m.drop 1) attr)) else none

/-- ... at a place of a list -/
def rdAt (l : List UInt8) (x : Int) (attr : Bool) : Option (List UInt8 × Nat) :=
  if 0 ≤ x ∧ x < l.length then sh x.toNat (rd (l.drop x.toNat) attr) else none

theorem nm_len : ∀ p ∈ nmL, 2 ≤ p.1.length ∧ p.2.length ≤ 5 := by decide

theorem findL_bd (m : List UInt8) : ((findL m).1 = 0 ∧ (findL m).2 = []) ∨ (2 ≤ (findL m).1 ∧ (findL m).1 ≤ m.length ∧ (findL m).1 ≤ 8 ∧ (findL m).2.length ≤ 5) := by
  rcases findL_is m with ⟨h, h', -⟩ | ⟨h1, h2, h3⟩
  · exact Or.inl ⟨h, h'⟩
  · have a := nm_len _ h1
    have b := (nm_facts _ h1).2.2.2
    simp only [List.length_take] at a b
    exact Or.inr ⟨by omega, h2, by omega, a.2⟩

theorem nameM_bd {m : List UInt8} {attr : Bool} {s : List UInt8} {e : Nat} (h : nameM m attr = some (s, e)) : 2 ≤ e ∧ e ≤ m.length ∧ s.length ≤ 5 := by
  have := findL_bd m
  unfold nameM at h
  split at h
  · cases h
  · split at h
    · cases h
    · simp only [Option.some.injEq, Prod.mk.injEq] at h
      obtain ⟨rfl, rfl⟩ := h
      omega

theorem kM_le (m : List UInt8) : kM m ≤ m.length ∧ kM m ≤ 1 := by
  unfold kM
  split
  · have := at0_in (m := m) (j := 0) (by omega)
    omega
  · omega

theorem numV_le (m : List UInt8) : (numV m).1 ≤ 1114112 ∧ kM m + (numV m).2 ≤ m.length := by
  have h := numR_le (baseM m) (m.drop (kM m)) 0 (by omega)
  have := (kM_le m).1
  unfold numV
  simp only [List.length_drop] at h
  omega

theorem semiN_le (m : List UInt8) (j : Nat) (h : j ≤ m.length) : j + semiN m j ≤ m.length ∧ semiN m j ≤ 1 := by
  unfold semiN
  split
  · have := at0_in (m := m) (j := j) (by omega)
    omega
  · omega

theorem numM_bd {m : List UInt8} {s : List UInt8} {e : Nat} (h : numM m = some (s, e)) : 1 ≤ e ∧ e ≤ m.length ∧ s.length ≤ 5 := by
  have h1 := (numV_le m).2
  have h2 := semiN_le m _ h1
  unfold numM at h
  split at h
  · cases h
  · simp only [Option.some.injEq, Prod.mk.injEq] at h
    obtain ⟨rfl, rfl⟩ := h
    have := (enc_len (pt ((numV m).1 : Int) : Int)).2
    omega

theorem rd_bd {m : List UInt8} {attr : Bool} {s : List UInt8} {e : Nat} (h : rd m attr = some (s, e)) : 3 ≤ e ∧ e ≤ m.length ∧ s.length ≤ 5 := by
  unfold rd at h
  split at h
  · rename_i h0
    have l0 := at0_in (m := m) (j := 0) (by omega)
    split at h
    · rename_i h1
      have l1 := at0_in (m := m) (j := 1) (by omega)
      unfold sh at h
      rw [Option.map_eq_some_iff] at h
      obtain ⟨⟨s', e'⟩, hn, he⟩ := h
      simp only [Prod.mk.injEq] at he
      obtain ⟨rfl, rfl⟩ := he
      have := numM_bd hn
      simp only [List.length_drop] at this
      omega
    · unfold sh at h
      rw [Option.map_eq_some_iff] at h
      obtain ⟨⟨s', e'⟩, hn, he⟩ := h
      simp only [Prod.mk.injEq] at he
      obtain ⟨rfl, rfl⟩ := he
      have := nameM_bd hn
      simp only [List.length_drop] at this
      omega
  · cases h

theorem rd_nil (attr : Bool) : rd [] attr = none := rfl

/-- the text of a list, with fuel -/
def txtF (attr : Bool) : Nat → List UInt8 → List UInt8
  | 0, _ => []
  | f + 1, m => if m = [] then [] else match rd m attr with
    | some p => p.1 ++ txtF attr f (m.drop p.2)
    | none => encodeRune ((nx m).1 : Int) ++ txtF attr f (m.drop (nx m).2)

def txt (attr : Bool) (m : List UInt8) : List UInt8 := txtF attr m.length m

theorem txtF_fuel (attr : Bool) (f : Nat) : ∀ (g : Nat) (m : List UInt8), m.length ≤ f → m.length ≤ g → txtF attr f m = txtF attr g m := by
  induction f with
  | zero =>
    intro g m h1 h2
    obtain rfl : m = [] := List.eq_nil_of_length_eq_zero (by omega)
    cases g <;> simp [txtF]
  | succ f ih =>
    intro g m h1 h2
    cases g with
    | zero =>
      obtain rfl : m = [] := List.eq_nil_of_length_eq_zero (by omega)
      simp [txtF]
    | succ g =>
      unfold txtF
      by_cases hm : m = []
      · rw [if_pos hm, if_pos hm]
      · rw [if_neg hm, if_neg hm]
        cases hr : rd m attr with
        | none =>
          have hw := nx_width m hm
          simp only
          rw [ih g _ (by simp; omega) (by simp; omega)]
        | some p =>
          have hw := rd_bd (s := p.1) (e := p.2) hr
          simp only
          rw [ih g _ (by simp; omega) (by simp; omega)]

theorem txt_nil (attr : Bool) : txt attr [] = [] := rfl
theorem txt_ref {attr : Bool} {m s : List UInt8} {e : Nat} (h : rd m attr = some (s, e)) : txt attr m = s ++ txt attr (m.drop e) := by
  have hb := rd_bd h
  unfold txt
  cases hl : m.length with
  | zero => omega
  | succ f =>
    rw [txtF, if_neg (by rintro rfl; simp at hl), h]
    simp only
    rw [txtF_fuel attr f (m.drop e).length _ (by simp; omega) (Nat.le_refl _)]
theorem txt_char {attr : Bool} {m : List UInt8} (hm : m ≠ []) (h : rd m attr = none) : txt attr m = encodeRune ((nx m).1 : Int) ++ txt attr (m.drop (nx m).2) := by
  have hb := nx_width m hm
  unfold txt
  cases hl : m.length with
  | zero => omega
  | succ f =>
    rw [txtF, if_neg hm, h]
    simp only
    rw [txtF_fuel attr f (m.drop (nx m).2).length _ (by simp; omega) (Nat.le_refl _)]

theorem txt_len (attr : Bool) (n : Nat) : ∀ m : List UInt8, m.length ≤ n → (txt attr m).length ≤ 5 * n := by
  induction n with
  | zero => intro m h; obtain rfl : m = [] := List.eq_nil_of_length_eq_zero (by omega); simp [txt_nil]
  | succ n ih =>
    intro m h
    by_cases hm : m = []
    · subst hm; simp [txt_nil]
    · cases hr : rd m attr with
      | none =>
        rw [txt_char hm hr]
        have hw := nx_width m hm
        have := ih (m.drop (nx m).2) (by simp; omega)
        have := (enc_len ((nx m).1 : Int)).2
        simp; omega
      | some p =>
        have hb := rd_bd (s := p.1) (e := p.2) hr
        rw [txt_ref (s := p.1) (e := p.2) hr]
        have := ih (m.drop p.2) (by simp; omega)
        simp; omega

/-- the program gives eight bytes alone to be looked through -/
theorem findL_eight (m : List UInt8) : findL (m.take 8) = findL m := by
  have key : ∀ k, k ≤ 8 → findGo (m.take 8) k = findGo m k := by
    intro k
    induction k with
    | zero => intro _; rfl
    | succ k ih =>
      intro hk
      unfold findGo
      rw [ih (by omega), List.take_take, Nat.min_eq_left hk]
  unfold findL
  rw [List.length_take, show min (min 8 m.length) 8 = min m.length 8 by omega]
  exact key _ (by omega)
end Go.Proofs.YtndcmapifihgeaaGreatDoor
