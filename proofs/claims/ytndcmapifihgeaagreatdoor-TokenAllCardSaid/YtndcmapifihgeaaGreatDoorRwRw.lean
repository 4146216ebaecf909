/- Plain lists of bytes: small letters. Nothing of the program is in this text. -/
import Derived.Lib.Hide
namespace Go.Proofs.YtndcmapifihgeaaGreatDoor.Rw
open Go.Lib

/-- the byte at a place, as a number -/
def at0 (l : List UInt8) (j : Nat) : Nat := (l.getD j 0).toNat

def blankN (n : Nat) : Bool := n == 9 || n == 10 || n == 12 || n == 32
def greatN (n : Nat) : Bool := decide (65 ≤ n) && decide (n ≤ 90)
def smallN (n : Nat) : Bool := decide (97 ≤ n) && decide (n ≤ 122)
def digitN (n : Nat) : Bool := decide (48 ≤ n) && decide (n ≤ 57)

def bl (b : UInt8) : Bool := blankN b.toNat
/-- a byte with a small letter -/
def lowB (b : UInt8) : UInt8 := if greatN b.toNat then b + 32 else b
def smallL (l : List UInt8) : List UInt8 := l.map lowB
theorem at0_lt (l : List UInt8) (j : Nat) : at0 l j < 256 := UInt8.toNat_lt _

theorem lowB_toNat (b : UInt8) : (lowB b).toNat = if greatN b.toNat then b.toNat + 32 else b.toNat := by
  unfold lowB
  by_cases h : greatN b.toNat = true
  · rw [if_pos h, if_pos h, UInt8.toNat_add]
    simp [greatN] at h
    have : (32 : UInt8).toNat = 32 := rfl
    omega
  · rw [if_neg h, if_neg h]

theorem lowB_high {b : UInt8} (h : 128 ≤ b.toNat) : lowB b = b := by
  unfold lowB
  rw [if_neg (by simp [greatN]; omega)]

theorem lowB_lowB (b : UInt8) : lowB (lowB b) = lowB b := by
  apply UInt8.toNat_inj.1
  rw [lowB_toNat (lowB b), lowB_toNat b]
  by_cases h : greatN b.toNat = true
  · rw [if_pos h]
    simp [greatN] at h
    rw [if_neg (by simp [greatN]; omega)]
  · rw [if_neg h, if_neg h]

theorem bl_lowB (b : UInt8) : bl (lowB b) = bl b := by
  unfold bl
  rw [lowB_toNat]
  by_cases h : greatN b.toNat = true
  · rw [if_pos h]
    simp [greatN] at h
    have h1 : blankN (b.toNat + 32) = false := by simp [blankN]; omega
    have h2 : blankN b.toNat = false := by simp [blankN]; omega
    rw [h1, h2]
  · rw [if_neg h]

theorem smallL_smallL (l : List UInt8) : smallL (smallL l) = smallL l := by
  unfold smallL
  rw [List.map_map]
  apply List.map_congr_left
  intro b _
  exact lowB_lowB b

theorem smallL_append (a b : List UInt8) : smallL (a ++ b) = smallL a ++ smallL b := List.map_append
theorem smallL_length (l : List UInt8) : (smallL l).length = l.length := List.length_map _

theorem getD_at0 {l : List UInt8} {i : Nat} (h : i < l.length) : at0 l i = l[i].toNat := by
  unfold at0; rw [List.getD_eq_getElem?_getD, List.getElem?_eq_getElem h]; rfl
theorem drop_cons {l : List UInt8} {i : Nat} (h : i < l.length) : l.drop i = l[i] :: l.drop (i + 1) := List.drop_eq_getElem_cons h
theorem take_snoc {l : List UInt8} {i : Nat} (h : i < l.length) : l.take (i + 1) = l.take i ++ [l[i]] := List.take_succ_eq_append_getElem h
end Go.Proofs.YtndcmapifihgeaaGreatDoor.Rw

/- Layer 9's answers as functions over plain lists of bytes. Nothing of the program is in this text. -/
namespace Go.Proofs.YtndcmapifihgeaaGreatDoor.Rw
open Go.Lib

theorem at0_drop (m : List UInt8) (k j : Nat) : at0 (m.drop k) j = at0 m (k + j) := by
  unfold at0
  rw [List.getD_eq_getElem?_getD, List.getD_eq_getElem?_getD, List.getElem?_drop]
theorem lowB_eq {b : UInt8} {c : Nat} (h : (lowB b).toNat = c) (hc : c < 97) : b.toNat = c := by
  rw [lowB_toNat] at h
  split at h
  · rename_i hg; simp [greatN] at hg; omega
  · exact h

def nTextarea : List UInt8 := [116, 101, 120, 116, 97, 114, 101, 97]
def nTitle : List UInt8 := [116, 105, 116, 108, 101]
def nIframe : List UInt8 := [105, 102, 114, 97, 109, 101]
def nNoembed : List UInt8 := [110, 111, 101, 109, 98, 101, 100]
def nNoframes : List UInt8 := [110, 111, 102, 114, 97, 109, 101, 115]
def nScript : List UInt8 := [115, 99, 114, 105, 112, 116]
def nStyle : List UInt8 := [115, 116, 121, 108, 101]
def nXmp : List UInt8 := [120, 109, 112]
def nPlaintext : List UInt8 := [112, 108, 97, 105, 110, 116, 101, 120, 116]

/-- the names that have a way of their own, with it -/
def ways : List (List UInt8 × Nat) := [(nTextarea, 1), (nTitle, 1), (nIframe, 2), (nNoembed, 2), (nNoframes, 2), (nScript, 2), (nStyle, 2), (nXmp, 2), (nPlaintext, 3)]
/-- the way of a name, by a table -/
def wayIn : List (List UInt8 × Nat) → List UInt8 → Nat
  | [], _ => 0
  | (k, v) :: r, n => if k = n then v else wayIn r n
def kdN (n : List UInt8) : Nat := wayIn ways n

theorem wayIn_le (n : List UInt8) : ∀ t : List (List UInt8 × Nat), (∀ x ∈ t, x.2 ≤ 3) → wayIn t n ≤ 3
  | [], _ => Nat.zero_le _
  | (k, v) :: r, h => by
    unfold wayIn
    split
    · exact h (k, v) (by simp)
    · exact wayIn_le n r fun x hx => h x (by simp [hx])
theorem kdN_le (n : List UInt8) : kdN n ≤ 3 := wayIn_le n ways (by decide)

/-- the bytes that end a name -/
def endN (c : Nat) : Bool := blankN c || (c == 13 || (c == 47 || c == 62))
/-- does an end tag begin bytes? -/
def isE (p m : List UInt8) : Bool := decide (p.length < m.length) && (decide (smallL (m.take p.length) = p) && endN (at0 m p.length))
/-- how many bytes stand ahead of the first end tag -/
def fe (p : List UInt8) : List UInt8 → Nat
  | [] => 0
  | c :: r => if isE p (c :: r) then 0 else fe p r + 1
/-- what stands ahead of what ends a name -/
def fr (n : List UInt8) : List UInt8 := [60, 47] ++ n
/-- where the text ends -/
def ed (n l : List UInt8) (i : Nat) : Nat := if kdN n = 0 then i else if kdN n = 3 then l.length else i + fe (fr n) (l.drop i)

theorem fe_cons (p : List UInt8) (c : UInt8) (r : List UInt8) : fe p (c :: r) = if isE p (c :: r) then 0 else fe p r + 1 := rfl
theorem fe_le (p : List UInt8) : ∀ m, fe p m ≤ m.length
  | [] => Nat.zero_le _
  | c :: r => by
    unfold fe
    split
    · exact Nat.zero_le _
    · have := fe_le p r
      simp only [List.length_cons]
      omega

theorem fe_at {p l : List UInt8} {i : Nat} (h : i < l.length) : fe p (l.drop i) = if isE p (l.drop i) then 0 else fe p (l.drop (i + 1)) + 1 := by
  rw [List.drop_eq_getElem_cons h]
  rfl

/-- from any byte ahead of it the same end -/
theorem fe_from (p : List UInt8) : ∀ (m : List UInt8) (i : Nat), i ≤ fe p m → i + fe p (m.drop i) = fe p m
  | m, 0, _ => by simp
  | [], i + 1, h => by simp [fe] at h
  | c :: r, i + 1, h => by
    by_cases hE : isE p (c :: r) = true
    · simp [fe, hE] at h
    · have e : fe p (c :: r) = fe p r + 1 := by rw [fe_cons, if_neg hE]
      rw [e] at h ⊢
      have := fe_from p r i (by omega)
      simp only [List.drop_succ_cons]
      omega

theorem ed_le {n l : List UInt8} {i : Nat} (h : i ≤ l.length) : ed n l i ≤ l.length := by
  unfold ed
  split
  · exact h
  · split
    · exact Nat.le_refl _
    · have := fe_le (fr n) (l.drop i)
      rw [List.length_drop] at this
      omega

/-- an element's text from any byte up to its end -/
theorem ed_from {n l : List UInt8} (hk : kdN n ≠ 0) {i : Nat} (h : i ≤ ed n l 0) : ed n l i = ed n l 0 := by
  unfold ed at h ⊢
  rw [if_neg hk, if_neg hk] at *
  by_cases h3 : kdN n = 3
  · rw [if_pos h3, if_pos h3]
  · rw [if_neg h3] at h ⊢
    rw [if_neg h3]
    rw [List.drop_zero, Nat.zero_add] at *
    exact fe_from _ _ _ h

/-! ### bytes without a < -/
def keep (b : UInt8) : Bool := b != 60

theorem isE_keep {p : List UInt8} {c : UInt8} {r : List UInt8} (hp : ∃ q, p = 60 :: q) (h : keep c = true) : isE p (c :: r) = false := by
  obtain ⟨q, rfl⟩ := hp
  have hc : c ≠ 60 := by simpa [keep] using h
  have : smallL ((c :: r).take (60 :: q : List UInt8).length) ≠ 60 :: q := by
    intro e
    simp only [List.length_cons, List.take_succ_cons] at e
    injection e with e1 _
    have h60 : (lowB c).toNat = 60 := by rw [e1]; rfl
    exact hc (UInt8.toNat_inj.1 (lowB_eq h60 (by decide)))
  unfold isE
  rw [decide_eq_false this]
  simp

theorem fe_keep {p : List UInt8} (hp : ∃ q, p = 60 :: q) (t : List UInt8) : ∀ f : List UInt8, (∀ b ∈ f, keep b = true) → fe p (f ++ t) = f.length + fe p t
  | [], _ => by simp
  | c :: r, h => by
    have e : fe p (c :: r ++ t) = fe p (r ++ t) + 1 := by
      show fe p (c :: (r ++ t)) = _
      rw [fe_cons, isE_keep hp (h c (by simp))]
      rfl
    rw [e, fe_keep hp t r fun b hb => h b (by simp [hb])]
    simp only [List.length_cons]
    omega

theorem fr_head (n : List UInt8) : ∃ q, fr n = 60 :: q := ⟨_, rfl⟩
theorem fr_length (n : List UInt8) : (fr n).length = n.length + 2 := by simp [fr]

theorem isE_self {n t : List UInt8} (hn : smallL n = n) : isE (fr n) (fr n ++ [62] ++ t) = true := by
  have h1 : (fr n).length < (fr n ++ [62] ++ t).length := by simp only [List.length_append, List.length_cons, List.length_nil]; omega
  have h2 : smallL ((fr n ++ [62] ++ t).take (fr n).length) = fr n := by
    rw [List.append_assoc, List.take_left]
    show smallL ([60, 47] ++ n) = _
    rw [smallL_append, hn]
    rfl
  have h3 : at0 (fr n ++ [62] ++ t) (fr n).length = 62 := by
    unfold at0
    rw [List.getD_eq_getElem?_getD, List.append_assoc, List.getElem?_append_right (Nat.le_refl _), Nat.sub_self]
    rfl
  unfold isE
  rw [decide_eq_true h1, decide_eq_true h2, h3]
  rfl

theorem fe_closed {n f t : List UInt8} (hn : smallL n = n) (hf : ∀ b ∈ f, keep b = true) : fe (fr n) (f ++ (fr n ++ [62]) ++ t) = f.length := by
  rw [List.append_assoc, fe_keep (fr_head n) _ f hf]
  have : fe (fr n) (fr n ++ [62] ++ t) = 0 := by
    have h := isE_self (t := t) hn
    obtain ⟨q, hq⟩ := fr_head n
    generalize fr n = p at *
    subst hq
    have h' : isE (60 :: q) (60 :: (q ++ [62] ++ t)) = true := h
    show fe (60 :: q) (60 :: (q ++ [62] ++ t)) = 0
    rw [fe_cons, if_pos h']
  rw [this]
  rfl

/-! ### the names of the laws -/
def nm (j : Nat) : List UInt8 := (ways.map Prod.fst).getD j []
theorem nm_small {j : Nat} (h : j < 9) : smallL (nm j) = nm j := by
  have : ∀ j < 9, smallL (nm j) = nm j := by decide
  exact this j h
theorem nm_kind {j : Nat} (h : j < 8) : kdN (nm j) = 1 ∨ kdN (nm j) = 2 := by
  have : ∀ j < 8, kdN (nm j) = 1 ∨ kdN (nm j) = 2 := by decide
  exact this j h
theorem nm_kind9 {j : Nat} (h : j < 9) : kdN (nm j) ≠ 0 := by
  have : ∀ j < 9, kdN (nm j) ≠ 0 := by decide
  exact this j h
theorem nm_length {j : Nat} (h : j < 9) : (nm j).length ≤ 9 := by
  have : ∀ j < 9, (nm j).length ≤ 9 := by decide
  exact this j h

theorem ed_raw {n l : List UInt8} {i : Nat} (h : kdN n = 1 ∨ kdN n = 2) : ed n l i = i + fe (fr n) (l.drop i) := by
  unfold ed
  rw [if_neg (by omega), if_neg (by omega)]
theorem ed_plain {n f : List UInt8} (h : kdN n = 1 ∨ kdN n = 2) (hf : ∀ b ∈ f, keep b = true) : ed n f 0 = f.length := by
  rw [ed_raw h, List.drop_zero, Nat.zero_add]
  have := fe_keep (fr_head n) [] f hf
  rw [List.append_nil] at this
  rw [this]
  rfl
theorem ed_closed {n f t : List UInt8} (h : kdN n = 1 ∨ kdN n = 2) (hn : smallL n = n) (hf : ∀ b ∈ f, keep b = true) : ed n (f ++ (fr n ++ [62]) ++ t) 0 = f.length := by
  rw [ed_raw h, List.drop_zero, Nat.zero_add]
  exact fe_closed hn hf
theorem ed_tags {l : List UInt8} {i : Nat} : ed [112] l i = i := by
  unfold ed
  rw [if_pos (by decide)]
end Go.Proofs.YtndcmapifihgeaaGreatDoor.Rw
