/- Plain mathematics of layer 2, on: what was made of characters is read as those characters; when bytes are their own characters. Nothing of the program's text. -/
import Derived.Test.YtndcmapifihgeaaGreatDoorChMath
import Derived.Lib.ValidLaws
import Derived.Test.YtndcmapifihgeaaGreatDoorChAll
import Derived.Laws.OwnMore
import Derived.Laws.IdiomStrings
import Derived.Laws.BytesArg
namespace Go.Proofs.YtndcmapifihgeaaGreatDoor.Ch
open Go.Lib

/-- a character that may come out -/
def good (c : Nat) : Prop := c ≠ 0 ∧ c ≠ 13 ∧ c ≤ 1114111 ∧ (c < 55296 ∨ 57343 < c)

theorem nx_good (l : List UInt8) : good (nx l).1 := nx_range l

theorem u8_small (n : Nat) (h : n < 256) : (UInt8.ofNat n).toNat = n := by simp; omega
theorem z8 (z : Int) (n : Nat) (h : z = n) (hn : n < 256) : (z.toNat.toUInt8).toNat = n := by
  subst h
  show (UInt8.ofNat _).toNat = n
  rw [Int.toNat_natCast]
  exact u8_small n hn

theorem enc_one (c : Nat) (h : c ≤ 127) : encodeRune (c : Int) = [((c : Int)).toNat.toUInt8] := by
  unfold encodeRune; rw [encodeRuneZ_one (by omega) (by omega)]; rfl
theorem enc_two (c : Nat) (h0 : 128 ≤ c) (h : c ≤ 2047) : encodeRune (c : Int) = [(192 + (c : Int) / 64).toNat.toUInt8, (128 + (c : Int) % 64).toNat.toUInt8] := by
  unfold encodeRune; rw [encodeRuneZ_two (by omega) (by omega)]; rfl
theorem enc_three (c : Nat) (h : (2048 ≤ c ∧ c < 55296) ∨ (57343 < c ∧ c ≤ 65535)) : encodeRune (c : Int) = [(224 + (c : Int) / 4096).toNat.toUInt8, (128 + (c : Int) / 64 % 64).toNat.toUInt8, (128 + (c : Int) % 64).toNat.toUInt8] := by
  unfold encodeRune; rw [encodeRuneZ_three (by omega)]; rfl
theorem enc_four (c : Nat) (h0 : 65536 ≤ c) (h : c ≤ 1114111) : encodeRune (c : Int) = [(240 + (c : Int) / 262144).toNat.toUInt8, (128 + (c : Int) / 4096 % 64).toNat.toUInt8, (128 + (c : Int) / 64 % 64).toNat.toUInt8, (128 + (c : Int) % 64).toNat.toUInt8] := by
  unfold encodeRune; rw [encodeRuneZ_four (by omega) (by omega)]; rfl

theorem good_cases {c : Nat} (h : good c) : (c ≤ 127) ∨ (128 ≤ c ∧ c ≤ 2047) ∨ ((2048 ≤ c ∧ c < 55296) ∨ (57343 < c ∧ c ≤ 65535)) ∨ (65536 ≤ c ∧ c ≤ 1114111) := by
  unfold good at h; omega

/-- what is read of a character's own bytes, whatever stands behind -/
theorem nx_enc (c : Nat) (rest : List UInt8) (h : good c) : nx (encodeRune (c : Int) ++ rest) = (c, (encodeRune (c : Int)).length) := by
  rcases good_cases h with k | k | k | k
  · rw [enc_one c k]
    have e0 : at0 ([((c : Int)).toNat.toUInt8] ++ rest) 0 = c := z8 _ _ rfl (by omega)
    unfold nx
    rw [e0, if_neg h.1, if_neg h.2.1]
    unfold decodeN
    rw [if_pos (by omega)]
    rfl
  · rw [enc_two c k.1 k.2]
    have e0 : at0 ([(192 + (c : Int) / 64).toNat.toUInt8, (128 + (c : Int) % 64).toNat.toUInt8] ++ rest) 0 = 192 + c / 64 := z8 _ _ (by omega) (by omega)
    have e1 : at0 ([(192 + (c : Int) / 64).toNat.toUInt8, (128 + (c : Int) % 64).toNat.toUInt8] ++ rest) 1 = 128 + c % 64 := z8 _ _ (by omega) (by omega)
    unfold nx
    rw [e0, e1, if_neg (by omega), if_neg (by omega)]
    unfold decodeN
    rw [if_neg (by omega), if_pos ⟨by omega, by simp, by omega⟩, if_pos (by omega)]
    apply Prod.ext
    · simp only; omega
    · rfl
  · rw [enc_three c k]
    have e0 : at0 ([(224 + (c : Int) / 4096).toNat.toUInt8, (128 + (c : Int) / 64 % 64).toNat.toUInt8, (128 + (c : Int) % 64).toNat.toUInt8] ++ rest) 0 = 224 + c / 4096 := z8 _ _ (by omega) (by omega)
    have e1 : at0 ([(224 + (c : Int) / 4096).toNat.toUInt8, (128 + (c : Int) / 64 % 64).toNat.toUInt8, (128 + (c : Int) % 64).toNat.toUInt8] ++ rest) 1 = 128 + c / 64 % 64 := z8 _ _ (by omega) (by omega)
    have e2 : at0 ([(224 + (c : Int) / 4096).toNat.toUInt8, (128 + (c : Int) / 64 % 64).toNat.toUInt8, (128 + (c : Int) % 64).toNat.toUInt8] ++ rest) 2 = 128 + c % 64 := z8 _ _ (by omega) (by omega)
    unfold nx
    rw [e0, e1, e2, if_neg (by omega), if_neg (by omega)]
    unfold decodeN
    rw [if_neg (by omega), if_neg (by omega), if_pos ⟨by omega, ⟨by simp, by omega⟩, by simp, by omega⟩, if_pos (by omega)]
    apply Prod.ext
    · simp only; omega
    · rfl
  · rw [enc_four c k.1 k.2]
    have e0 : at0 ([(240 + (c : Int) / 262144).toNat.toUInt8, (128 + (c : Int) / 4096 % 64).toNat.toUInt8, (128 + (c : Int) / 64 % 64).toNat.toUInt8, (128 + (c : Int) % 64).toNat.toUInt8] ++ rest) 0 = 240 + c / 262144 := z8 _ _ (by omega) (by omega)
    have e1 : at0 ([(240 + (c : Int) / 262144).toNat.toUInt8, (128 + (c : Int) / 4096 % 64).toNat.toUInt8, (128 + (c : Int) / 64 % 64).toNat.toUInt8, (128 + (c : Int) % 64).toNat.toUInt8] ++ rest) 1 = 128 + c / 4096 % 64 := z8 _ _ (by omega) (by omega)
    have e2 : at0 ([(240 + (c : Int) / 262144).toNat.toUInt8, (128 + (c : Int) / 4096 % 64).toNat.toUInt8, (128 + (c : Int) / 64 % 64).toNat.toUInt8, (128 + (c : Int) % 64).toNat.toUInt8] ++ rest) 2 = 128 + c / 64 % 64 := z8 _ _ (by omega) (by omega)
    have e3 : at0 ([(240 + (c : Int) / 262144).toNat.toUInt8, (128 + (c : Int) / 4096 % 64).toNat.toUInt8, (128 + (c : Int) / 64 % 64).toNat.toUInt8, (128 + (c : Int) % 64).toNat.toUInt8] ++ rest) 3 = 128 + c % 64 := z8 _ _ (by omega) (by omega)
    unfold nx
    rw [e0, e1, e2, e3, if_neg (by omega), if_neg (by omega)]
    unfold decodeN
    rw [if_neg (by omega), if_neg (by omega), if_neg (by omega), if_pos ⟨by omega, ⟨by simp, by omega⟩, ⟨by simp, by omega⟩, by simp, by omega⟩, if_pos (by omega)]
    apply Prod.ext
    · simp only; omega
    · rfl

/-- bytes that are characters that may come out, one behind the other -/
inductive Good : List UInt8 → Prop
  | nil : Good []
  | cons (c : Nat) (m : List UInt8) : good c → Good m → Good (encodeRune (c : Int) ++ m)

theorem allN_Good (n : Nat) : ∀ (l : List UInt8) (k : Nat), l.length ≤ n → Good (allN l k) := by
  induction n with
  | zero => intro l k h; obtain rfl : l = [] := List.eq_nil_of_length_eq_zero (by omega)
            rw [allN_nil]; exact .nil
  | succ n ih =>
    intro l k h
    by_cases hl : l = []
    · subst hl; rw [allN_nil]; exact .nil
    · by_cases hk : k = 0
      · subst hk; rw [allN_zero]; exact .nil
      · rw [allN_step l k hl (by omega)]
        have hw := nx_width l hl
        exact .cons _ _ (nx_good l) (ih _ _ (by simp; omega))

theorem enc_ne (c : Int) (m : List UInt8) : encodeRune c ++ m ≠ [] := by
  intro e
  have := (enc_len c).1
  have h := congrArg List.length e
  simp at h
  simp [h.1] at this

/-- such bytes are their own characters -/
theorem Good.own {m : List UInt8} (h : Good m) : ∀ k, m.length ≤ k → allN m k = m := by
  induction h with
  | nil => intro k _; exact allN_nil k
  | cons c m hc _ ih =>
    intro k hk
    have hl := (enc_len (c : Int)).1
    simp at hk
    rw [allN_step _ k (enc_ne _ _) (by omega), nx_enc c m hc]
    simp only [List.drop_left]
    rw [ih _ (by omega)]

/-- no byte 0, no byte 13 -/
theorem enc_bytes (c : Nat) (h : good c) : ∀ x ∈ encodeRune (c : Int), x.toNat ≠ 0 ∧ x.toNat ≠ 13 := by
  intro x hx
  have hg := h
  unfold good at hg
  rcases good_cases h with k | k | k | k
  · rw [enc_one c k] at hx
    simp only [List.mem_singleton] at hx
    subst hx
    rw [z8 _ c rfl (by omega)]; omega
  · rw [enc_two c k.1 k.2] at hx
    simp only [List.mem_cons, List.mem_nil_iff, or_false] at hx
    rcases hx with rfl | rfl
    · rw [z8 _ (192 + c / 64) (by omega) (by omega)]; omega
    · rw [z8 _ (128 + c % 64) (by omega) (by omega)]; omega
  · rw [enc_three c k] at hx
    simp only [List.mem_cons, List.mem_nil_iff, or_false] at hx
    rcases hx with rfl | rfl | rfl
    · rw [z8 _ (224 + c / 4096) (by omega) (by omega)]; omega
    · rw [z8 _ (128 + c / 64 % 64) (by omega) (by omega)]; omega
    · rw [z8 _ (128 + c % 64) (by omega) (by omega)]; omega
  · rw [enc_four c k.1 k.2] at hx
    simp only [List.mem_cons, List.mem_nil_iff, or_false] at hx
    rcases hx with rfl | rfl | rfl | rfl
    · rw [z8 _ (240 + c / 262144) (by omega) (by omega)]; omega
    · rw [z8 _ (128 + c / 4096 % 64) (by omega) (by omega)]; omega
    · rw [z8 _ (128 + c / 64 % 64) (by omega) (by omega)]; omega
    · rw [z8 _ (128 + c % 64) (by omega) (by omega)]; omega

theorem Good.bytes {m : List UInt8} (h : Good m) : ∀ x ∈ m, x.toNat ≠ 0 ∧ x.toNat ≠ 13 := by
  induction h with
  | nil => intro x hx; cases hx
  | cons c m hc _ ih =>
    intro x hx
    rcases List.mem_append.1 hx with h | h
    · exact enc_bytes c hc x h
    · exact ih x h

/-- a character's bytes are at most three times those that were read -/
theorem enc_nx_len (l : List UInt8) (hl : l ≠ []) : (encodeRune ((nx l).1 : Int)).length ≤ 3 * (nx l).2 := by
  have hw := nx_width l hl
  have hg := nx_good l
  by_cases h2 : 2 ≤ (nx l).2
  · have := (enc_len ((nx l).1 : Int)).2; omega
  · have h1 : (nx l).2 = 1 := by omega
    have hc : (nx l).1 ≤ 65535 := by
      unfold nx at h1 ⊢
      split
      · simp
      · rename_i hz
        rw [if_neg hz] at h1
        split
        · simp
        · rename_i h13
          rw [if_neg h13] at h1
          unfold decodeN at h1 ⊢
          repeat' split
          all_goals (simp only at h1 ⊢; try omega)
          all_goals (exfalso; revert h1; repeat' split)
          all_goals (simp only; omega)
    rcases good_cases hg with k | k | k | k
    · rw [enc_one _ k]; simp; omega
    · rw [enc_two _ k.1 k.2]; simp; omega
    · rw [enc_three _ k]; simp; omega
    · omega

theorem allN_len3 (n : Nat) : ∀ (l : List UInt8) (k : Nat), l.length ≤ n → (allN l k).length ≤ 3 * l.length := by
  induction n with
  | zero => intro l k h; obtain rfl : l = [] := List.eq_nil_of_length_eq_zero (by omega)
            simp [allN_nil]
  | succ n ih =>
    intro l k h
    by_cases hl : l = []
    · subst hl; simp [allN_nil]
    · by_cases hk : k = 0
      · subst hk; simp [allN_zero]
      · rw [allN_step l k hl (by omega)]
        have hw := nx_width l hl
        have h3 := enc_nx_len l hl
        have := ih (l.drop (nx l).2) (k - (nx l).2) (by simp; omega)
        simp at this ⊢; omega

/-- the library's decoder at the head of a list is the character there, but for a byte 0 and a byte 13 -/
theorem decodeL_nx (l : List UInt8) (h0 : at0 l 0 ≠ 0) (h13 : at0 l 0 ≠ 13) : decodeL l = nx l := by
  unfold nx
  rw [if_neg h0, if_neg h13, decodeL_N]
  rfl

theorem Good.valid {m : List UInt8} (h : Good m) : validD m = true := by
  induction h with
  | nil => rfl
  | cons c m hc _ ih =>
    have hl := (enc_len (c : Int))
    have hne := enc_ne (c : Int) m
    have hb : at0 (encodeRune (c : Int) ++ m) 0 ≠ 0 ∧ at0 (encodeRune (c : Int) ++ m) 0 ≠ 13 := by
      have : ∃ x r, encodeRune (c : Int) = x :: r := by
        cases he : encodeRune (c : Int) with
        | nil => rw [he] at hl; simp at hl
        | cons x r => exact ⟨x, r, rfl⟩
      obtain ⟨x, r, he⟩ := this
      have := enc_bytes c hc x (by rw [he]; exact List.mem_cons_self)
      rw [he]
      exact this
    rw [validD_step _ hne, decodeL_nx _ hb.1 hb.2, nx_enc c m hc, if_neg ?_, List.drop_left]
    · exact ih
    · rintro ⟨e1, e2⟩
      simp only at e1 e2
      subst e1
      revert e2
      decide

theorem byte_eq (x : UInt8) (z : Int) (h : z = (x.toNat : Int)) : z.toNat.toUInt8 = x := by
  subst h; simp

theorem list_three (l : List UInt8) (h : 2 < l.length) : ∃ x y z r, l = x :: y :: z :: r := by
  match l, h with
  | x :: y :: z :: r, _ => exact ⟨x, y, z, r, rfl⟩
theorem list_four (l : List UInt8) (h : 3 < l.length) : ∃ x y z v r, l = x :: y :: z :: v :: r := by
  match l, h with
  | x :: y :: z :: v :: r, _ => exact ⟨x, y, z, v, r, rfl⟩

set_option maxRecDepth 100000 in
/-- bytes that the decoder takes are those of the character that it gives -/
theorem take_enc (l : List UInt8) (hl : l ≠ []) (h0 : at0 l 0 ≠ 0) (h13 : at0 l 0 ≠ 13) (hv : ¬ ((nx l).1 = 65533 ∧ (nx l).2 = 1)) : l = encodeRune ((nx l).1 : Int) ++ l.drop (nx l).2 := by
  have hw := nx_width l hl
  have hg := nx_good l
  have e : nx l = decodeN l.length (at0 l 0) (at0 l 1) (at0 l 2) (at0 l 3) := by unfold nx; rw [if_neg h0, if_neg h13]
  have b0 := at0_lt l 0
  have b1 := at0_lt l 1
  have b2 := at0_lt l 2
  have b3 := at0_lt l 3
  unfold decodeN at e
  split at e
  · rw [e] at hg ⊢
    rename_i k
    match l, hl with
    | x :: r, _ =>
      have ex : at0 (x :: r) 0 = x.toNat := rfl
      rw [ex] at hg k ⊢
      rw [enc_one _ (by omega)]
      simp only [List.drop_succ_cons, List.drop_zero, List.cons_append, List.nil_append]
      rw [byte_eq x _ rfl]
  · split at e
    · rename_i k1 k
      split at e
      · rename_i k2
        match l, k.2.1 with
        | x :: y :: r, _ =>
          have ex : at0 (x :: y :: r) 0 = x.toNat := rfl
          have ey : at0 (x :: y :: r) 1 = y.toNat := rfl
          rw [e]
          rw [ex] at b0 k k1 k2 ⊢
          rw [ey] at b1 k k2 ⊢
          rw [enc_two _ (by omega) (by omega)]
          simp only [List.drop_succ_cons, List.drop_zero, List.cons_append, List.nil_append]
          rw [byte_eq x _ (by omega), byte_eq y _ (by omega)]
      · exact absurd (by rw [e]; exact ⟨rfl, rfl⟩) hv
    · split at e
      · rename_i k1 k0 k
        split at e
        · rename_i k2
          have h3 := k.2.2.1
          clear hw hg hv h0 h13 hl
          obtain ⟨x, y, z, r, rfl⟩ := list_three l h3
          · clear h3
            have ex : at0 (x :: y :: z :: r) 0 = x.toNat := rfl
            have ey : at0 (x :: y :: z :: r) 1 = y.toNat := rfl
            have ez : at0 (x :: y :: z :: r) 2 = z.toNat := rfl
            rw [e]
            rw [ex] at b0 k k1 k2 ⊢
            rw [ey] at b1 k k2 ⊢
            rw [ez] at b2 k k2 ⊢
            rw [enc_three _ (by omega)]
            simp only [List.drop_succ_cons, List.drop_zero, List.cons_append, List.nil_append]
            rw [byte_eq x _ (by omega), byte_eq y _ (by omega), byte_eq z _ (by omega)]
        · exact absurd (by rw [e]; exact ⟨rfl, rfl⟩) hv
      · split at e
        · rename_i k1 k0 k00 k
          split at e
          · rename_i k2
            have h3 := k.2.2.2.1
            clear hw hg hv h0 h13 hl
            obtain ⟨x, y, z, v, r, rfl⟩ := list_four l h3
            · clear h3
              have ex : at0 (x :: y :: z :: v :: r) 0 = x.toNat := rfl
              have ey : at0 (x :: y :: z :: v :: r) 1 = y.toNat := rfl
              have ez : at0 (x :: y :: z :: v :: r) 2 = z.toNat := rfl
              have ev : at0 (x :: y :: z :: v :: r) 3 = v.toNat := rfl
              rw [e]
              rw [ex] at b0 k k1 k2 ⊢
              rw [ey] at b1 k k2 ⊢
              rw [ez] at b2 k k2 ⊢
              rw [ev] at b3 k k2 ⊢
              rw [enc_four _ (by omega) (by omega)]
              simp only [List.drop_succ_cons, List.drop_zero, List.cons_append, List.nil_append]
              rw [byte_eq x _ (by omega), byte_eq y _ (by omega), byte_eq z _ (by omega), byte_eq v _ (by omega)]
          · exact absurd (by rw [e]; exact ⟨rfl, rfl⟩) hv
        · exact absurd (by rw [e]; exact ⟨rfl, rfl⟩) hv

theorem Good.of_valid (n : Nat) : ∀ (l : List UInt8), l.length ≤ n → validD l = true → (∀ x ∈ l, x.toNat ≠ 0 ∧ x.toNat ≠ 13) → Good l := by
  induction n with
  | zero => intro l h _ _; obtain rfl : l = [] := List.eq_nil_of_length_eq_zero (by omega)
            exact .nil
  | succ n ih =>
    intro l h hv hb
    by_cases hl : l = []
    · subst hl; exact .nil
    · have hx : at0 l 0 ≠ 0 ∧ at0 l 0 ≠ 13 := by
        match l, hl with
        | x :: r, _ => exact hb x List.mem_cons_self
      have hw := nx_width l hl
      rw [validD_step l hl, decodeL_nx l hx.1 hx.2] at hv
      by_cases he : (nx l).1 = 65533 ∧ (nx l).2 = 1
      · rw [if_pos he] at hv; cases hv
      · rw [if_neg he] at hv
        rw [take_enc l hl hx.1 hx.2 he]
        exact .cons _ _ (nx_good l) (ih _ (by simp; omega) hv (fun x hx => hb x (List.mem_of_mem_drop hx)))

/-- is there neither a byte 0 nor a byte 13? -/
def noBad (l : List UInt8) : Bool := l.all fun x => x.toNat != 0 && x.toNat != 13

theorem noBad_iff (l : List UInt8) : noBad l = true ↔ ∀ x ∈ l, x.toNat ≠ 0 ∧ x.toNat ≠ 13 := by
  simp [noBad, List.all_eq_true]

theorem allFrom_whole (l : List UInt8) : allFrom l 0 l.length = allN l l.length := by
  unfold allFrom
  split
  · rw [show ((l.length : Int) - 0).toNat = l.length by omega]; rfl
  · rename_i h
    obtain rfl : l = [] := List.eq_nil_of_length_eq_zero (by omega)
    rw [allN_nil]

theorem whole_good (l : List UInt8) : Good (allFrom l 0 l.length) := by rw [allFrom_whole]; exact allN_Good _ l _ (Nat.le_refl _)

/-- bytes are their own characters just if they are UTF-8 without a byte 0 and without a byte 13 -/
theorem own_iff (l : List UInt8) : allFrom l 0 l.length = l ↔ (validD l = true ∧ noBad l = true) := by
  constructor
  · intro h
    have hg := whole_good l
    rw [h] at hg
    exact ⟨hg.valid, (noBad_iff l).2 hg.bytes⟩
  · rintro ⟨h1, h2⟩
    rw [allFrom_whole]
    exact (Good.of_valid l.length l (Nat.le_refl _) h1 ((noBad_iff l).1 h2)).own _ (Nat.le_refl _)
end Go.Proofs.YtndcmapifihgeaaGreatDoor.Ch

/- The reference's All: all characters from a byte up to another one, as a list has them. -/
namespace Go.Proofs.YtndcmapifihgeaaGreatDoor.Ch
open Go.RowKit Go.Lib

/-- a new row that holds a character's bytes -/
def Enc (c : Nat) (w : World) (e : Ending) (w' : World) : Prop :=
  ∃ cap, e = .returned (.slice (some ⟨w.heap.size, 0, none⟩) (runeCells (c : Int)).length cap) ∧ (∀ j u, (runeCells (c : Int))[j]? = some u → w'.cell? ⟨w.heap.size, j, none⟩ = some u) ∧ Below w.heap.size w w'

theorem enc_mk (c : Nat) (w : World) (cs : List Value) (h : runeCells (c : Int) = cs) (n : Nat) (hn : cs.length = n) : Enc c w (.returned (.slice (some ⟨w.heap.size, 0, none⟩) n n)) (w.alloc (.cells cs.toArray 5)) := by
  subst hn
  refine ⟨_, by rw [h], fun j u hj => ?_, (Below.refl _ w).alloc (Nat.le_refl _) _⟩
  rw [h] at hj
  simp [World.cell?, World.alloc, -World.alloc_eq]
  exact hj

set_option maxHeartbeats 1000000 in
set_option maxRecDepth 100000 in
theorem utfBytes (c : Nat) (w : World) (hc : good c) :
    Calls Tryz.prog 36 #[.int .i64 (c : Int)] w (Enc c w) := by
  rcases good_cases hc with k | k | k | k
  · have h1 : (c : Int) < 128 := by omega
    have e : runeCells (c : Int) = [.int .u8 (c : Int)] := by unfold runeCells; rw [encodeRuneZ_one (by omega) (by omega)]; rfl
    have E := enc_mk c w _ e 1 rfl
    clear e
    go_enter Tryz.func36, Tryz.ntmps36
    go_wp2
    go_ret
    exact E
  · have h1 : ¬ (c : Int) < 128 := by omega
    have h2 : (c : Int) < 2048 := by omega
    have e : runeCells (c : Int) = [.int .u8 (192 + (c : Int) / 64), .int .u8 (128 + (c : Int) % 64)] := by unfold runeCells; rw [encodeRuneZ_two (by omega) (by omega)]; rfl
    have E := enc_mk c w _ e 2 rfl
    clear e
    go_enter Tryz.func36, Tryz.ntmps36
    go_wp2
    go_ret
    exact E
  · have h1 : ¬ (c : Int) < 128 := by omega
    have h2 : ¬ (c : Int) < 2048 := by omega
    have h3 : (c : Int) < 65536 := by omega
    have e : runeCells (c : Int) = [.int .u8 (224 + (c : Int) / 4096), .int .u8 (128 + (c : Int) / 64 % 64), .int .u8 (128 + (c : Int) % 64)] := by unfold runeCells; rw [encodeRuneZ_three (by omega)]; rfl
    have E := enc_mk c w _ e 3 rfl
    clear e
    go_enter Tryz.func36, Tryz.ntmps36
    go_wp2
    go_ret
    exact E
  · have h1 : ¬ (c : Int) < 128 := by omega
    have h2 : ¬ (c : Int) < 2048 := by omega
    have h3 : ¬ (c : Int) < 65536 := by omega
    have e : runeCells (c : Int) = [.int .u8 (240 + (c : Int) / 262144), .int .u8 (128 + (c : Int) / 4096 % 64), .int .u8 (128 + (c : Int) / 64 % 64), .int .u8 (128 + (c : Int) % 64)] := by unfold runeCells; rw [encodeRuneZ_four (by omega) (by omega)]; rfl
    have E := enc_mk c w _ e 4 rfl
    clear e
    go_enter Tryz.func36, Tryz.ntmps36
    go_wp2
    go_ret
    exact E

theorem info5 : ∃ j, Tryz.prog.info? 5 = some j ∧ (j.zero, j.size, j.bytes) = (some (.int .u8 0), 1, 1) :=
  Option.map_eq_some_iff.1 (by kernel_rfl : (Tryz.prog.info? 5).map (fun i => (i.zero, i.size, i.bytes)) = some (some (.int .u8 0), 1, 1))

theorem ownsRow_below {w w' : World} {base : Nat} {e : TypeId} {size : Nat} {v : Value} {n : Nat} {xs : List Value} (h : w.ownsRow base e size v n xs) (hb : Below w.heap.size w w') : w'.ownsRow base e size v n xs := by
  refine h.kept (grown_of_below hb) ?_
  cases v.ownBlock with
  | none => exact Or.inl rfl
  | some g => exact Or.inr (by simp)

def RAllRel (l : List UInt8) (x0 to : Int) (w : World) (v7 v8 : Value) (wr : World) : Prop :=
  ∃ (i : Nat) (acc : List UInt8), v8 = .int .i64 i ∧ wr.ownsRow w.heap.size 5 1 v7 acc.length (Lib.byteCells acc) ∧ Below w.heap.size w wr ∧ acc ++ allFrom l i to = allFrom l x0 to

theorem addr_add0 (g j : Nat) : (⟨g, 0, none⟩ : Addr).add j = ⟨g, j, none⟩ := by unfold Addr.add; split <;> simp_all

/-- 'string(b)' of a row of one's own -/
theorem string_own {w : World} {B : Nat} {v : Value} {acc : List UInt8} (h : w.ownsRow B 5 1 v acc.length (Lib.byteCells acc)) :
    (convert 22 9 v).run Tryz.prog w = .ok (.string ⟨acc.toArray⟩) w := by
  rcases h.2 with ⟨hv, h0⟩ | ⟨g, cap, cur, hv, hg, hh, r⟩
  · subst hv
    obtain rfl : acc = [] := List.eq_nil_of_length_eq_zero h0
    exact run_convert_bytes_nil w 22 5 Tryz.underlying22 Tryz.underlying5 0 0 9 Tryz.underlying9
  · subst hv
    refine run_convert_bytes_back w 22 9 5 ⟨g, 0, none⟩ cap acc Tryz.underlying22 Tryz.underlying5 Tryz.underlying9 fun j hj => ?_
    refine h.cells rfl j _ ?_
    simp [Lib.byteCells, List.getElem?_eq_getElem hj]

end Go.Proofs.YtndcmapifihgeaaGreatDoor.Ch
