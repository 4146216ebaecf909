/- Plain mathematics of layer 7, on: a tag that is written with quotes is read as it was written. Nothing of the program's text. -/
import Derived.Test.YtfnecdifaodamaaDoorTgStab
namespace Go.Proofs.YtfnecdifaodamaaDoor.Tg
open Go.Lib
open Ch (at0 nx nx_width nx_range at0_lt at0_drop enc_len nx_enc good nx_good enc_bytes enc_one)
open Kl (blankN greatN nameL)
open En (findL nmL findL_is)
open At (ads names)

/-- the quotes: " (34) or ' (39), and how one stands within a value -/
def qB (s : Bool) : UInt8 := if s then 39 else 34
def qE (s : Bool) : List UInt8 := if s then [38, 35, 51, 57, 59] else [38, 113, 117, 111, 116, 59]
/-- a value's byte, written -/
def wr1 (s : Bool) (b : UInt8) : List UInt8 := if b = 38 then [38, 97, 109, 112, 59] else if b = qB s then qE s else [b]
def wrV (s : Bool) (v : List UInt8) : List UInt8 := v.flatMap (wr1 s)
theorem wrV_append (s : Bool) (a b : List UInt8) : wrV s (a ++ b) = wrV s a ++ wrV s b := by simp [wrV]
theorem wrV_nil (s : Bool) : wrV s [] = [] := rfl

theorem amp_rd' (r : List UInt8) : rd ([38, 97, 109, 112, 59] ++ r) true = some ([38], 5) := amp_rd r true
set_option maxRecDepth 100000 in
theorem quot_rd (r : List UInt8) : rd ([38, 113, 117, 111, 116, 59] ++ r) true = some ([34], 6) := by
  have h : rd [38, 113, 117, 111, 116, 59] true = some ([34], 6) := by decide +kernel
  exact rd_front (b := [38, 113, 117, 111, 116, 59]) (e := 6) h (by decide)
set_option maxRecDepth 100000 in
theorem apos_rd (r : List UInt8) : rd ([38, 35, 51, 57, 59] ++ r) true = some ([39], 5) := by
  have h : rd [38, 35, 51, 57, 59] true = some ([39], 5) := by decide +kernel
  exact rd_front (b := [38, 35, 51, 57, 59]) (e := 5) h (by decide)
theorem qE_rd (s : Bool) (r : List UInt8) : rd (qE s ++ r) true = some ([qB s], (qE s).length) := by
  cases s
  · exact quot_rd r
  · exact apos_rd r

/-- a character's bytes, each written for itself: one of more bytes stays -/
theorem wr_enc (s : Bool) {c : Nat} (h : good c) : wrV s (encodeRune (c : Int)) = if c = 38 then [38, 97, 109, 112, 59] else if c = (qB s).toNat then qE s else encodeRune (c : Int) := by
  by_cases h1 : c ≤ 127
  · rw [enc_one c h1]
    have e : (((c : Int)).toNat.toUInt8).toNat = c := Ch.z8 _ c rfl (by omega)
    show wr1 s _ ++ [] = _
    rw [List.append_nil]
    unfold wr1
    by_cases h38 : c = 38
    · rw [if_pos h38, if_pos]
      apply UInt8.toNat_inj.1
      rw [e, h38]; rfl
    · rw [if_neg h38, if_neg (fun k => h38 (by rw [← e, k]; rfl))]
      by_cases hq : c = (qB s).toNat
      · rw [if_pos hq, if_pos]
        apply UInt8.toNat_inj.1
        rw [e, hq]
      · rw [if_neg hq, if_neg (fun k => hq (by rw [← e, k]))]
  · have hhi : ∀ b ∈ encodeRune (c : Int), 128 ≤ b.toNat := by
      intro b hb
      rcases Ch.good_cases h with k | k | k | k
      · omega
      · rw [Ch.enc_two c k.1 k.2] at hb
        simp only [List.mem_cons, List.mem_nil_iff, or_false] at hb
        rcases hb with rfl | rfl
        · rw [Ch.z8 _ (192 + c / 64) (by omega) (by omega)]; omega
        · rw [Ch.z8 _ (128 + c % 64) (by omega) (by omega)]; omega
      · rw [Ch.enc_three c k] at hb
        simp only [List.mem_cons, List.mem_nil_iff, or_false] at hb
        rcases hb with rfl | rfl | rfl
        · rw [Ch.z8 _ (224 + c / 4096) (by omega) (by omega)]; omega
        · rw [Ch.z8 _ (128 + c / 64 % 64) (by omega) (by omega)]; omega
        · rw [Ch.z8 _ (128 + c % 64) (by omega) (by omega)]; omega
      · rw [Ch.enc_four c k.1 k.2] at hb
        simp only [List.mem_cons, List.mem_nil_iff, or_false] at hb
        rcases hb with rfl | rfl | rfl | rfl
        · rw [Ch.z8 _ (240 + c / 262144) (by omega) (by omega)]; omega
        · rw [Ch.z8 _ (128 + c / 4096 % 64) (by omega) (by omega)]; omega
        · rw [Ch.z8 _ (128 + c / 64 % 64) (by omega) (by omega)]; omega
        · rw [Ch.z8 _ (128 + c % 64) (by omega) (by omega)]; omega
    have hq : (qB s).toNat < 128 := by cases s <;> decide
    rw [if_neg (by omega), if_neg (by omega)]
    have key : ∀ l : List UInt8, (∀ b ∈ l, 128 ≤ b.toNat) → wrV s l = l := by
      intro l hl
      induction l with
      | nil => rfl
      | cons b r ih =>
        have hb := hl b (by simp)
        show wr1 s b ++ wrV s r = _
        rw [ih (fun x hx => hl x (List.mem_cons_of_mem _ hx))]
        unfold wr1
        rw [if_neg (by rintro rfl; exact absurd hb (by decide)), if_neg (by rintro rfl; omega)]
        rfl
    exact key _ hhi

/-- a written value has itself as text -/
theorem txt_wr (s : Bool) {v : List UInt8} (h : Ch.Good v) : txt true (wrV s v) = v := by
  induction h with
  | nil => rfl
  | cons c m hc _ ih =>
    rw [wrV_append, wr_enc s hc]
    by_cases h38 : c = 38
    · rw [if_pos h38, txt_ref (amp_rd' _)]
      show [38] ++ txt true (wrV s m) = _
      rw [ih, h38]
      rfl
    · rw [if_neg h38]
      by_cases hq : c = (qB s).toNat
      · rw [if_pos hq, txt_ref (qE_rd s _), List.drop_left, ih]
        congr 1
        rw [hq, enc_one _ (by cases s <;> decide)]
        cases s <;> rfl
      · rw [if_neg hq]
        have hnx := nx_enc c (wrV s m) hc
        have hr : rd (encodeRune (c : Int) ++ wrV s m) true = none := by
          unfold rd
          rw [if_neg]
          intro e
          have := nx_low (m := encodeRune (c : Int) ++ wrV s m) (by omega) (by omega) (by omega)
          rw [hnx, e] at this
          simp only [Prod.mk.injEq] at this
          exact h38 this.1
        rw [txt_char (Ch.enc_ne _ _) hr, hnx]
        simp only [List.drop_left]
        rw [ih]

/-- no quote stands in a written value -/
theorem wr_noq (s : Bool) (v : List UInt8) : qB s ∉ wrV s v := by
  unfold wrV
  rw [List.mem_flatMap]
  rintro ⟨b, -, hb⟩
  unfold wr1 at hb
  split at hb
  · cases s <;> simp [qB] at hb
  · split at hb
    · cases s <;> simp [qB, qE] at hb
    · rename_i k
      simp at hb
      exact k hb.symm

/-- up to a byte that is not among them -/
theorem ov_upto (q : UInt8) (hq : q.toNat < 128) (h0 : q.toNat ≠ 0) (h10 : q.toNat ≠ 10) (h13 : q.toNat ≠ 13) (n : Nat) : ∀ (u x : List UInt8), u.length ≤ n → q ∉ u → ov (pQ q.toNat) (u ++ q :: x) = u.length := by
  have hs : ∀ x, Stops (q :: x) := fun x => ⟨hq, h10⟩
  have hz : ∀ x, nx (q :: x) = (q.toNat, 1) := fun x => nx_low (m := q :: x) hq h0 h13
  induction n with
  | zero =>
    intro u x h _
    obtain rfl : u = [] := List.eq_nil_of_length_eq_zero (by omega)
    rw [List.nil_append]
    exact (ov_stop (by rw [hz]; simp [pQ])).1
  | succ n ih =>
    intro u x h hn
    by_cases hu : u = []
    · subst hu
      exact ih [] x (Nat.zero_le _) (by simp)
    · have hw := nx_width u hu
      have e := nx_stops hu (hs x)
      have hc : pQ q.toNat (nx (u ++ q :: x)).1 = true := by
        rw [e]
        simp only [pQ, Bool.not_eq_true', beq_eq_false_iff_ne, ne_eq]
        intro k
        have := nx_is hq h10 k
        obtain ⟨b, r, rfl, hb⟩ := cons_of h0 this.1
        exact hn (by rw [UInt8.toNat_inj.1 hb]; simp)
      have hst := (ov_step (m := u ++ q :: x) (by simp) hc).1
      rw [e, List.drop_append_of_le_length hw.2.2] at hst
      rw [hst, ih (u.drop (nx u).2) x (by simp; omega) (fun k => hn (List.mem_of_mem_drop k))]
      simp
      omega

/-- an attribute, written: a blank, its name of two letters, an = between blanks, its value between quotes -/
def wrA (s : Bool) (i : Nat) (v : List UInt8) : List UInt8 := [32, 120, (97 + i).toUInt8, 32, 61, 32, qB s] ++ wrV s v ++ [qB s]

theorem nx_cons {b : UInt8} {r : List UInt8} (h : b.toNat < 128) (h0 : b.toNat ≠ 0) (h13 : b.toNat ≠ 13) : nx (b :: r) = (b.toNat, 1) := nx_low (m := b :: r) h h0 h13
theorem ov_cons_yes {p : Nat → Bool} {b : UInt8} {r : List UInt8} (h : b.toNat < 128) (h0 : b.toNat ≠ 0) (h13 : b.toNat ≠ 13) (hp : p b.toNat = true) : ov p (b :: r) = 1 + ov p r ∧ lw p (b :: r) = encodeRune ((lowN b.toNat : Nat) : Int) ++ lw p r := by
  have e := nx_cons (r := r) h h0 h13
  have := ov_step (p := p) (m := b :: r) (by simp) (by rw [e]; exact hp)
  rw [e] at this
  exact this
theorem ov_cons_no {p : Nat → Bool} {b : UInt8} {r : List UInt8} (h : b.toNat < 128) (h0 : b.toNat ≠ 0) (h13 : b.toNat ≠ 13) (hp : p b.toNat = false) : ov p (b :: r) = 0 ∧ lw p (b :: r) = [] :=
  ov_stop (by rw [nx_cons h h0 h13]; exact hp)
theorem hd_cons {b : UInt8} {r : List UInt8} (h : b.toNat < 128) (h0 : b.toNat ≠ 0) (h13 : b.toNat ≠ 13) : hd (b :: r) = b.toNat := by
  rw [hd_ne (by simp), nx_cons h h0 h13]
theorem let_nat {i : Nat} (hi : i < 10) : ((97 + i).toUInt8).toNat = 97 + i := Ch.u8_small (97 + i) (by omega)

theorem qB_nat (s : Bool) : (qB s).toNat = 34 ∨ (qB s).toNat = 39 := by cases s; exact Or.inl rfl; exact Or.inr rfl
theorem vl_wr (s : Bool) {v : List UInt8} (h : Ch.Good v) (R : List UInt8) : vl (qB s :: (wrV s v ++ qB s :: R)) = (v, 1 + (wrV s v).length + 1) := by
  have hq := qB_nat s
  have hh : hd (qB s :: (wrV s v ++ qB s :: R)) = (qB s).toNat := hd_cons (by omega) (by omega) (by omega)
  have hov := ov_upto (qB s) (by omega) (by omega) (by omega) (by omega) _ (wrV s v) R (Nat.le_refl _) (wr_noq s v)
  unfold vl
  rw [if_pos (by rw [hh]; exact hq), hh]
  show (txt true ((wrV s v ++ qB s :: R).take (ov (pQ (qB s).toNat) (wrV s v ++ qB s :: R))), 1 + ov (pQ (qB s).toNat) (wrV s v ++ qB s :: R) + wd ((qB s :: (wrV s v ++ qB s :: R)).drop (1 + ov (pQ (qB s).toNat) (wrV s v ++ qB s :: R)))) = _
  rw [hov, List.take_left, txt_wr s h, Nat.add_comm 1, List.drop_succ_cons, List.drop_left, wd_ne (by simp), nx_cons (by omega) (by omega) (by omega), Nat.add_comm _ 1]

theorem ab_wr (s : Bool) {i : Nat} (hi : i < 10) {v : List UInt8} (h : Ch.Good v) (R : List UInt8) :
    ab (120 :: (97 + i).toUInt8 :: 32 :: 61 :: 32 :: qB s :: (wrV s v ++ qB s :: R)) = (([120, (97 + i).toUInt8], v), 5 + (1 + (wrV s v).length + 1)) := by
  have hl := let_nat hi
  obtain ⟨M, hM⟩ : ∃ M, qB s :: (wrV s v ++ qB s :: R) = M := ⟨_, rfl⟩
  have hv := vl_wr s h R
  have hq := qB_nat s
  have hMh : ov blankN M = 0 := by
    rw [← hM]
    exact (ov_cons_no (by omega) (by omega) (by omega) (by unfold blankN; simp; omega)).1
  rw [hM] at hv ⊢
  have n0 : nx (120 :: (97 + i).toUInt8 :: 32 :: 61 :: 32 :: M) = (120, 1) := nx_cons (by decide) (by decide) (by decide)
  have o1 := ov_cons_yes (p := pAtt) (b := (97 + i).toUInt8) (r := 32 :: 61 :: 32 :: M) (by omega) (by omega) (by omega) (by rw [hl]; unfold pAtt blankN; simp; omega)
  have o2 := ov_cons_no (p := pAtt) (b := 32) (r := 61 :: 32 :: M) (by decide) (by decide) (by decide) (by decide)
  have e1 : a1 (120 :: (97 + i).toUInt8 :: 32 :: 61 :: 32 :: M) = 2 := by
    unfold a1
    rw [n0]
    show 1 + ov pAtt ((97 + i).toUInt8 :: 32 :: 61 :: 32 :: M) = 2
    rw [o1.1, o2.1]
  have eN : aN (120 :: (97 + i).toUInt8 :: 32 :: 61 :: 32 :: M) = [120, (97 + i).toUInt8] := by
    unfold aN
    rw [n0]
    show encodeRune ((lowN 120 : Nat) : Int) ++ lw pAtt ((97 + i).toUInt8 :: 32 :: 61 :: 32 :: M) = _
    rw [o1.2, o2.2, hl]
    have f1 : lowN (97 + i) = 97 + i := by unfold lowN greatN; rw [if_neg (by simp; omega)]
    have f2 : encodeRune ((lowN 120 : Nat) : Int) = [120] := by decide +kernel
    rw [f1, f2, enc_one _ (by omega)]
    rfl
  have e2 : a2 (120 :: (97 + i).toUInt8 :: 32 :: 61 :: 32 :: M) = 3 := by
    unfold a2
    rw [e1]
    show 2 + ov blankN (32 :: 61 :: 32 :: M) = 3
    rw [(ov_cons_yes (p := blankN) (b := 32) (by decide) (by decide) (by decide) (by decide)).1, (ov_cons_no (p := blankN) (b := 61) (by decide) (by decide) (by decide) (by decide)).1]
  have e3 : a3 (120 :: (97 + i).toUInt8 :: 32 :: 61 :: 32 :: M) = 5 := by
    unfold a3
    rw [e2]
    show 3 + 1 + ov blankN (32 :: M) = 5
    rw [(ov_cons_yes (p := blankN) (b := 32) (by decide) (by decide) (by decide) (by decide)).1, hMh]
  unfold ab
  rw [e2, e3, eN]
  show (if hd (61 :: 32 :: M) = 61 then (([120, (97 + i).toUInt8], (vl M).1), 5 + (vl M).2) else _) = _
  have hh : hd (61 :: 32 :: M) = 61 := hd_cons (b := 61) (by decide) (by decide) (by decide)
  rw [if_pos hh, hv]

/-- the attributes of a written tag -/
def wrL (s : Bool) : Nat → List (List UInt8) → List UInt8
  | _, [] => []
  | i, v :: r => wrA s i v ++ wrL s (i + 1) r
def nmL' : Nat → List (List UInt8) → List At.At
  | _, [] => []
  | i, v :: r => ([120, (97 + i).toUInt8], v) :: nmL' (i + 1) r

theorem wrA_len (s : Bool) (i : Nat) (v : List UInt8) : (wrA s i v).length = 8 + (wrV s v).length := by unfold wrA; simp; omega

theorem ats_wr (s : Bool) : ∀ (vs : List (List UInt8)) (i : Nat), i + vs.length ≤ 10 → (∀ v ∈ vs, Ch.Good v) → ats (wrL s i vs ++ [32, 47, 62]) = some (nmL' i vs, (wrL s i vs).length + 3)
  | [], _, _, _ => by
    have o1 := ov_cons_yes (p := pGap) (b := 32) (r := [47, 62]) (by decide) (by decide) (by decide) (by decide)
    have o2 := ov_cons_yes (p := pGap) (b := 47) (r := [62]) (by decide) (by decide) (by decide) (by decide)
    have o3 := ov_cons_no (p := pGap) (b := 62) (r := []) (by decide) (by decide) (by decide) (by decide)
    have eo : ov pGap [32, 47, 62] = 2 := by rw [o1.1, o2.1, o3.1]
    show ats [32, 47, 62] = _
    rw [ats_gt (by rw [eo]; exact hd_cons (by decide) (by decide) (by decide)), eo]
    rfl
  | v :: r, i, hi, hg => by
    have ih := ats_wr s r (i + 1) (by simp at hi; omega) (fun x hx => hg x (List.mem_cons_of_mem _ hx))
    have hi10 : i < 10 := by simp at hi; omega
    obtain ⟨R, hR⟩ : ∃ R, wrL s (i + 1) r ++ [32, 47, 62] = R := ⟨_, rfl⟩
    have e : wrL s i (v :: r) ++ [32, 47, 62] = 32 :: 120 :: (97 + i).toUInt8 :: 32 :: 61 :: 32 :: qB s :: (wrV s v ++ qB s :: R) := by
      rw [← hR]
      show (wrA s i v ++ wrL s (i + 1) r) ++ _ = _
      unfold wrA
      simp
    have hab := ab_wr s hi10 (hg v (by simp)) R
    obtain ⟨M, hM⟩ : ∃ M, 120 :: (97 + i).toUInt8 :: 32 :: 61 :: 32 :: qB s :: (wrV s v ++ qB s :: R) = M := ⟨_, rfl⟩
    have hMd : M.drop (5 + (1 + (wrV s v).length + 1)) = R := by
      rw [← hM, show 5 + (1 + (wrV s v).length + 1) = (wrV s v).length + 1 + 1 + 1 + 1 + 1 + 1 + 1 by omega]
      simp only [List.drop_succ_cons]
      rw [show (wrV s v).length + 1 = (wrV s v ++ [qB s]).length by simp, show wrV s v ++ qB s :: R = (wrV s v ++ [qB s]) ++ R by simp, List.drop_left]
    have hMh : hd M = 120 := by rw [← hM]; exact hd_cons (by decide) (by decide) (by decide)
    have o1 := ov_cons_yes (p := pGap) (b := 32) (r := M) (by decide) (by decide) (by decide) (by decide)
    have o2 : ov pGap M = 0 := by rw [← hM]; exact (ov_cons_no (by decide) (by decide) (by decide) (by decide)).1
    rw [hM] at hab
    have eo : ov pGap (32 :: M) = 1 := by rw [o1.1, o2]
    have hne : M ≠ [] := hd_pos (by omega)
    rw [e, hM, ats_more (m := 32 :: M) (by rw [eo]; exact hne) (by rw [eo]; show hd M ≠ 62; omega), eo]
    show (ats (M.drop (ab M).2)).map (fun p => ((ab M).1 :: p.1, 1 + (ab M).2 + p.2)) = _
    rw [hab]
    simp only
    rw [hMd, ← hR, ih]
    simp only [Option.map_some, nmL', Option.some.injEq, Prod.mk.injEq, true_and]
    show _ = (wrA s i v ++ wrL s (i + 1) r).length + 3
    rw [List.length_append, wrA_len]
    omega
end Go.Proofs.YtfnecdifaodamaaDoor.Tg
