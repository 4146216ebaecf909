/- Plain mathematics of layer 5, on: what stands behind a reference with a ; ; numbers that are written by their digits; bytes without & and bytes whose & are written as references. Nothing of the program's text. -/
import Derived.Test.YtndcmapifihgeaaGreatDoorMath
namespace Go.Proofs.YtndcmapifihgeaaGreatDoor
open Go.Lib
open Ch (at0 nx nx_width at0_lt at0_drop enc_len allN allN_nil allN_step allFrom)
open En (findL nmL nm_facts IsF findL_is findGo)

theorem numR_digits {base : Nat} : ∀ (m : List UInt8) (n : Nat) (j : Nat), j < (numR base m n).2 → hx (at0 m j) < base
  | [], _, j, h => absurd h (by simp [numR])
  | b :: r, n, j, h => by
    unfold numR at h
    split at h
    · rename_i hb
      cases j with
      | zero => exact hb
      | succ j => exact numR_digits r (min (n * base + hx b.toNat) 1114112) j (by simp only at h; omega)
    · simp at h

theorem numR_front {base : Nat} : ∀ (m : List UInt8) (n : Nat), at0 m (numR base m n).2 = 59 → ∀ r, numR base (m.take ((numR base m n).2 + 1) ++ r) n = numR base m n
  | [], n, h, r => absurd h (by show ¬ (0 : Nat) = 59; decide)
  | b :: t, n, h, r => by
    by_cases hb : hx b.toNat < base
    · have e : numR base (b :: t) n = ((numR base t (min (n * base + hx b.toNat) 1114112)).1, (numR base t (min (n * base + hx b.toNat) 1114112)).2 + 1) := if_pos hb
      rw [e] at h ⊢
      simp only at h ⊢
      have ih := numR_front t (min (n * base + hx b.toNat) 1114112) h r
      have e2 : (b :: t).take ((numR base t (min (n * base + hx b.toNat) 1114112)).2 + 1 + 1) ++ r = b :: (t.take ((numR base t (min (n * base + hx b.toNat) 1114112)).2 + 1) ++ r) := rfl
      rw [e2]
      show (if hx b.toNat < base then _ else _) = _
      rw [if_pos hb, ih]
    · have e : numR base (b :: t) n = (n, 0) := if_neg hb
      rw [e]
      exact if_neg hb

theorem at0_append {a r : List UInt8} {j : Nat} (h : j < a.length) : at0 (a ++ r) j = at0 a j := by
  unfold at0
  rw [List.getD_eq_getElem?_getD, List.getD_eq_getElem?_getD, List.getElem?_append_left h]
theorem at0_take {a : List UInt8} {j n : Nat} (h : j < n) : at0 (a.take n) j = at0 a j := by
  unfold at0
  rw [List.getD_eq_getElem?_getD, List.getD_eq_getElem?_getD, List.getElem?_take, if_pos h]
theorem at0_front {m r : List UInt8} {j n : Nat} (h : j < n) (hn : n ≤ m.length) : at0 (m.take n ++ r) j = at0 m j := by
  rw [at0_append (by simp; omega), at0_take h]
theorem drop_front {m r : List UInt8} {k n : Nat} (h : k ≤ n) (hn : n ≤ m.length) : (m.take n ++ r).drop k = (m.drop k).take (n - k) ++ r := by
  rw [List.drop_append_of_le_length (by simp; omega), List.drop_take]

theorem hx59 : hx 59 = 99 := rfl

theorem numM_front {m s r : List UInt8} {e : Nat} (h : numM m = some (s, e)) (h59 : at0 m (e - 1) = 59) : numM (m.take e ++ r) = some (s, e) := by
  have hbd := numM_bd h
  have hv := numV_le m
  unfold numM at h
  split at h
  · cases h
  · rename_i hz
    simp only [Option.some.injEq, Prod.mk.injEq] at h
    obtain ⟨rfl, he⟩ := h
    have hs : at0 m (kM m + (numV m).2) = 59 := by
      unfold semiN at he
      split at he
      · assumption
      · exfalso
        have hd := numR_digits (base := baseM m) (m.drop (kM m)) 0 ((numV m).2 - 1) (by unfold numV; unfold numV at hz; omega)
        rw [at0_drop, show kM m + ((numV m).2 - 1) = e - 1 by omega, h59, hx59] at hd
        unfold baseM at hd
        split at hd <;> omega
    have he' : e = kM m + (numV m).2 + 1 := by
      unfold semiN at he
      rw [if_pos hs] at he
      omega
    have hk : kM (m.take e ++ r) = kM m := by
      unfold kM; rw [at0_front (by omega) hbd.2.1]
    have hb : baseM (m.take e ++ r) = baseM m := by
      unfold baseM; rw [at0_front (by omega) hbd.2.1]
    have hN : numV (m.take e ++ r) = numV m := by
      have hs2 : at0 (m.drop (kM m)) (numR (baseM m) (m.drop (kM m)) 0).2 = 59 := by rw [at0_drop]; exact hs
      have hf := numR_front (base := baseM m) (m.drop (kM m)) 0 hs2 r
      have ee : e - kM m = (numR (baseM m) (m.drop (kM m)) 0).2 + 1 := by
        have : numV m = numR (baseM m) (m.drop (kM m)) 0 := rfl
        rw [← this]; omega
      unfold numV
      rw [hk, hb, drop_front (by omega) hbd.2.1, ee]
      exact hf
    unfold numM
    rw [hN, hk, if_neg hz]
    unfold semiN
    rw [at0_front (by omega) hbd.2.1, if_pos hs]
    rw [he']

theorem nm_semi : ∀ p ∈ nmL, p.1.dropLast.all (fun b => b != 59) = true := by decide

theorem prefix_at {p l : List UInt8} (h : p <+: l) {j : Nat} (hj : j < p.length) : at0 p j = at0 l j := by
  obtain ⟨t, rfl⟩ := h
  rw [at0_append hj]

theorem findL_front {m s r : List UInt8} {n : Nat} (h : findL m = (n, s)) (hn : 0 < n) (h59 : at0 m (n - 1) = 59) : findL (m.take n ++ r) = (n, s) := by
  have hi := findL_is m
  rw [h] at hi
  rcases hi with ⟨h0, -, -⟩ | ⟨h1, h2, h3⟩
  · simp only at h0; omega
  · simp only at h1 h2 h3
    refine (findL_is (m.take n ++ r)).one (Or.inr ⟨?_, ?_, ?_⟩)
    · rw [List.take_append_of_le_length (by simp; omega), List.take_take, Nat.min_self]
      exact h1
    · simp; omega
    · intro p hp hpre
      rcases Nat.lt_or_ge n p.1.length with hlt | hge
      · exfalso
        have e1 : at0 p.1 (n - 1) = 59 := by
          rw [prefix_at hpre (by omega), at0_front (by omega) h2, h59]
        have hall := nm_semi p hp
        rw [List.all_eq_true] at hall
        have hlen : n - 1 < p.1.dropLast.length := by simp; omega
        have hmem := hall (p.1.dropLast[n - 1]) (List.getElem_mem hlen)
        rw [List.getElem_dropLast] at hmem
        unfold at0 at e1
        rw [List.getD_eq_getElem?_getD, List.getElem?_eq_getElem (by omega)] at e1
        simp only [Option.getD_some] at e1
        have : p.1[n - 1] = 59 := UInt8.toNat_inj.1 e1
        rw [this] at hmem
        exact absurd hmem (by decide)
      · exact hge

theorem nameM_front {m s r : List UInt8} {e : Nat} {attr : Bool} (h : nameM m attr = some (s, e)) (h59 : at0 m (e - 1) = 59) : nameM (m.take e ++ r) attr = some (s, e) := by
  have hbd := nameM_bd h
  unfold nameM at h
  split at h
  · cases h
  · split at h
    · cases h
    · simp only [Option.some.injEq, Prod.mk.injEq] at h
      obtain ⟨rfl, rfl⟩ := h
      have hf := findL_front (m := m) (s := (findL m).2) (n := (findL m).1) (r := r) rfl (by omega) h59
      unfold nameM
      rw [hf]
      simp only
      rw [if_neg (by omega), if_neg]
      rintro ⟨⟨-, k⟩, -⟩
      rw [at0_front (by omega) hbd.2.1] at k
      exact k h59

/-- what stands behind a reference with a ; changes nothing of it -/
theorem rd_front {b s r : List UInt8} {e : Nat} {attr : Bool} (h : rd b attr = some (s, e)) (h59 : at0 b (e - 1) = 59) : rd (b.take e ++ r) attr = some (s, e) := by
  have hbd := rd_bd h
  unfold rd at h ⊢
  rw [at0_front (by omega) hbd.2.1, at0_front (by omega) hbd.2.1, drop_front (by omega) hbd.2.1, drop_front (by omega) hbd.2.1]
  split at h
  · rename_i h0
    rw [if_pos h0]
    split at h
    · rename_i h1
      rw [if_pos h1]
      unfold sh at h ⊢
      rw [Option.map_eq_some_iff] at h
      obtain ⟨⟨s', e'⟩, hn, he⟩ := h
      simp only [Prod.mk.injEq] at he
      obtain ⟨rfl, rfl⟩ := he
      rw [show 2 + e' - 2 = e' by omega, numM_front hn (by
        have := (numM_bd hn).1
        rw [at0_drop, show 2 + (e' - 1) = 2 + e' - 1 by omega]; exact h59)]
      rfl
    · rename_i h1
      rw [if_neg h1]
      unfold sh at h ⊢
      rw [Option.map_eq_some_iff] at h
      obtain ⟨⟨s', e'⟩, hn, he⟩ := h
      simp only [Prod.mk.injEq] at he
      obtain ⟨rfl, rfl⟩ := he
      rw [show 1 + e' - 1 = e' by omega, nameM_front hn (by
        have := (nameM_bd hn).1
        rw [at0_drop, show 1 + (e' - 1) = 1 + e' - 1 by omega]; exact h59)]
      rfl
  · cases h

/-! ### Numbers by their digits -/

/-- the digits as the law has them -/
def digs : List UInt8 := [48, 49, 50, 51, 52, 53, 54, 55, 56, 57, 97, 66, 99, 68, 101, 70]
theorem digs_val : ∀ d, d < 16 → hx (digs.getD d 0).toNat = d := by decide

/-- a digit more ahead -/
theorem numR_more {base k c : Nat} {ds tail : List UInt8} (hb : base ≤ 16) (hb0 : 0 < base) (hk : k ≤ 1114111) (h : numR base (ds ++ tail) k = (c, ds.length)) :
    numR base (digs.getD (k % base) 0 :: ds ++ tail) (k / base) = (c, (digs.getD (k % base) 0 :: ds).length) := by
  have hlt : k % base < base := Nat.mod_lt _ hb0
  have hv := digs_val (k % base) (by omega)
  rw [List.cons_append]
  unfold numR
  rw [if_pos (by rw [hv]; exact hlt), hv, show k / base * base + k % base = k by rw [Nat.mul_comm]; exact Nat.div_add_mod k base, Nat.min_eq_left (by omega), h]
  rfl

theorem numR_zero {base c : Nat} {ds tail : List UInt8} (hb0 : 0 < base) (h : numR base (ds ++ tail) 0 = (c, ds.length)) :
    numR base (48 :: 48 :: ds ++ tail) 0 = (c, ds.length + 2) := by
  have e : ∀ m : List UInt8, numR base (48 :: m) 0 = ((numR base m 0).1, (numR base m 0).2 + 1) := by
    intro m
    show (if hx (48 : UInt8).toNat < base then _ else _) = _
    rw [if_pos (by show 0 < base; exact hb0)]
    rw [show min (0 * base + hx (48 : UInt8).toNat) 1114112 = 0 by rw [Nat.zero_mul]; rfl]
  show numR base (48 :: (48 :: (ds ++ tail))) 0 = _
  rw [e, e, h]

/-- the tail: a ; or nothing -/
def tailL (q : Bool) : List UInt8 := if q then [59] else []
theorem numR_tail (base c : Nat) (q : Bool) (hb : base ≤ 16) : numR base (tailL q) c = (c, 0) := by
  cases q with
  | false => rfl
  | true => exact if_neg (by show ¬ 99 < base; omega)

/-- the whole, as the law writes it -/
def wrL (p q : Bool) (ds : List UInt8) : List UInt8 := (if p then [38, 35, 120] else [38, 35]) ++ ([48, 48] ++ ds) ++ tailL q

theorem semi_tail {a : List UInt8} (q : Bool) : semiN (a ++ tailL q) a.length = (tailL q).length := by
  unfold semiN tailL
  cases q with
  | false => simp [at0_out]
  | true =>
    have : at0 (a ++ [59]) a.length = 59 := by
      unfold at0
      simp
    rw [if_pos rfl, this]
    rfl

theorem rd_wr (p q : Bool) (ds : List UInt8) (c : Nat) (h : numR (if p then 16 else 10) (ds ++ tailL q) 0 = (c, ds.length)) :
    rd (wrL p q ds) true = some (encodeRune (pt (c : Int) : Int), (wrL p q ds).length) := by
  cases p with
  | false =>
    have e : wrL false q ds = 38 :: 35 :: (48 :: 48 :: ds ++ tailL q) := by simp [wrL]
    rw [e]
    have hN : numV (48 :: 48 :: ds ++ tailL q) = (c, ds.length + 2) := numR_zero (base := 10) (by decide) h
    have hk : kM (48 :: 48 :: ds ++ tailL q) = 0 := rfl
    show (if (38 : Nat) = 38 then (if (35 : Nat) = 35 then sh 2 (numM (48 :: 48 :: ds ++ tailL q)) else _) else _) = _
    rw [if_pos rfl, if_pos rfl]
    unfold numM
    rw [hN, hk, if_neg (by simp)]
    have hs : semiN (48 :: 48 :: ds ++ tailL q) (0 + (ds.length + 2)) = (tailL q).length := by
      rw [Nat.zero_add]; exact semi_tail (a := 48 :: 48 :: ds) q
    rw [hs]
    simp [sh]
    omega
  | true =>
    have e : wrL true q ds = 38 :: 35 :: (120 :: (48 :: 48 :: ds ++ tailL q)) := by simp [wrL]
    rw [e]
    have hN : numV (120 :: (48 :: 48 :: ds ++ tailL q)) = (c, ds.length + 2) := numR_zero (base := 16) (by decide) h
    have hk : kM (120 :: (48 :: 48 :: ds ++ tailL q)) = 1 := rfl
    show (if (38 : Nat) = 38 then (if (35 : Nat) = 35 then sh 2 (numM (120 :: (48 :: 48 :: ds ++ tailL q))) else _) else _) = _
    rw [if_pos rfl, if_pos rfl]
    unfold numM
    rw [hN, hk, if_neg (by simp)]
    have hs : semiN (120 :: (48 :: 48 :: ds ++ tailL q)) (1 + (ds.length + 2)) = (tailL q).length := by
      rw [Nat.add_comm]; exact semi_tail (a := 120 :: 48 :: 48 :: ds) q
    rw [hs]
    simp [sh]
    omega
end Go.Proofs.YtndcmapifihgeaaGreatDoor

/- Plain mathematics of layer 5, on: bytes without & and bytes whose & are written as references. Nothing of the program's text. -/
namespace Go.Proofs.YtndcmapifihgeaaGreatDoor
open Go.Lib
open Ch (at0 nx nx_width at0_lt at0_drop enc_len allN allN_nil allN_step allFrom)
open En (findL nmL nm_facts IsF findL_is findGo)

/-- all characters of a list -/
def all0 (m : List UInt8) : List UInt8 := allN m m.length
theorem all0_nil : all0 [] = [] := allN_nil _
theorem all0_step {m : List UInt8} (h : m ≠ []) : all0 m = encodeRune ((nx m).1 : Int) ++ all0 (m.drop (nx m).2) := by
  unfold all0
  rw [allN_step m m.length h (List.length_pos_iff.2 h), List.length_drop]
theorem all0_from (l : List UInt8) : allFrom l 0 (l.length : Int) = all0 l := by
  unfold allFrom all0
  by_cases h : l = []
  · subst h; rfl
  · have := List.length_pos_iff.2 h
    rw [if_pos (by omega)]
    simp

/-- bytes without & -/
theorem txt_plain (attr : Bool) (n : Nat) : ∀ m : List UInt8, m.length ≤ n → (∀ b ∈ m, b ≠ 38) → txt attr m = all0 m := by
  induction n with
  | zero => intro m h _; obtain rfl : m = [] := List.eq_nil_of_length_eq_zero (by omega); rfl
  | succ n ih =>
    intro m h hp
    by_cases hm : m = []
    · subst hm; rfl
    · have hr : rd m attr = none := by
        unfold rd
        rw [if_neg]
        cases m with
        | nil => exact absurd rfl hm
        | cons b t =>
          intro e
          exact hp b List.mem_cons_self (UInt8.toNat_inj.1 e)
      have hw := nx_width m hm
      rw [txt_char hm hr, all0_step hm, ih (m.drop (nx m).2) (by simp; omega) (fun b hb => hp b (List.mem_of_mem_drop hb))]

/-- & written as a reference -/
def esc1 (b : UInt8) : List UInt8 := if b = 38 then [38, 97, 109, 112, 59] else [b]
def esc (l : List UInt8) : List UInt8 := l.flatMap esc1
def pln (l : List UInt8) : List UInt8 := l.filter (fun b => b != 38)

theorem pln_mem (l : List UInt8) : ∀ b ∈ pln l, b ≠ 38 := by
  intro b hb
  have := (List.mem_filter.1 hb).2
  simpa using this

theorem esc_cons (b : UInt8) (l : List UInt8) : esc (b :: l) = esc1 b ++ esc l := rfl
theorem esc_append (a b : List UInt8) : esc (a ++ b) = esc a ++ esc b := by simp [esc]
theorem esc_plain : ∀ u : List UInt8, (∀ b ∈ u, b ≠ 38) → esc u = u
  | [], _ => rfl
  | b :: t, h => by
    rw [esc_cons, esc_plain t (fun x hx => h x (List.mem_cons_of_mem _ hx))]
    unfold esc1
    rw [if_neg (h b List.mem_cons_self)]
    rfl

/-- what is no part of a character that began ahead -/
def Stops (x : List UInt8) : Prop := at0 x 0 < 128 ∧ at0 x 0 ≠ 10

theorem decodeN_eq {N n a b c d b' c' d' : Nat} (h1 : (1 < N ∧ b' / 64 = 2) ↔ (1 < n ∧ b / 64 = 2)) (e1 : (1 < n ∧ b / 64 = 2) → b' = b)
    (h2 : (1 < n ∧ b / 64 = 2) → ((2 < N ∧ c' / 64 = 2) ↔ (2 < n ∧ c / 64 = 2))) (e2 : (1 < n ∧ b / 64 = 2) → (2 < n ∧ c / 64 = 2) → c' = c)
    (h3 : (1 < n ∧ b / 64 = 2) → (2 < n ∧ c / 64 = 2) → ((3 < N ∧ d' / 64 = 2) ↔ (3 < n ∧ d / 64 = 2))) (e3 : (1 < n ∧ b / 64 = 2) → (2 < n ∧ c / 64 = 2) → (3 < n ∧ d / 64 = 2) → d' = d) :
    decodeN N a b' c' d' = decodeN n a b c d := by
  by_cases p1 : 1 < n ∧ b / 64 = 2
  · have q1 := h1.2 p1
    obtain rfl := e1 p1
    by_cases p2 : 2 < n ∧ c / 64 = 2
    · have q2 := (h2 p1).2 p2
      obtain rfl := e2 p1 p2
      by_cases p3 : 3 < n ∧ d / 64 = 2
      · have q3 := (h3 p1 p2).2 p3
        obtain rfl := e3 p1 p2 p3
        unfold decodeN
        simp only [eq_true p1, eq_true q1, eq_true p2, eq_true q2, eq_true p3, eq_true q3]
      · have q3 : ¬ (3 < N ∧ d' / 64 = 2) := fun k => p3 ((h3 p1 p2).1 k)
        unfold decodeN
        simp only [eq_true p1, eq_true q1, eq_true p2, eq_true q2, eq_false p3, eq_false q3, and_false, if_false]
    · have q2 : ¬ (2 < N ∧ c' / 64 = 2) := fun k => p2 ((h2 p1).1 k)
      unfold decodeN
      simp only [eq_true p1, eq_true q1, eq_false p2, eq_false q2, and_false, false_and, if_false]
  · have q1 : ¬ (1 < N ∧ b' / 64 = 2) := fun k => p1 (h1.1 k)
    unfold decodeN
    simp only [eq_false p1, eq_false q1, and_false, false_and, if_false]

theorem at0_past {u x : List UInt8} : at0 (u ++ x) u.length = at0 x 0 := by
  unfold at0
  rw [List.getD_eq_getElem?_getD, List.getD_eq_getElem?_getD, List.getElem?_append_right (Nat.le_refl _), Nat.sub_self]

set_option maxRecDepth 100000 in
/-- a character doesn't hang on what stands behind a byte that stops it -/
theorem nx_stops {u x : List UInt8} (hu : u ≠ []) (hx : Stops x) : nx (u ++ x) = nx u := by
  have hlen := List.length_pos_iff.2 hu
  have hl : (u ++ x).length = u.length + x.length := List.length_append
  have e0 : at0 (u ++ x) 0 = at0 u 0 := at0_append hlen
  obtain ⟨z1, z2⟩ := hx
  have hp := at0_past (u := u) (x := x)
  unfold nx
  rw [e0]
  by_cases h0 : at0 u 0 = 0
  · rw [if_pos h0, if_pos h0]
  rw [if_neg h0, if_neg h0]
  by_cases h13 : at0 u 0 = 13
  · rw [if_pos h13, if_pos h13]
    by_cases h1 : u.length = 1
    · rw [h1] at hp
      rw [if_neg (by omega), if_neg (by omega)]
    · have e1 : at0 (u ++ x) 1 = at0 u 1 := at0_append (by omega)
      rw [e1]
      by_cases h10 : at0 u 1 = 10
      · rw [if_pos (by omega), if_pos (by omega)]
      · rw [if_neg (by omega), if_neg (by omega)]
  rw [if_neg h13, if_neg h13]
  have f1 : 1 < u.length → at0 (u ++ x) 1 = at0 u 1 := fun h => at0_append h
  have f2 : 2 < u.length → at0 (u ++ x) 2 = at0 u 2 := fun h => at0_append h
  have f3 : 3 < u.length → at0 (u ++ x) 3 = at0 u 3 := fun h => at0_append h
  have g1 : u.length = 1 → at0 (u ++ x) 1 = at0 x 0 := fun h => by rw [← hp, h]
  have g2 : u.length = 2 → at0 (u ++ x) 2 = at0 x 0 := fun h => by rw [← hp, h]
  have g3 : u.length = 3 → at0 (u ++ x) 3 = at0 x 0 := fun h => by rw [← hp, h]
  rw [hl]
  clear hp e0 h0 h13 hl hu
  generalize at0 (u ++ x) 1 = B1 at f1 g1 ⊢
  generalize at0 (u ++ x) 2 = B2 at f2 g2 ⊢
  generalize at0 (u ++ x) 3 = B3 at f3 g3 ⊢
  apply decodeN_eq
  · constructor
    · rintro ⟨k1, k2⟩
      rcases Nat.lt_or_ge 1 u.length with k | k
      · rw [f1 k] at k2; exact ⟨k, k2⟩
      · have := g1 (by omega); omega
    · rintro ⟨k1, k2⟩
      rw [f1 k1]; exact ⟨by omega, k2⟩
  · rintro ⟨k1, -⟩; exact f1 k1
  · rintro ⟨k0, -⟩
    constructor
    · rintro ⟨k1, k2⟩
      rcases Nat.lt_or_ge 2 u.length with k | k
      · rw [f2 k] at k2; exact ⟨k, k2⟩
      · have := g2 (by omega); omega
    · rintro ⟨k1, k2⟩
      rw [f2 k1]; exact ⟨by omega, k2⟩
  · rintro - ⟨k1, -⟩; exact f2 k1
  · rintro - ⟨k0, -⟩
    constructor
    · rintro ⟨k1, k2⟩
      rcases Nat.lt_or_ge 3 u.length with k | k
      · rw [f3 k] at k2; exact ⟨k, k2⟩
      · have := g3 (by omega); omega
    · rintro ⟨k1, k2⟩
      rw [f3 k1]; exact ⟨by omega, k2⟩
  · rintro - - ⟨k1, -⟩; exact f3 k1

/-- the front of a list without & -/
theorem split_amp : ∀ b : List UInt8, ∃ u v : List UInt8, b = u ++ v ∧ (∀ x ∈ u, x ≠ 38) ∧ (v = [] ∨ ∃ v', v = 38 :: v')
  | [] => ⟨[], [], rfl, fun x hx => absurd hx (by simp), Or.inl rfl⟩
  | b :: t => by
    by_cases h : b = 38
    · exact ⟨[], b :: t, rfl, fun x hx => absurd hx (by simp), Or.inr ⟨t, by rw [h]⟩⟩
    · obtain ⟨u, v, e, hu, hv⟩ := split_amp t
      refine ⟨b :: u, v, by rw [e]; rfl, ?_, hv⟩
      intro x hx
      rcases List.mem_cons.1 hx with rfl | hx
      · exact h
      · exact hu x hx

theorem amp_name : (([97, 109, 112, 59] : List UInt8), ([38] : List UInt8)) ∈ nmL := by decide
theorem amp_find (r : List UInt8) : findL ([97, 109, 112, 59] ++ r) = (4, [38]) := by
  have h : findL [97, 109, 112, 59] = (4, [38]) := by decide +kernel
  exact findL_front (m := [97, 109, 112, 59]) (s := [38]) (n := 4) h (by decide) (by decide)

theorem amp_rd (r : List UInt8) (attr : Bool) : rd ([38, 97, 109, 112, 59] ++ r) attr = some ([38], 5) := by
  show (if (38 : Nat) = 38 then (if (97 : Nat) = 35 then _ else sh 1 (nameM ([97, 109, 112, 59] ++ r) attr)) else _) = _
  rw [if_pos rfl, if_neg (by decide)]
  unfold nameM
  rw [amp_find]
  simp only
  rw [if_neg (by decide), if_neg]
  · rfl
  · rintro ⟨⟨-, k⟩, -⟩
    exact k rfl

/-- a text whose & are written as references has itself as text -/
theorem txt_esc (attr : Bool) (n : Nat) : ∀ b : List UInt8, b.length ≤ n → txt attr (esc b) = all0 b := by
  induction n with
  | zero => intro b h; obtain rfl : b = [] := List.eq_nil_of_length_eq_zero (by omega); rfl
  | succ n ih =>
    intro b h
    cases b with
    | nil => rfl
    | cons c t =>
      by_cases hc : c = 38
      · subst hc
        have e : esc (38 :: t) = [38, 97, 109, 112, 59] ++ esc t := rfl
        rw [e, txt_ref (amp_rd (esc t) attr), all0_step (by simp)]
        have hn : nx (38 :: t) = (38, 1) := by
          have h0 : at0 (38 :: t) 0 = 38 := rfl
          unfold nx
          rw [h0, if_neg (by decide), if_neg (by decide)]
          unfold decodeN
          exact if_pos (by decide)
        rw [hn]
        have hd : ([38, 97, 109, 112, 59] ++ esc t).drop 5 = esc t := rfl
        rw [hd, ih t (by simp at h; omega)]
        rfl
      · obtain ⟨u, v, e, hu, hv⟩ := split_amp (c :: t)
        have hne : u ≠ [] := by
          rintro rfl
          rcases hv with rfl | ⟨v', rfl⟩
          · cases e
          · simp at e; exact hc e.1
        have hs1 : Stops v := by
          rcases hv with rfl | ⟨v', rfl⟩
          · exact ⟨by decide, by decide⟩
          · exact ⟨by show 38 < 128; decide, by show 38 ≠ 10; decide⟩
        have hs2 : Stops (esc v) := by
          rcases hv with rfl | ⟨v', rfl⟩
          · exact ⟨by decide, by decide⟩
          · exact ⟨by show 38 < 128; decide, by show 38 ≠ 10; decide⟩
        have ee : esc (c :: t) = u ++ esc v := by rw [e, esc_append, esc_plain u hu]
        have hw := nx_width u hne
        have hr : rd (u ++ esc v) attr = none := by
          unfold rd
          rw [if_neg]
          rw [at0_append (List.length_pos_iff.2 hne)]
          cases u with
          | nil => exact absurd rfl hne
          | cons b r =>
            intro k
            exact hu b List.mem_cons_self (UInt8.toNat_inj.1 k)
        rw [ee, txt_char (by simp [hne]) hr, nx_stops hne hs2, all0_step (m := c :: t) (by simp), e, nx_stops hne hs1]
        rw [List.drop_append_of_le_length hw.2.2, List.drop_append_of_le_length hw.2.2]
        have hb : u.drop (nx u).2 ++ esc v = esc (u.drop (nx u).2 ++ v) := by
          rw [esc_append, esc_plain (u.drop (nx u).2) (fun x hx => hu x (List.mem_of_mem_drop hx))]
        rw [hb, ih]
        have := congrArg List.length e
        simp at this h ⊢
        omega

/-- one byte more -/
theorem esc_snoc (l : List UInt8) (b : UInt8) : esc (l ++ [b]) = esc l ++ esc1 b := by
  rw [esc_append]; simp [esc]
theorem pln_snoc (l : List UInt8) (b : UInt8) : pln (l ++ [b]) = pln l ++ (if b = 38 then [] else [b]) := by
  unfold pln
  rw [List.filter_append]
  congr 1
  by_cases h : b = 38
  · subst h; rfl
  · rw [if_neg h]; simp [h]
theorem esc_len (l : List UInt8) : (esc l).length ≤ 5 * l.length := by
  induction l with
  | nil => simp [esc]
  | cons b t ih =>
    rw [esc_cons, List.length_append, List.length_cons]
    have : (esc1 b).length ≤ 5 := by unfold esc1; split <;> simp
    omega
theorem pln_len (l : List UInt8) : (pln l).length ≤ l.length := List.length_filter_le _ _
end Go.Proofs.YtndcmapifihgeaaGreatDoor
