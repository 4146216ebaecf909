/- The reference's layer 8, walked: here, close, Read. -/
import Derived.Test.YtndcmapifihgeaaGreatDoorTkMath
import Derived.Test.YtndcmapifihgeaaGreatDoorMkRead
import Derived.Test.YtndcmapifihgeaaGreatDoorRwRe
import Derived.Test.YtndcmapifihgeaaGreatDoorKlHex
namespace Go.Proofs.YtndcmapifihgeaaGreatDoor.Tk
open Go.RowKit Go.Lib
open Ch (at0 at0_drop)
open Mk (Sl Cells fits bfr gtE coE hit kd ln cln isDty bogusEnd dty smallL)

variable {l : List UInt8} {a : Option Addr} {cap i : Nat} {w w' : World}

set_option maxHeartbeats 1000000 in
set_option maxRecDepth 100000 in
theorem here_any (p : List UInt8) (i : Nat) (w : World) (hs : Sl l a cap w) (hl : l.length ≤ 1000000) (hp : 0 < p.length) (hp2 : p.length ≤ 10) (hi : i ≤ 1000010) :
    Calls Tryz.prog 42 #[.slice a l.length cap, .int .i64 (i : Int), .string ⟨p.toArray⟩] w fun e w' => e = .returned (.bool (fits p (l.drop i))) ∧ w = w' := by
  by_cases h : i + p.length ≤ l.length
  · obtain ⟨hcap, h2 | ⟨b, off, rfl, hc⟩⟩ := hs
    · subst h2; rw [List.length_nil] at h; omega
    have hx := Mk.string_cells (cap := cap - i) ((hc.drop i).take p.length) (n := p.length) (by rw [List.length_take, List.length_drop]; omega)
    rw [Mk.fits_take (by rw [List.length_drop]; omega)]
    generalize hT : (l.drop i).take p.length = T at hx ⊢
    have h1 : (i : Int) + (p.length : Int) ≤ (l.length : Int) := by omega
    have h2 : i < cap := by omega
    have h3 : i + p.length ≤ cap := by omega
    have hsz : (⟨p.toArray⟩ : ByteArray).size = p.length := Mk.str_size p
    clear hT hc
    go_enter Tryz.func42, Tryz.ntmps42
    go_wp2
    go_ret
    exact ⟨Mk.ret_bool (by rw [Bool.eq_iff_iff]; simp), rfl⟩
  · have hf : fits p (l.drop i) = false := Mk.fits_short (by rw [List.length_drop]; omega)
    rw [hf]
    have h1 : ¬ ((i : Int) + (p.length : Int) ≤ (l.length : Int)) := by omega
    have hsz : (⟨p.toArray⟩ : ByteArray).size = p.length := Mk.str_size p
    clear h hf
    go_enter Tryz.func42, Tryz.ntmps42
    go_wp2
    go_ret
    exact ⟨rfl, rfl⟩

set_option maxHeartbeats 1000000 in
set_option maxRecDepth 100000 in
theorem close_any (i : Nat) (w : World) (hs : Sl l a cap w) (hl : l.length ≤ 1000000) (hi : i ≤ l.length) :
    Calls Tryz.prog 44 #[.slice a l.length cap, .int .i64 (i : Int)] w fun e w' => e = .returned (.int .i64 ((i + bfr gtE (l.drop i) : Nat) : Int)) ∧ w = w' := by
  obtain ⟨E, hE⟩ : ∃ E, i + bfr gtE (l.drop i) = E := ⟨_, rfl⟩
  rw [hE]
  by_cases hi2 : l.length = i
  · have hE2 : E = l.length := by rw [← hE, ← hi2]; exact Mk.bfr_none l
    subst hi2
    subst hE2
    clear hE
    go_enter Tryz.func44, Tryz.ntmps44
    go_wp2
    go_loopw [1] (fun v wr => v = .int .i64 (l.length : Int) ∧ wr = w) (fun _ _ => 0)
    case atStart => exact ⟨rfl, rfl⟩
    case round =>
      obtain ⟨rfl, rfl⟩ := hrel
      go_wp2
      go_ret
      exact ⟨rfl, rfl⟩
  obtain ⟨hcap, h2 | ⟨b, off, rfl, hc⟩⟩ := hs
  · subst h2; rw [List.length_nil] at hi hi2; omega
  have HC := Lib.hid hc
  clear hc
  go_enter Tryz.func44, Tryz.ntmps44
  go_wp2
  go_loopw [1] (fun v wr => ∃ j : Nat, v = .int .i64 (j : Int) ∧ j ≤ l.length ∧ j + bfr gtE (l.drop j) = E ∧ wr = w) (fun v _ => l.length - (RowKit.intOf v).toNat)
  case atStart => exact ⟨i, rfl, hi, hE, rfl⟩
  case round =>
    obtain ⟨j, rfl, hj, hj2, rfl⟩ := hrel
    by_cases hlt : j < l.length
    · have hlt1 : (j : Int) < (l.length : Int) := by omega
      have hcell : wr.cell? ⟨b, off + j, none⟩ = some (.int .u8 ((at0 l j : Nat) : Int)) := HC.out j hlt
      have hst := Mk.bfr_step (s := l) (i := j) hlt
      rw [hj2] at hst
      change E = if at0 l j = 62 then j + 1 else j + 1 + bfr gtE (l.drop (j + 1)) at hst
      generalize at0 l j = A at *
      by_cases h62 : A = 62
      · rw [if_pos h62] at hst
        have h63 : ((A : Nat) : Int) = 62 := by omega
        subst hst
        clear h62 hj2 hE
        go_wp2
        go_ret
        exact ⟨by first | rfl | (refine Mk.ret_int ?_; omega), rfl⟩
      · rw [if_neg h62] at hst
        have h63 : ¬ (((A : Nat) : Int) = 62) := by omega
        have HST := Lib.hid hst.symm
        clear h62 hj2 hst
        go_wp2
        go_roundw
        case rel => exact ⟨j + 1, by go_num, by omega, HST.out, by first | trivial | rfl⟩
        case measure => simp [RowKit.intOf]; omega
    · have hlt1 : ¬ ((j : Int) < (l.length : Int)) := by omega
      obtain rfl : j = l.length := by omega
      rw [Mk.bfr_none] at hj2
      subst hj2
      clear hE
      go_wp2
      go_ret
      exact ⟨rfl, rfl⟩

/-! ### what the reference answers -/
/-- the letters of a doctype behind its front -/
def isD7 (m : List UInt8) : Bool := decide (9 ≤ m.length) && decide (smallL ((m.drop 2).take 7) = [100, 111, 99, 116, 121, 112, 101])
def rk (m : List UInt8) : Nat × Nat :=
  if fits [60] m = false then (0, 0)
  else if fits [60, 33, 45, 45] m then (1, cln m)
  else if fits [60, 33] m then (if isD7 m then (2, 2 + bfr gtE (m.drop 2)) else (3, 2 + bfr gtE (m.drop 2)))
  else if fits [60, 63] m then (3, 2 + bfr gtE (m.drop 2))
  else if fits [60, 47, 62] m then (4, 3)
  else if bogusEnd m then (3, 2 + bfr gtE (m.drop 2))
  else (0, 0)

theorem d7_dty {m : List UInt8} (h : fits [60, 33] m = true) : isDty m = isD7 m := by
  have ht := Mk.two_of h (by decide)
  match m, ht with
  | x :: y :: r, ht =>
    have e0 : x = 60 := UInt8.toNat_inj.1 ht.2.1
    have e1 : y = 33 := UInt8.toNat_inj.1 ht.2.2
    subst e0 e1
    unfold isDty isD7
    have q1 : smallL ((60 :: 33 :: r).take 9) = 60 :: 33 :: smallL (r.take 7) := rfl
    rw [q1]
    have q2 : ((60 :: 33 :: r : List UInt8).drop 2).take 7 = r.take 7 := rfl
    rw [q2, Bool.eq_iff_iff]
    simp only [beq_iff_eq, Bool.and_eq_true, decide_eq_true_eq]
    constructor
    · intro e
      have e' : smallL (r.take 7) = [100, 111, 99, 116, 121, 112, 101] := by
        unfold dty at e
        injection e with _ e
        injection e with _ e
      refine ⟨?_, e'⟩
      have := congrArg List.length e'
      rw [Mk.smallL_length, List.length_take] at this
      simp at this ⊢
      omega
    · rintro ⟨_, e⟩
      rw [e]
      rfl

/-- no > among a doctype's letters -/
theorem d7_gt {m : List UInt8} (h : isDty m = true) : 2 + bfr gtE (m.drop 2) = 9 + bfr gtE (m.drop 9) := by
  have hl := (Mk.dty_head h).1
  have no : ∀ j, j < 9 → at0 m j ≠ 62 := fun j hj e => by
    have := dty_no (m := m) hj e
    rw [this] at h
    cases h
  have step : ∀ j, j < 9 → j + bfr gtE (m.drop j) = j + 1 + bfr gtE (m.drop (j + 1)) := fun j hj => by
    have := Mk.bfr_step (s := m) (i := j) (by omega)
    have this : j + bfr gtE (m.drop j) = if at0 m j = 62 then j + 1 else j + 1 + bfr gtE (m.drop (j + 1)) := this
    rw [if_neg (no j hj)] at this
    exact this
  have s2 := step 2 (by omega)
  have s3 := step 3 (by omega)
  have s4 := step 4 (by omega)
  have s5 := step 5 (by omega)
  have s6 := step 6 (by omega)
  have s7 := step 7 (by omega)
  have s8 := step 8 (by omega)
  simp only [Nat.reduceAdd] at s2 s3 s4 s5 s6 s7 s8
  omega

theorem fits_one {p : List UInt8} {q m : List UInt8} (hp : p = 60 :: q) (h : fits p m = true) : fits [60] m = true := by
  subst hp
  cases m with
  | nil => have := Mk.fits_len h; simp at this
  | cons c r =>
    have hc : (60 == c && List.isPrefixOf q r) = true := h
    rw [Bool.and_eq_true] at hc
    show (60 == c && List.isPrefixOf [] r) = true
    rw [hc.1]
    simp

theorem rk_eq (m : List UInt8) : rk m = (kd m, if kd m = 0 then 0 else ln m (kd m)) := by
  unfold rk
  by_cases f0 : fits [60] m = false
  · rw [if_pos f0]
    have k0 : kd m = 0 := by
      unfold kd
      have n : ∀ q, fits (60 :: q) m = false := fun q => by
        cases hf : fits (60 :: q) m with
        | false => rfl
        | true => rw [fits_one rfl hf] at f0; cases f0
      have nd : isDty m = false := by
        cases hd : isDty m with
        | false => rfl
        | true =>
          have hh := Mk.dty_head hd
          have : fits [60, 33] m = true := Mk.fits_iff.2 ⟨by simp; omega, fun j hj => by
            rcases (by simp at hj; omega : j = 0 ∨ j = 1) with rfl | rfl
            · exact hh.2.1
            · exact hh.2.2⟩
          rw [n] at this
          cases this
      have nb : bogusEnd m = false := by unfold bogusEnd; rw [n]; rfl
      rw [n, nd, n, n, n, nb]
      rfl
    rw [k0]; rfl
  · rw [if_neg f0]
    unfold kd
    by_cases f1 : fits [60, 33, 45, 45] m = true
    · simp only [if_pos f1]; rfl
    · simp only [if_neg f1]
      by_cases f2 : fits [60, 33] m = true
      · simp only [if_pos f2]
        rw [← d7_dty f2]
        have f3 : fits [60, 47, 62] m = false := by
          cases hf : fits [60, 47, 62] m with
          | false => rfl
          | true =>
            have e1 := (Mk.two_of hf (by decide)).2.2
            have e2 := (Mk.two_of f2 (by decide)).2.2
            rw [e1] at e2
            exact absurd e2 (by decide)
        by_cases fd : isDty m = true
        · simp only [if_pos fd]
          rw [d7_gt fd]
          rfl
        · simp only [if_neg fd, f3]
          rfl
      · simp only [if_neg f2]
        have fd : isDty m = false := by
          cases hd : isDty m with
          | false => rfl
          | true =>
            have hh := Mk.dty_head hd
            exact absurd (Mk.fits_iff.2 ⟨by simp; omega, fun j hj => by
              rcases (by simp at hj; omega : j = 0 ∨ j = 1) with rfl | rfl
              · exact hh.2.1
              · exact hh.2.2⟩) f2
        rw [fd]
        by_cases f5 : fits [60, 63] m = true
        · have f3 : fits [60, 47, 62] m = false := by
            cases hf : fits [60, 47, 62] m with
            | false => rfl
            | true =>
              have e1 := (Mk.two_of hf (by decide)).2.2
              have e2 := (Mk.two_of f5 (by decide)).2.2
              rw [e1] at e2
              exact absurd e2 (by decide)
          simp only [if_pos f5, f3]
          rfl
        · simp only [if_neg f5]
          by_cases f3 : fits [60, 47, 62] m = true
          · simp only [if_pos f3]; rfl
          · simp only [if_neg f3]
            by_cases f6 : bogusEnd m = true
            · simp only [if_pos f6]; rfl
            · simp only [if_neg f6]; rfl
end Go.Proofs.YtndcmapifihgeaaGreatDoor.Tk

/- The reference's layer 8, walked: Read. -/
namespace Go.Proofs.YtndcmapifihgeaaGreatDoor.Tk
open Go.RowKit Go.Lib
open Ch (at0 at0_drop)
open Mk (Sl Cells fits bfr gtE coE hit kd ln cln isDty bogusEnd dty smallL)

variable {l : List UInt8} {a : Option Addr} {cap i : Nat} {w w' : World}

/-- what Read answers -/
def rAns (l : List UInt8) (i : Nat) : Value := .tuple #[.int .i64 (((rk (l.drop i)).1 : Nat) : Int), .int .i64 ((if (rk (l.drop i)).1 = 0 then 0 else i + (rk (l.drop i)).2 : Nat) : Int)]
theorem rAns_of {K E : Nat} (h : rk (l.drop i) = (K, E)) (hK : K ≠ 0) : rAns l i = .tuple #[.int .i64 (K : Int), .int .i64 ((i : Int) + (E : Int))] := by
  unfold rAns
  rw [h]
  simp only [if_neg hK]
  rfl
theorem rAns_zero (h : rk (l.drop i) = (0, 0)) : rAns l i = .tuple #[.int .i64 0, .int .i64 0] := by
  unfold rAns
  rw [h]
  rfl
theorem ret_ii {a b c d : Int} (h : a = b) (h2 : c = d) : Ending.returned (.tuple #[.int .i64 a, .int .i64 c]) = .returned (.tuple #[.int .i64 b, .int .i64 d]) := by rw [h, h2]
theorem drop4 (l : List UInt8) (i : Nat) : (l.drop i).drop 4 = l.drop (i + 4) := List.drop_drop
theorem drop2 (l : List UInt8) (i : Nat) : (l.drop i).drop 2 = l.drop (i + 2) := List.drop_drop

theorem close_plus (i : Nat) (w : World) (hs : Sl l a cap w) (hl : l.length ≤ 100000) (h2 : i + 2 ≤ l.length) : Calls Tryz.prog 44 #[.slice a l.length cap, .int .i64 ((i : Int) + 2)] w fun e w' => e = .returned (.int .i64 ((i : Int) + ((2 + bfr gtE ((l.drop i).drop 2) : Nat) : Int))) ∧ w = w' := by
  have := close_any (i + 2) w hs (by omega) h2
  rw [show ((i + 2 : Nat) : Int) = (i : Int) + 2 by omega] at this
  rw [drop2, show (i : Int) + ((2 + bfr gtE (l.drop (i + 2)) : Nat) : Int) = ((i + 2 + bfr gtE (l.drop (i + 2)) : Nat) : Int) by omega]
  exact this
theorem letterZ_nat (c : Nat) : Kl.letterZ (c : Int) = letN c := by
  unfold Kl.letterZ Kl.smallZ Kl.greatZ letN
  rw [Bool.eq_iff_iff]
  simp only [Bool.or_eq_true, Bool.and_eq_true, decide_eq_true_eq]
  omega

set_option maxHeartbeats 4000000 in
set_option maxRecDepth 100000 in
theorem rread8_any (i : Nat) (w : World) (hs : Sl l a cap w) (hi : i < l.length) (hl : l.length ≤ 100000) :
    Calls Tryz.prog 21 #[.slice a l.length cap, .int .i64 (i : Int)] w fun e w' => e = .returned (rAns l i) ∧ Below w.heap.size w w' := by
  have hi0 : ¬ ((i : Int) < 0) := by omega
  have c60 := here_any [60] i w hs (by omega) (by decide) (by decide) (by omega)
  have c4 := here_any [60, 33, 45, 45] i w hs (by omega) (by decide) (by decide) (by omega)
  have cG := here_any [62] (i + 4) w hs (by omega) (by decide) (by decide) (by omega)
  have cD := here_any [45, 62] (i + 4) w hs (by omega) (by decide) (by decide) (by omega)
  have c2 := here_any [60, 33] i w hs (by omega) (by decide) (by decide) (by omega)
  have cQ := here_any [60, 63] i w hs (by omega) (by decide) (by decide) (by omega)
  have cE := here_any [60, 47, 62] i w hs (by omega) (by decide) (by decide) (by omega)
  have cS := here_any [60, 47] i w hs (by omega) (by decide) (by decide) (by omega)
  have hml : (l.drop i).length = l.length - i := List.length_drop
  have ei4 : ((i + 4 : Nat) : Int) = (i : Int) + 4 := by omega
  have ei2 : ((i + 2 : Nat) : Int) = (i : Int) + 2 := by omega
  rw [ei4] at cG cD
  by_cases f0 : fits [60] (l.drop i) = false
  · rw [rAns_zero (by unfold rk; rw [if_pos f0])]
    rw [f0] at c60
    clear c4 cG cD c2 cQ cE cS
    go_enter Tryz.func21, Tryz.ntmps21
    go_wp2_with fail
    refine c60.mono ?_
    rintro e w2 ⟨rfl, rfl⟩
    go_wp2
    go_ret2
    exact ⟨ret_ii (by omega) (by omega), Below.refl _ _⟩
  · have f0' : fits [60] (l.drop i) = true := by simpa using f0
    rw [f0'] at c60
    by_cases f1 : fits [60, 33, 45, 45] (l.drop i) = true
    · have hl4 := Mk.fits_len f1
      simp only [List.length_cons, List.length_nil] at hl4
      have hr : rk (l.drop i) = (1, cln (l.drop i)) := by unfold rk; rw [if_neg f0, if_pos f1]
      unfold cln at hr
      rw [drop4] at hr
      rw [f1] at c4
      by_cases g1 : fits [62] (l.drop (i + 4)) = true
      · rw [if_pos g1] at hr
        rw [rAns_of hr (by decide)]
        rw [g1] at cG
        clear hr cD c2 cQ cE cS f0 f0' f1 g1
        go_enter Tryz.func21, Tryz.ntmps21
        go_wp2_with fail
        refine c60.mono ?_
        rintro e w2 ⟨rfl, rfl⟩
        go_wp2_with fail
        refine c4.mono ?_
        rintro e w2 ⟨rfl, rfl⟩
        go_wp2_with fail
        refine cG.mono ?_
        rintro e w2 ⟨rfl, rfl⟩
        go_wp2
        go_ret2
        exact ⟨ret_ii (by omega) (by omega), Below.refl _ _⟩
      · rw [if_neg g1] at hr
        have g1' : fits [62] (l.drop (i + 4)) = false := by simpa using g1
        rw [g1'] at cG
        by_cases g2 : fits [45, 62] (l.drop (i + 4)) = true
        · rw [if_pos g2] at hr
          rw [rAns_of hr (by decide)]
          rw [g2] at cD
          clear hr c2 cQ cE cS f0 f0' f1 g1 g1' g2
          go_enter Tryz.func21, Tryz.ntmps21
          go_wp2_with fail
          refine c60.mono ?_
          rintro e w2 ⟨rfl, rfl⟩
          go_wp2_with fail
          refine c4.mono ?_
          rintro e w2 ⟨rfl, rfl⟩
          go_wp2_with fail
          refine cG.mono ?_
          rintro e w2 ⟨rfl, rfl⟩
          go_wp2_with fail
          refine cD.mono ?_
          rintro e w2 ⟨rfl, rfl⟩
          go_wp2
          go_ret2
          exact ⟨ret_ii (by omega) (by omega), Below.refl _ _⟩
        · rw [if_neg g2] at hr
          have g2' : fits [45, 62] (l.drop (i + 4)) = false := by simpa using g2
          rw [g2'] at cD
          rw [rAns_of hr (by decide)]
          obtain ⟨E, hE⟩ : ∃ E, 4 + bfr coE (l.drop (i + 4)) = E := ⟨_, rfl⟩
          rw [hE]
          have HS := Lib.hid hs
          have HE := Lib.hid hE
          clear hr c2 cQ cE cS f0 f0' f1 g1 g1' g2 g2' hs hE
          go_enter Tryz.func21, Tryz.ntmps21
          go_wp2_with fail
          refine c60.mono ?_
          rintro e w2 ⟨rfl, rfl⟩
          go_wp2_with fail
          refine c4.mono ?_
          rintro e w2 ⟨rfl, rfl⟩
          go_wp2_with fail
          refine cG.mono ?_
          rintro e w2 ⟨rfl, rfl⟩
          go_wp2_with fail
          refine cD.mono ?_
          rintro e w2 ⟨rfl, rfl⟩
          go_wp2
          go_loopw [6] (fun v wr => ∃ j : Nat, v = .int .i64 (j : Int) ∧ j ≤ l.length ∧ j + bfr coE (l.drop j) = i + E ∧ wr = w) (fun v _ => l.length - (RowKit.intOf v).toNat)
          case atStart => exact ⟨i + 4, by go_num, by omega, by have := HE.out; omega, rfl⟩
          case round =>
            obtain ⟨j, rfl, hj, hj2, rfl⟩ := hrel
            by_cases hlt : j < l.length
            · have hlt1 : (j : Int) < (l.length : Int) := by omega
              have cA := here_any [45, 45, 62] j wr HS.out (by omega) (by decide) (by decide) (by omega)
              have cB := here_any [45, 45, 33, 62] j wr HS.out (by omega) (by decide) (by decide) (by omega)
              have hb := Mk.bfr_at (E := coE) hlt
              have hh : hit coE (l.drop j) = if fits [45, 45, 62] (l.drop j) then 3 else if fits [45, 45, 33, 62] (l.drop j) then 4 else 0 := rfl
              cases k1 : fits [45, 45, 62] (l.drop j) with
              | true =>
                rw [k1, if_pos rfl] at hh
                rw [hh, if_neg (by decide)] at hb
                rw [k1] at cA
                have HJ := Lib.hid (show i + E = j + 3 by omega)
                clear hb hh hj2 cB k1
                go_wp2_with fail
                refine cA.mono ?_
                rintro e w2 ⟨rfl, rfl⟩
                go_wp2
                go_ret2
                exact ⟨ret_ii (by omega) (by have := HJ.out; omega), Below.refl _ _⟩
              | false =>
                rw [k1, if_neg (by decide)] at hh
                rw [k1] at cA
                cases k2 : fits [45, 45, 33, 62] (l.drop j) with
                | true =>
                  rw [k2, if_pos rfl] at hh
                  rw [hh, if_neg (by decide)] at hb
                  rw [k2] at cB
                  have HJ := Lib.hid (show i + E = j + 4 by omega)
                  clear hb hh hj2 k1 k2
                  go_wp2_with fail
                  refine cA.mono ?_
                  rintro e w2 ⟨rfl, rfl⟩
                  go_wp2_with fail
                  refine cB.mono ?_
                  rintro e w2 ⟨rfl, rfl⟩
                  go_wp2
                  go_ret2
                  exact ⟨ret_ii (by omega) (by have := HJ.out; omega), Below.refl _ _⟩
                | false =>
                  rw [k2, if_neg (by decide)] at hh
                  rw [hh, if_pos rfl] at hb
                  rw [k2] at cB
                  have HJ := Lib.hid (show j + 1 + bfr coE (l.drop (j + 1)) = i + E by omega)
                  clear hb hh hj2 k1 k2
                  go_wp2_with fail
                  refine cA.mono ?_
                  rintro e w2 ⟨rfl, rfl⟩
                  go_wp2_with fail
                  refine cB.mono ?_
                  rintro e w2 ⟨rfl, rfl⟩
                  go_wp2
                  go_roundw
                  case rel => exact ⟨j + 1, by go_num, by omega, HJ.out, by first | trivial | rfl⟩
                  case measure => simp [RowKit.intOf]; omega
            · have hlt1 : ¬ ((j : Int) < (l.length : Int)) := by omega
              obtain rfl : j = l.length := by omega
              have HJ := Lib.hid (show i + E = l.length by rw [← hj2, List.drop_length]; rfl)
              clear hj2
              go_wp2
              go_ret2
              exact ⟨ret_ii (by omega) (by have := HJ.out; omega), Below.refl _ _⟩
    · have f1' : fits [60, 33, 45, 45] (l.drop i) = false := by simpa using f1
      rw [f1'] at c4
      by_cases f2 : fits [60, 33] (l.drop i) = true
      · have hl2 := Mk.fits_len f2
        simp only [List.length_cons, List.length_nil] at hl2
        have cC := fun w' (hb : Below w.heap.size w w') => close_plus i w' (hs.below hb) hl (by omega)
        rw [f2] at c2
        have hr : rk (l.drop i) = if isD7 (l.drop i) then (2, 2 + bfr gtE ((l.drop i).drop 2)) else (3, 2 + bfr gtE ((l.drop i).drop 2)) := by unfold rk; rw [if_neg f0, if_neg f1, if_pos f2]
        by_cases h9 : i + 9 ≤ l.length
        · have h9' : (i : Int) + 9 ≤ (l.length : Int) := by omega
          obtain ⟨hcap, hz | ⟨b, off, rfl, hc⟩⟩ := hs
          · subst hz; rw [List.length_nil] at hi; omega
          have hc2 := (hc.drop (i + 2)).take 7
          have hx := Mk.string_cells (cap := cap - (i + 2)) hc2 (n := 7) (by rw [List.length_take, List.length_drop]; omega)
          have cM := Rw.refSmall_any ((l.drop (i + 2)).take 7) w (by rw [List.length_take]; omega)
          have hd : isD7 (l.drop i) = decide (smallL ((l.drop (i + 2)).take 7) = [100, 111, 99, 116, 121, 112, 101]) := by
            unfold isD7
            rw [drop2, decide_eq_true (show 9 ≤ (l.drop i).length by omega), Bool.true_and]
          have q1 : i + 2 < cap := by omega
          have q2 : i + 9 ≤ cap := by omega
          change Calls Tryz.prog 43 #[.string ⟨((l.drop (i + 2)).take 7).toArray⟩] w fun e w' => e = .returned (.string ⟨(smallL ((l.drop (i + 2)).take 7)).toArray⟩) ∧ Below w.heap.size w w' at cM
          rw [hd] at hr
          generalize smallL ((l.drop (i + 2)).take 7) = T at *
          generalize (l.drop (i + 2)).take 7 = S at *
          generalize 2 + bfr gtE ((l.drop i).drop 2) = U at *
          by_cases hT : T = [100, 111, 99, 116, 121, 112, 101]
          · rw [decide_eq_true hT, if_pos rfl] at hr
            rw [rAns_of hr (by decide)]
            subst hT
            have CC := Lib.hid cC
            clear hr cQ cE cS f0 f0' f1 f1' f2 hd hc hc2 cG cD cC
            go_enter Tryz.func21, Tryz.ntmps21
            go_wp2_with fail
            refine c60.mono ?_
            rintro e w2 ⟨rfl, rfl⟩
            go_wp2_with fail
            refine c4.mono ?_
            rintro e w2 ⟨rfl, rfl⟩
            go_wp2_with fail
            refine c2.mono ?_
            rintro e w2 ⟨rfl, rfl⟩
            go_wp2_with fail
            refine cM.mono ?_
            rintro e w3 ⟨rfl, hb3⟩
            have cC3 := CC.out w3 hb3
            have HB3 := Lib.hid hb3
            clear hb3
            go_wp2_with fail
            refine cC3.mono ?_
            rintro e w4 ⟨rfl, rfl⟩
            go_wp2
            go_ret2
            exact ⟨ret_ii (by omega) (by omega), HB3.out⟩
          · rw [decide_eq_false hT, if_neg (by decide)] at hr
            rw [rAns_of hr (by decide)]
            have hq : (T == [100, 111, 99, 116, 121, 112, 101]) = false := beq_eq_false_iff_ne.2 hT
            have CC := Lib.hid cC
            clear hr cQ cE cS f0 f0' f1 f1' f2 hd hc hc2 cG cD cC
            go_enter Tryz.func21, Tryz.ntmps21
            go_wp2_with fail
            refine c60.mono ?_
            rintro e w2 ⟨rfl, rfl⟩
            go_wp2_with fail
            refine c4.mono ?_
            rintro e w2 ⟨rfl, rfl⟩
            go_wp2_with fail
            refine c2.mono ?_
            rintro e w2 ⟨rfl, rfl⟩
            go_wp2_with fail
            refine cM.mono ?_
            rintro e w3 ⟨rfl, hb3⟩
            have cC3 := CC.out w3 hb3
            have HB3 := Lib.hid hb3
            clear hb3
            go_wp2_with fail
            refine cC3.mono ?_
            rintro e w4 ⟨rfl, rfl⟩
            go_wp2
            go_ret2
            exact ⟨ret_ii (by omega) (by omega), HB3.out⟩
        · have h9' : ¬ ((i : Int) + 9 ≤ (l.length : Int)) := by omega
          have hd : isD7 (l.drop i) = false := by
            unfold isD7
            rw [decide_eq_false (show ¬ 9 ≤ (l.drop i).length by omega), Bool.false_and]
          rw [hd, if_neg (by decide)] at hr
          rw [rAns_of hr (by decide)]
          have cC0 := cC w (Below.refl _ w)
          generalize 2 + bfr gtE ((l.drop i).drop 2) = U at *
          clear hr cQ cE cS f0 f0' f1 f1' f2 hd cG cD cC h9
          go_enter Tryz.func21, Tryz.ntmps21
          go_wp2_with fail
          refine c60.mono ?_
          rintro e w2 ⟨rfl, rfl⟩
          go_wp2_with fail
          refine c4.mono ?_
          rintro e w2 ⟨rfl, rfl⟩
          go_wp2_with fail
          refine c2.mono ?_
          rintro e w2 ⟨rfl, rfl⟩
          go_wp2_with fail
          refine cC0.mono ?_
          rintro e w2 ⟨rfl, rfl⟩
          go_wp2
          go_ret2
          exact ⟨ret_ii (by omega) (by omega), Below.refl _ _⟩
      · have f2' : fits [60, 33] (l.drop i) = false := by simpa using f2
        rw [f2'] at c2
        by_cases f5 : fits [60, 63] (l.drop i) = true
        · have hl2 := Mk.fits_len f5
          simp only [List.length_cons, List.length_nil] at hl2
          have hr : rk (l.drop i) = (3, 2 + bfr gtE ((l.drop i).drop 2)) := by unfold rk; rw [if_neg f0, if_neg f1, if_neg f2, if_pos f5]
          rw [rAns_of hr (by decide)]
          rw [f5] at cQ
          have cC0 := close_plus i w hs hl (by omega)
          generalize 2 + bfr gtE ((l.drop i).drop 2) = U at *
          clear hr cE cS f0 f0' f1 f1' f2 f2' f5 cG cD
          go_enter Tryz.func21, Tryz.ntmps21
          go_wp2_with fail
          refine c60.mono ?_
          rintro e w2 ⟨rfl, rfl⟩
          go_wp2_with fail
          refine c4.mono ?_
          rintro e w2 ⟨rfl, rfl⟩
          go_wp2_with fail
          refine c2.mono ?_
          rintro e w2 ⟨rfl, rfl⟩
          go_wp2_with fail
          refine cQ.mono ?_
          rintro e w2 ⟨rfl, rfl⟩
          go_wp2_with fail
          refine cC0.mono ?_
          rintro e w2 ⟨rfl, rfl⟩
          go_wp2
          go_ret2
          exact ⟨ret_ii (by omega) (by omega), Below.refl _ _⟩
        · have f5' : fits [60, 63] (l.drop i) = false := by simpa using f5
          rw [f5'] at cQ
          by_cases f3 : fits [60, 47, 62] (l.drop i) = true
          · have hl3 := Mk.fits_len f3
            simp only [List.length_cons, List.length_nil] at hl3
            have hr : rk (l.drop i) = (4, 3) := by unfold rk; rw [if_neg f0, if_neg f1, if_neg f2, if_neg f5, if_pos f3]
            rw [rAns_of hr (by decide)]
            rw [f3] at cE
            clear hr cS f0 f0' f1 f1' f2 f2' f5 f5' f3 cG cD
            go_enter Tryz.func21, Tryz.ntmps21
            go_wp2_with fail
            refine c60.mono ?_
            rintro e w2 ⟨rfl, rfl⟩
            go_wp2_with fail
            refine c4.mono ?_
            rintro e w2 ⟨rfl, rfl⟩
            go_wp2_with fail
            refine c2.mono ?_
            rintro e w2 ⟨rfl, rfl⟩
            go_wp2_with fail
            refine cQ.mono ?_
            rintro e w2 ⟨rfl, rfl⟩
            go_wp2_with fail
            refine cE.mono ?_
            rintro e w2 ⟨rfl, rfl⟩
            go_wp2
            go_ret2
            exact ⟨ret_ii (by omega) (by omega), Below.refl _ _⟩
          · have f3' : fits [60, 47, 62] (l.drop i) = false := by simpa using f3
            rw [f3'] at cE
            have hr : rk (l.drop i) = if bogusEnd (l.drop i) then (3, 2 + bfr gtE ((l.drop i).drop 2)) else (0, 0) := by unfold rk; rw [if_neg f0, if_neg f1, if_neg f2, if_neg f5, if_neg f3]
            unfold bogusEnd at hr
            by_cases f7 : fits [60, 47] (l.drop i) = true
            · rw [f7, Bool.true_and] at hr
              rw [f7] at cS
              by_cases h3 : 2 < (l.drop i).length
              · rw [decide_eq_true h3, Bool.true_and] at hr
                obtain ⟨hcap, hz | ⟨b, off, rfl, hc⟩⟩ := hs
                · subst hz; rw [List.length_nil] at hi; omega
                have hs : Sl l (some ⟨b, off, none⟩) cap w := ⟨hcap, Or.inr ⟨b, off, rfl, hc⟩⟩
                have cC0 := close_plus i w hs hl (by omega)
                have hcell : w.cell? ⟨b, off + (i + 2), none⟩ = some (.int .u8 ((at0 l (i + 2) : Nat) : Int)) := hc (i + 2) (by omega)
                have hA256 : at0 l (i + 2) < 256 := Ch.at0_lt l (i + 2)
                have cL := Kl.refLetter_any ((at0 l (i + 2) : Nat) : Int) w
                rw [letterZ_nat] at cL
                have ha : Mk.at0 (l.drop i) 2 = at0 l (i + 2) := at0_drop l i 2
                rw [ha, mk_let] at hr
                have h3' : (i : Int) + 2 < (l.length : Int) := by omega
                generalize at0 l (i + 2) = A at *
                generalize 2 + bfr gtE ((l.drop i).drop 2) = U at *
                cases hL : letN A with
                | true =>
                  rw [hL] at hr cL
                  rw [rAns_zero hr]
                  clear hr f0 f0' f1 f1' f2 f2' f5 f5' f3 f3' f7 cG cD hc cC0 hs
                  go_enter Tryz.func21, Tryz.ntmps21
                  go_wp2_with fail
                  refine c60.mono ?_
                  rintro e w2 ⟨rfl, rfl⟩
                  go_wp2_with fail
                  refine c4.mono ?_
                  rintro e w2 ⟨rfl, rfl⟩
                  go_wp2_with fail
                  refine c2.mono ?_
                  rintro e w2 ⟨rfl, rfl⟩
                  go_wp2_with fail
                  refine cQ.mono ?_
                  rintro e w2 ⟨rfl, rfl⟩
                  go_wp2_with fail
                  refine cE.mono ?_
                  rintro e w2 ⟨rfl, rfl⟩
                  go_wp2_with fail
                  refine cS.mono ?_
                  rintro e w2 ⟨rfl, rfl⟩
                  go_wp2_with fail
                  refine cL.mono ?_
                  rintro e w2 ⟨rfl, rfl⟩
                  go_wp2
                  go_ret2
                  exact ⟨ret_ii (by omega) (by omega), Below.refl _ _⟩
                | false =>
                  rw [hL] at hr cL
                  rw [rAns_of hr (by decide)]
                  clear hr f0 f0' f1 f1' f2 f2' f5 f5' f3 f3' f7 cG cD hc hs
                  go_enter Tryz.func21, Tryz.ntmps21
                  go_wp2_with fail
                  refine c60.mono ?_
                  rintro e w2 ⟨rfl, rfl⟩
                  go_wp2_with fail
                  refine c4.mono ?_
                  rintro e w2 ⟨rfl, rfl⟩
                  go_wp2_with fail
                  refine c2.mono ?_
                  rintro e w2 ⟨rfl, rfl⟩
                  go_wp2_with fail
                  refine cQ.mono ?_
                  rintro e w2 ⟨rfl, rfl⟩
                  go_wp2_with fail
                  refine cE.mono ?_
                  rintro e w2 ⟨rfl, rfl⟩
                  go_wp2_with fail
                  refine cS.mono ?_
                  rintro e w2 ⟨rfl, rfl⟩
                  go_wp2_with fail
                  refine cL.mono ?_
                  rintro e w2 ⟨rfl, rfl⟩
                  go_wp2_with fail
                  refine cC0.mono ?_
                  rintro e w2 ⟨rfl, rfl⟩
                  go_wp2
                  go_ret2
                  exact ⟨ret_ii (by omega) (by omega), Below.refl _ _⟩
              · rw [decide_eq_false h3, Bool.false_and, if_neg (by decide)] at hr
                rw [rAns_zero hr]
                have h3' : ¬ ((i : Int) + 2 < (l.length : Int)) := by omega
                clear hr f0 f0' f1 f1' f2 f2' f5 f5' f3 f3' f7 cG cD
                go_enter Tryz.func21, Tryz.ntmps21
                go_wp2_with fail
                refine c60.mono ?_
                rintro e w2 ⟨rfl, rfl⟩
                go_wp2_with fail
                refine c4.mono ?_
                rintro e w2 ⟨rfl, rfl⟩
                go_wp2_with fail
                refine c2.mono ?_
                rintro e w2 ⟨rfl, rfl⟩
                go_wp2_with fail
                refine cQ.mono ?_
                rintro e w2 ⟨rfl, rfl⟩
                go_wp2_with fail
                refine cE.mono ?_
                rintro e w2 ⟨rfl, rfl⟩
                go_wp2_with fail
                refine cS.mono ?_
                rintro e w2 ⟨rfl, rfl⟩
                go_wp2
                go_ret2
                exact ⟨ret_ii (by omega) (by omega), Below.refl _ _⟩
            · have f7' : fits [60, 47] (l.drop i) = false := by simpa using f7
              rw [f7', Bool.false_and, if_neg (by decide)] at hr
              rw [rAns_zero hr]
              rw [f7'] at cS
              clear hr f0 f0' f1 f1' f2 f2' f5 f5' f3 f3' f7 f7' cG cD
              go_enter Tryz.func21, Tryz.ntmps21
              go_wp2_with fail
              refine c60.mono ?_
              rintro e w2 ⟨rfl, rfl⟩
              go_wp2_with fail
              refine c4.mono ?_
              rintro e w2 ⟨rfl, rfl⟩
              go_wp2_with fail
              refine c2.mono ?_
              rintro e w2 ⟨rfl, rfl⟩
              go_wp2_with fail
              refine cQ.mono ?_
              rintro e w2 ⟨rfl, rfl⟩
              go_wp2_with fail
              refine cE.mono ?_
              rintro e w2 ⟨rfl, rfl⟩
              go_wp2_with fail
              refine cS.mono ?_
              rintro e w2 ⟨rfl, rfl⟩
              go_wp2
              go_ret2
              exact ⟨ret_ii (by omega) (by omega), Below.refl _ _⟩
end Go.Proofs.YtndcmapifihgeaaGreatDoor.Tk
