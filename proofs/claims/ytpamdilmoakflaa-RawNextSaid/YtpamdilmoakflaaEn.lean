/- The program's isEndTag, firstEndTag and End, walked. -/
import Derived.Test.YtpamdilmoakflaaEt
namespace Go.Proofs.Ytpamdilmoakflaa
open Go.RowKit Go.Lib

variable {l m p : List UInt8} {a : Option Addr} {cap i b off : Nat} {w w' : World}

set_option maxHeartbeats 2000000 in
set_option maxRecDepth 100000 in
theorem isEndTag_any (n cap : Nat) (w : World) (hc : Cells m b off w) (hn : m.length = n) (hl : n ≤ 1000000) (_hlp : p.length ≤ 1000000) :
    Calls Try.prog 13 #[.slice (some ⟨b, off, none⟩) n cap, .string ⟨p.toArray⟩] w fun e w' => e = .returned (.bool (isE p m)) ∧ Below w.heap.size w w' := by
  have hps := str_size p
  subst hn
  unfold isE
  by_cases h : p.length < m.length
  · have h' : (p.length : Int) < (m.length : Int) := by omega
    have cF := hasFront_any (cap := cap) w hc (Nat.le_of_lt h) hl
    rw [decide_eq_true h]
    have HC := Lib.hid hc
    clear hc
    have hbd := at0_lt m p.length
    cases hf : decide (smallL (m.take p.length) = p) with
    | false =>
      rw [hf] at cF
      clear hf
      go_enter Try.func13, Try.ntmps13
      go_wp2_with fail
      refine cF.mono ?_
      rintro e w1 ⟨rfl, hb⟩
      go_wp2
      go_ret
      exact ⟨rfl, hb⟩
    | true =>
      rw [hf] at cF
      clear hf
      obtain ⟨c, hcc⟩ : ∃ c, at0 m p.length = c := ⟨_, rfl⟩
      have HCC := Lib.hid hcc
      rw [hcc] at hbd ⊢
      clear hcc
      obtain ⟨E, hE⟩ : ∃ E, endN c = E := ⟨_, rfl⟩
      have HE := Lib.hid hE
      rw [hE]
      clear hE
      go_enter Try.func13, Try.ntmps13
      go_wp2_with fail
      refine cF.mono ?_
      rintro e w1 ⟨rfl, hb⟩
      have hcell := (HC.out.below hb) p.length h
      rw [HCC.out] at hcell
      have cE := endsName_any c w1 hbd
      rw [HE.out] at cE
      go_wp2_with fail
      refine cE.mono ?_
      rintro e w2 ⟨rfl, rfl⟩
      go_wp2
      go_ret
      exact ⟨ret_bool (by simp), hb⟩
  · have h' : ¬ ((p.length : Int) < (m.length : Int)) := by omega
    rw [decide_eq_false h]
    clear hc
    go_enter Try.func13, Try.ntmps13
    go_wp2
    go_ret
    exact ⟨rfl, Below.refl _ _⟩

theorem join_one (a b : List UInt8) : (⟨a.toArray⟩ ++ ⟨b.toArray⟩ : ByteArray) = ⟨(a ++ b).toArray⟩ := by
  apply ByteArray.ext
  simp [ByteArray.data_append]

/-- where the loop stands -/
def FeRel (p l : List UInt8) (N : Nat) (w : World) (v8 : Value) (wr : World) : Prop :=
  ∃ k : Nat, v8 = .int .i64 (k : Int) ∧ k ≤ l.length ∧ k + fe p (l.drop k) = N ∧ Below w.heap.size w wr

set_option maxHeartbeats 2000000 in
set_option maxRecDepth 100000 in
theorem firstEndTag_any (n : List UInt8) (i : Nat) (w : World) (hs : Sl l a cap w) (hi : i ≤ l.length) (hl : l.length ≤ 1000000) (hln : n.length ≤ 100000) :
    Calls Try.prog 11 #[.slice a l.length cap, .int .i64 (i : Int), .string ⟨n.toArray⟩] w fun e w' => e = .returned (.int .i64 ((i + fe (fr n) (l.drop i) : Nat) : Int)) ∧ Below w.heap.size w w' := by
  obtain ⟨N, hN⟩ : ∃ N, i + fe (fr n) (l.drop i) = N := ⟨_, rfl⟩
  rw [hN]
  have HN := Lib.hid hN
  have HS := Lib.hid hs
  have hlp := fr_length n
  have hj : (⟨#[60, 47]⟩ ++ ⟨n.toArray⟩ : ByteArray) = ⟨(fr n).toArray⟩ := join_one [60, 47] n
  clear hN hs
  obtain ⟨p, hp⟩ : ∃ p, fr n = p := ⟨_, rfl⟩
  rw [hp] at hj HN hlp
  clear hp
  go_enter Try.func11, Try.ntmps11
  go_wp2
  go_loopw [8] (fun v wr => FeRel p l N w v wr) (fun v _ => l.length - (RowKit.intOf v).toNat)
  case atStart => exact ⟨i, rfl, hi, HN.out, Below.refl _ _⟩
  case round =>
    clear hj HN
    obtain ⟨k, rfl, hk, hN, hbw⟩ := hrel
    have hsz := hbw.size
    by_cases hlt : k < l.length
    · have hlt' : (k : Int) < (l.length : Int) := by omega
      obtain ⟨hcap, h2 | ⟨b, off, rfl, hc⟩⟩ := HS.out
      · rw [h2] at hlt; simp at hlt
      have cE := isEndTag_any (p := p) (l.length - k) (cap - k) wr ((hc.drop k).below hbw) (by rw [List.length_drop]) (by omega) (by omega)
      have hst := fe_at (p := p) hlt
      have HBW := Lib.hid hbw
      have hkc : k < cap := by omega
      have hkl : k ≤ l.length := by omega
      cases hE : isE p (l.drop k) with
      | true =>
        rw [hE] at cE hst
        rw [if_pos rfl] at hst
        have HN2 := Lib.hid (show k = N by omega)
        clear hst hN hbw hc hE
        go_wp2_with fail
        refine cE.mono ?_
        rintro e w1 ⟨rfl, hb1⟩
        go_wp2
        go_ret
        exact ⟨ret_int (by rw [HN2.out]), HBW.out.trans (hb1.mono hsz)⟩
      | false =>
        rw [hE] at cE hst
        rw [if_neg (by decide)] at hst
        have HN2 := Lib.hid (show k + 1 + fe p (l.drop (k + 1)) = N by omega)
        clear hst hN hbw hc hE
        go_wp2_with fail
        refine cE.mono ?_
        rintro e w1 ⟨rfl, hb1⟩
        go_wp2
        go_roundw
        case rel => exact ⟨k + 1, by go_num, by omega, HN2.out, HBW.out.trans (hb1.mono hsz)⟩
        case measure => simp [RowKit.intOf]; omega
    · have hlt' : ¬ ((k : Int) < (l.length : Int)) := by omega
      have HN2 := Lib.hid (show l.length = N by
        rw [List.drop_of_length_le (by omega)] at hN
        simp only [fe] at hN
        omega)
      clear hN
      go_wp2
      go_ret
      exact ⟨ret_int (by rw [HN2.out]), hbw⟩

set_option maxHeartbeats 2000000 in
set_option maxRecDepth 100000 in
/-- End, from any byte on -/
theorem end_any (n : List UInt8) (i : Nat) (w : World) (hs : Sl l a cap w) (hi : i ≤ l.length) (hl : l.length ≤ 1000000) (hln : n.length ≤ 100000) :
    Calls Try.prog 7 #[.slice a l.length cap, .int .i64 (i : Int), .string ⟨n.toArray⟩] w fun e w' => e = .returned (.int .i64 ((ed n l i : Nat) : Int)) ∧ Below w.heap.size w w' := by
  have cK := kind_any n w
  have cF := firstEndTag_any n i w hs hi hl hln
  have hk3 := kdN_le n
  unfold ed
  generalize kdN n = K at *
  generalize i + fe (fr n) (l.drop i) = F at *
  by_cases h0 : K = 0
  · rw [if_pos h0]
    subst h0
    clear cF
    go_enter Try.func7, Try.ntmps7
    go_wp2_with fail
    refine cK.mono ?_
    rintro e w1 ⟨rfl, rfl⟩
    go_wp2
    go_ret
    exact ⟨rfl, Below.refl _ _⟩
  · rw [if_neg h0]
    by_cases h3 : K = 3
    · rw [if_pos h3]
      subst h3
      clear cF
      go_enter Try.func7, Try.ntmps7
      go_wp2_with fail
      refine cK.mono ?_
      rintro e w1 ⟨rfl, rfl⟩
      go_wp2
      go_ret
      exact ⟨rfl, Below.refl _ _⟩
    · rw [if_neg h3]
      have k0 : ((K : Int) == 0) = false := by simp; omega
      have k3 : ((K : Int) == 3) = false := by simp; omega
      go_enter Try.func7, Try.ntmps7
      go_wp2_with fail
      refine cK.mono ?_
      rintro e w1 ⟨rfl, rfl⟩
      go_wp2_with fail
      refine cF.mono ?_
      rintro e w1 ⟨rfl, hb⟩
      go_wp2
      go_ret
      exact ⟨rfl, hb⟩
end Go.Proofs.Ytpamdilmoakflaa
