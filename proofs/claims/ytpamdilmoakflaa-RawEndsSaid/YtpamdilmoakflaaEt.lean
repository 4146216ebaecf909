/- The program's endsName, hasFront, isEndTag, firstEndTag and End, walked. -/
import Derived.Test.YtpamdilmoakflaaKd
import Derived.BigQuiet
import Derived.Deep.QuietTactic
namespace Go.Proofs.Ytpamdilmoakflaa
open Go.RowKit Go.Lib

variable {l m p : List UInt8} {a : Option Addr} {cap i b off : Nat} {w w' : World}

set_option maxHeartbeats 1000000 in
theorem blank_any (x : Int) (w : World) :
    Calls Try.prog 19 #[.int .i32 x] w fun e w' => e = .returned (.bool (blankZ x)) ∧ w = w' := by
  unfold blankZ
  cases h1 : (x == 9) <;> cases h2 : (x == 10) <;> cases h3 : (x == 12) <;> cases h4 : (x == 32)
  all_goals (go_enter Try.func19, Try.ntmps19; go_wp2; go_ret; exact ⟨rfl, rfl⟩)

theorem beq_nat (c k : Nat) : ((c : Int) == (k : Int)) = (c == k) := by
  rw [Bool.eq_iff_iff]; simp only [beq_iff_eq]; omega

set_option maxHeartbeats 1000000 in
set_option maxRecDepth 100000 in
theorem endsName_any (c : Nat) (w : World) (hc : c < 256) :
    Calls Try.prog 16 #[.int .u8 (c : Int)] w fun e w' => e = .returned (.bool (endN c)) ∧ w = w' := by
  have hB := blank_any (c : Int) w
  rw [blankZ_nat] at hB
  unfold endN
  have k1 : ((c : Int) == 13) = (c == 13) := beq_nat c 13
  have k2 : ((c : Int) == 47) = (c == 47) := beq_nat c 47
  have k3 : ((c : Int) == 62) = (c == 62) := beq_nat c 62
  cases h0 : blankN c <;> cases h1 : (c == 13) <;> cases h2 : (c == 47) <;> cases h3 : (c == 62)
  all_goals
    rw [h0] at hB
    rw [h1] at k1
    rw [h2] at k2
    rw [h3] at k3
    clear h0 h1 h2 h3
    go_enter Try.func16, Try.ntmps16
    go_wp2_with fail
    refine hB.mono ?_
    rintro e w' ⟨rfl, rfl⟩
    go_wp2
    go_ret
    exact ⟨rfl, rfl⟩

theorem idx_at (m : List UInt8) (i : Nat) (h : i < (⟨m.toArray⟩ : ByteArray).size) : ((⟨m.toArray⟩ : ByteArray)[i]'h).toNat = at0 m i := by
  have hi : i < m.length := by rw [str_size] at h; exact h
  have : ((⟨m.toArray⟩ : ByteArray)[i]'h) = m[i] := rfl
  rw [this, getD_at0 hi]

/-- a byte's letter made small -/
def lowN (n : Nat) : Nat := if greatN n then n + 32 else n
theorem lowerZ_lowN (n : Nat) : lowerZ (n : Int) = ((lowN n : Nat) : Int) := by
  unfold lowerZ lowN
  rw [greatZ_nat]
  split <;> simp
theorem lowB_at {k : Nat} (h : k < m.length) : (lowB m[k]).toNat = lowN (at0 m k) := by
  rw [lowB_toNat, getD_at0 h]
  rfl

/-- a front, step by step -/
theorem front_step {k : Nat} (hk : k < p.length) (hm : p.length ≤ m.length) (h : smallL (m.take k) = p.take k) (he : lowN (at0 m k) = at0 p k) : smallL (m.take (k + 1)) = p.take (k + 1) := by
  rw [take_snoc (by omega : k < m.length), take_snoc hk, smallL_append, h]
  congr 1
  show [lowB m[k]] = [p[k]]
  congr 1
  apply UInt8.toNat_inj.1
  rw [lowB_at, he, getD_at0 hk]
theorem front_no {k : Nat} (hk : k < p.length) (hm : p.length ≤ m.length) (he : lowN (at0 m k) ≠ at0 p k) : smallL (m.take p.length) ≠ p := by
  intro e
  apply he
  have h1 : (smallL (m.take p.length))[k]? = p[k]? := by rw [e]
  unfold smallL at h1
  rw [List.getElem?_map, List.getElem?_take, if_pos hk, List.getElem?_eq_getElem (by omega : k < m.length), List.getElem?_eq_getElem hk] at h1
  simp only [Option.map_some, Option.some.injEq] at h1
  rw [← lowB_at (by omega), h1, getD_at0 hk]

/-- where the loop stands -/
def FrRel (p m : List UInt8) (w : World) (v8 : Value) (wr : World) : Prop :=
  ∃ k : Nat, v8 = .int .i64 (k : Int) ∧ k ≤ p.length ∧ smallL (m.take k) = p.take k ∧ Below w.heap.size w wr

set_option maxHeartbeats 2000000 in
set_option maxRecDepth 100000 in
theorem hasFront_any (w : World) (hc : Cells m b off w) (hp : p.length ≤ m.length) (hl : m.length ≤ 1000000) :
    Calls Try.prog 15 #[.slice (some ⟨b, off, none⟩) m.length cap, .string ⟨p.toArray⟩] w fun e w' => e = .returned (.bool (decide (smallL (m.take p.length) = p))) ∧ Below w.heap.size w w' := by
  obtain ⟨R, hR⟩ : ∃ R, decide (smallL (m.take p.length) = p) = R := ⟨_, rfl⟩
  rw [hR]
  have HR := Lib.hid hR
  have HC := Lib.hid hc
  clear hR hc
  go_enter Try.func15, Try.ntmps15
  go_wp2
  go_loopw [8] (fun v wr => FrRel p m w v wr) (fun v _ => p.length - (RowKit.intOf v).toNat)
  case atStart => exact ⟨0, rfl, by omega, rfl, Below.refl _ _⟩
  case round =>
    obtain ⟨k, rfl, hk, hf, hbw⟩ := hrel
    by_cases h1 : k < p.length
    · have h1' : (k : Int) < (p.length : Int) := by omega
      have h2' : (k : Int) < (m.length : Int) := by omega
      have hcell := (HC.out.below hbw) k (by omega)
      have ea := idx_at p k (by rw [str_size]; exact h1)
      have hbd := at0_lt m k
      have hbp := at0_lt p k
      have cL := fun W => lower_any ((at0 m k : Nat) : Int) W
      rw [lowerZ_lowN] at cL
      by_cases he : lowN (at0 m k) = at0 p k
      · have HF := Lib.hid (front_step h1 hp hf he)
        have HBW := Lib.hid hbw
        rw [he] at cL
        clear he hf
        generalize at0 m k = x at hcell cL hbd
        generalize at0 p k = y at ea cL hbp
        go_wp2
        go_quiet (first | (go_at_call 18; refine (cL _).mono ?_; rintro e w' ⟨rfl, rfl⟩; exact ⟨rfl, _, rfl⟩))
        go_wp2
        go_roundw
        case rel => exact ⟨k + 1, by go_num, by omega, HF.out, ⟨hbw.os, hbw.tape, hbw.output, hbw.size, hbw.block⟩⟩
        case measure => simp [RowKit.intOf]; omega
      · have HF := Lib.hid (show false = R by rw [← HR.out, decide_eq_false (front_no h1 hp he)])
        have HBW := Lib.hid hbw
        generalize at0 m k = x at hcell cL hbd he
        generalize at0 p k = y at ea hbp he
        generalize lowN x = z at cL he
        have hne : ((z : Int) == (y : Int)) = false := by simp; omega
        clear he hf
        go_wp2
        go_quiet (first | (go_at_call 18; refine (cL _).mono ?_; rintro e w' ⟨rfl, rfl⟩; exact ⟨rfl, _, rfl⟩))
        go_wp2
        go_ret
        exact ⟨ret_bool HF.out, ⟨hbw.os, hbw.tape, hbw.output, hbw.size, hbw.block⟩⟩
    · have h1' : ¬ ((k : Int) < (p.length : Int)) := by omega
      have HF := Lib.hid (show true = R by
        rw [← HR.out]
        obtain rfl : k = p.length := by omega
        rw [List.take_length] at hf
        rw [decide_eq_true hf])
      clear hf
      go_wp2
      go_ret
      exact ⟨ret_bool HF.out, hbw⟩
end Go.Proofs.Ytpamdilmoakflaa
