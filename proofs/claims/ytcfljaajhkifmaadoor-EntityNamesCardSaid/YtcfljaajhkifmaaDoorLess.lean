/- The reference's Less, walked: is a text ahead of another one, byte by byte? -/
import Derived.Test.YtcfljaajhkifmaaDoorMath3
import Derived.Test.YtcfljaajhkifmaaDoorFind
import Derived.Deep.QuietTactic
import Derived.BigQuiet
namespace Go.Proofs.YtcfljaajhkifmaaDoor
open Go.RowKit Go.Lib

def lessFrom (a b : List UInt8) : Nat → Nat → Bool
  | 0, _ => decide (a.length < b.length)
  | f + 1, i => if i < a.length ∧ i < b.length then (if at0 a i = at0 b i then lessFrom a b f (i + 1) else decide (at0 a i < at0 b i)) else decide (a.length < b.length)

theorem idx_at (m : List UInt8) (i : Nat) (h : i < (⟨m.toArray⟩ : ByteArray).size) : ((⟨m.toArray⟩ : ByteArray)[i]'h).toNat = at0 m i := by
  have hi : i < m.length := by rw [str_size] at h; exact h
  have : ((⟨m.toArray⟩ : ByteArray)[i]'h) = m[i] := rfl
  rw [this]
  unfold at0
  rw [List.getD_eq_getElem?_getD, List.getElem?_eq_getElem hi]
  rfl

def LessRel (a b : List UInt8) (R : Bool) (w : World) (v5 : Value) (wr : World) : Prop :=
  ∃ i f : Nat, v5 = .int .i64 i ∧ i ≤ a.length ∧ a.length ≤ i + f ∧ lessFrom a b f i = R ∧ Below w.heap.size w wr

set_option maxHeartbeats 1000000 in
set_option maxRecDepth 100000 in
theorem less_any (a b : List UInt8) (w : World) (ha : a.length ≤ 1000000) (_hb : b.length ≤ 1000000) :
    Calls Tryd.prog 11 #[.string ⟨a.toArray⟩, .string ⟨b.toArray⟩] w fun e w' => e = .returned (.bool (lessFrom a b a.length 0)) ∧ Below w.heap.size w w' := by
  obtain ⟨R, hR⟩ : ∃ R, lessFrom a b a.length 0 = R := ⟨_, rfl⟩
  have HR := Lib.hid hR
  rw [hR]
  clear hR
  go_enter Tryd.func11, Tryd.ntmps11
  go_wp2
  go_loopw [5] (fun v5 wr => LessRel a b R w v5 wr) (fun v5 _ => ((a.length : Int) - RowKit.intOf v5).toNat)
  case atStart => exact ⟨0, a.length, rfl, by omega, by omega, HR.out, Below.refl _ _⟩
  case round =>
    obtain ⟨i, f, rfl, hia, hif, hl, hbw⟩ := hrel
    have HL := Lib.hid hl
    clear hl
    by_cases h1 : i < a.length
    · have h1' : (i : Int) < (a.length : Int) := by omega
      obtain ⟨f', rfl⟩ : ∃ f', f = f' + 1 := ⟨f - 1, by omega⟩
      by_cases h2 : i < b.length
      · have h2' : (i : Int) < (b.length : Int) := by omega
        have hS := Lib.hid (show lessFrom a b (f' + 1) i = if at0 a i = at0 b i then lessFrom a b f' (i + 1) else decide (at0 a i < at0 b i) by
          conv => lhs; unfold lessFrom
          rw [if_pos ⟨h1, h2⟩])
        have ea := idx_at a i (by rw [str_size]; exact h1)
        have eb := idx_at b i (by rw [str_size]; exact h2)
        generalize at0 a i = x at hS ea
        generalize at0 b i = y at hS eb
        by_cases hxy : x = y
        · subst hxy
          have HN := Lib.hid (show lessFrom a b f' (i + 1) = R by rw [← HL.out, hS.out, if_pos rfl])
          clear hS
          go_wp2
          go_quiet (fail)
          go_wp2
          go_roundw
          case rel => exact ⟨i + 1, f', by go_num, by omega, by omega, HN.out, ⟨hbw.os, hbw.tape, hbw.output, hbw.size, hbw.block⟩⟩
          case measure => simp [RowKit.intOf]; omega
        · have hne : ((x : Int) == (y : Int)) = false := by simp; omega
          have HN := Lib.hid (show decide (x < y) = R by rw [← HL.out, hS.out, if_neg hxy])
          clear hS
          go_wp2
          go_quiet (fail)
          go_wp2
          go_quiet (fail)
          go_wp2
          go_ret
          refine ⟨ret_bool ?_, ⟨hbw.os, hbw.tape, hbw.output, hbw.size, hbw.block⟩⟩
          rw [← HN.out]
      · have h2' : decide ((i : Int) < (b.length : Int)) = false := by simp; omega
        have HN := Lib.hid (show decide (a.length < b.length) = R by
          rw [← HL.out]
          unfold lessFrom
          rw [if_neg (by omega)])
        go_wp2
        go_ret
        refine ⟨ret_bool ?_, hbw⟩
        rw [← HN.out]
    · have h1' : decide ((i : Int) < (a.length : Int)) = false := by simp; omega
      have HN := Lib.hid (show decide (a.length < b.length) = R by
        rw [← HL.out]
        cases f with
        | zero => rfl
        | succ f => unfold lessFrom; rw [if_neg (by omega)])
      go_wp2
      go_ret
      refine ⟨ret_bool ?_, hbw⟩
      rw [← HN.out]

set_option maxRecDepth 100000 in
/-- each name is above the one ahead of it -/
theorem names_rise : ∀ i, i < 60 → lessFrom (nameL.getD i []) (nameL.getD (i + 1) []) (nameL.getD i []).length 0 = true := by decide
end Go.Proofs.YtcfljaajhkifmaaDoor
