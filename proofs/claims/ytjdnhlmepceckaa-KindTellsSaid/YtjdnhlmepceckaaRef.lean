/- The reference's Lists, in, one, walked. -/
import Derived.Test.YtjdnhlmepceckaaMath
import Derived.WalkKit
import Derived.LoopTactic
import Derived.Below
import Derived.Lib.Hide
import Derived.Lib.SmallJoins
import Derived.BigQuiet
import Derived.Deep.QuietTactic
import Derived.Laws.Strings2
namespace Go.Proofs.Ytjdnhlmepceckaa
open Go.RowKit Go.Lib

theorem str_size (l : List UInt8) : (⟨l.toArray⟩ : ByteArray).size = l.length := rfl

set_option maxHeartbeats 4000000 in
set_option maxRecDepth 100000 in
theorem lists_any (w : World) :
    Calls Try.prog 8 #[] w fun e w' => e = .returned (.slice (some ⟨w.heap.size, 0, none⟩) 10 10) ∧ Below w.heap.size w w' ∧ ∀ k, k < 10 → w'.cell? ⟨w.heap.size, k, none⟩ = some (.string ⟨(S k).toArray⟩) := by
  go_enter Try.func8, Try.ntmps8
  go_wp2
  go_ret
  refine ⟨rfl, (Below.refl _ w).alloc (Nat.le_refl _) _, fun k hk => ?_⟩
  have : ∀ cs : Array Value, cs[k]? = some (.string ⟨(S k).toArray⟩) → (w.alloc (.cells cs 9)).cell? ⟨w.heap.size, k, none⟩ = some (.string ⟨(S k).toArray⟩) := by
    intro cs h
    simp [World.cell?, World.alloc, -World.alloc_eq]
    exact h
  refine this _ ?_
  clear this
  obtain rfl | rfl | rfl | rfl | rfl | rfl | rfl | rfl | rfl | rfl : k = 0 ∨ k = 1 ∨ k = 2 ∨ k = 3 ∨ k = 4 ∨ k = 5 ∨ k = 6 ∨ k = 7 ∨ k = 8 ∨ k = 9 := by omega
  all_goals kernel_rfl

theorem slice_str (s : List UInt8) (i n : Nat) (W : World) (h : i + n ≤ s.length) :
    (Instr.slice 9 (.string ⟨s.toArray⟩) (some (.int .i64 (i : Int))) (some (.int .i64 ((i : Int) + (n : Int)))) none).run Try.prog W = .ok (.string ⟨((s.drop i).take n).toArray⟩) W := by
  rw [run_slice_string W 9 ⟨s.toArray⟩ .i64 .i64 (i : Int) ((i : Int) + (n : Int)) (by kernel_rfl) (by omega) (by omega) (by rw [str_size]; omega)]
  rw [Lib.extract_eq]
  congr 4
  simp
  omega

/-- where the loop of 'in' stands -/
def InRel (s p : List UInt8) (w : World) (v5 : Value) (wr : World) : Prop :=
  ∃ i : Nat, v5 = .int .i64 (i : Int) ∧ i ≤ s.length + 1 ∧ (∀ j, j < i → ¬ (j + p.length ≤ s.length ∧ (s.drop j).take p.length = p)) ∧ w = wr

theorem ret_bool {a b : Bool} (h : a = b) : Ending.returned (.bool a) = .returned (.bool b) := by rw [h]

set_option maxHeartbeats 2000000 in
set_option maxRecDepth 100000 in
theorem in_any (s p : List UInt8) (R : Bool) (hR : R = true ↔ Sub s p) (w : World) (hs : s.length ≤ 1000000) (hp : p.length ≤ 1000000) :
    Calls Try.prog 11 #[.string ⟨s.toArray⟩, .string ⟨p.toArray⟩] w fun e w' => e = .returned (.bool R) ∧ w = w' := by
  have HR := Lib.hid hR
  clear hR
  go_enter Try.func11, Try.ntmps11
  go_wp2
  go_loopw [5] (fun v wr => InRel s p w v wr) (fun v _ => s.length + 1 - (RowKit.intOf v).toNat)
  case atStart => exact ⟨0, rfl, by omega, fun j hj => by omega, rfl⟩
  case round =>
    obtain ⟨i, rfl, hi, hno, rfl⟩ := hrel
    have HN := Lib.hid hno
    clear hno
    by_cases h1 : i + p.length ≤ s.length
    · have h1' : (i : Int) + (p.length : Int) ≤ (s.length : Int) := by omega
      have hsl := slice_str s i p.length w h1
      have hb : i ≤ s.length := by omega
      cases he : ((s.drop i).take p.length == p)
      · have HN2 := Lib.hid (show ∀ j, j < i + 1 → ¬ (j + p.length ≤ s.length ∧ (s.drop j).take p.length = p) from fun j hj => by
          by_cases hji : j = i
          · subst hji; intro h; rw [h.2] at he; simp at he
          · exact HN.out j (by omega))
        generalize (s.drop i).take p.length = t at hsl he
        go_wp2
        go_roundw
        case rel => exact ⟨i + 1, by go_num, by omega, HN2.out, rfl⟩
        case measure => simp [RowKit.intOf]; omega
      · have HF := Lib.hid (show true = R from (HR.out.2 ⟨i, h1, by simpa using he⟩).symm)
        generalize (s.drop i).take p.length = t at hsl he
        go_wp2
        go_ret
        exact ⟨ret_bool HF.out, rfl⟩
    · have h1' : ¬ ((i : Int) + (p.length : Int) ≤ (s.length : Int)) := by omega
      have HF := Lib.hid (show false = R by
        cases hr : R
        · rfl
        · obtain ⟨j, hj, he⟩ := HR.out.1 hr
          exact absurd ⟨hj, he⟩ (HN.out j (by omega)))
      go_wp2
      go_ret
      exact ⟨ret_bool HF.out, rfl⟩

/-- where the loop of 'one' stands -/
def OneRel (s : List UInt8) (w : World) (v3 : Value) (wr : World) : Prop :=
  ∃ i : Nat, v3 = .int .i64 (i : Int) ∧ i ≤ s.length ∧ (∀ j, j < i → (s.getD j 0).toNat ≠ 32) ∧ w = wr

theorem idx_at (m : List UInt8) (i : Nat) (h : i < (⟨m.toArray⟩ : ByteArray).size) : ((⟨m.toArray⟩ : ByteArray)[i]'h).toNat = (m.getD i 0).toNat := by
  have hi : i < m.length := by rw [str_size] at h; exact h
  have : ((⟨m.toArray⟩ : ByteArray)[i]'h) = m[i] := rfl
  rw [this, List.getD_eq_getElem?_getD, List.getElem?_eq_getElem hi]
  rfl

set_option maxHeartbeats 2000000 in
set_option maxRecDepth 100000 in
theorem one_any (s : List UInt8) (R : Bool) (hR : R = true ↔ (32 ∉ s ∧ s ≠ [])) (w : World) (hs : s.length ≤ 1000000) :
    Calls Try.prog 10 #[.string ⟨s.toArray⟩] w fun e w' => e = .returned (.bool R) ∧ w = w' := by
  have HR := Lib.hid hR
  clear hR
  go_enter Try.func10, Try.ntmps10
  go_wp2
  go_loopw [3] (fun v wr => OneRel s w v wr) (fun v _ => s.length - (RowKit.intOf v).toNat)
  case atStart => exact ⟨0, rfl, by omega, fun j hj => by omega, rfl⟩
  case round =>
    obtain ⟨i, rfl, hi, hno, rfl⟩ := hrel
    by_cases h1 : i < s.length
    · have h1' : (i : Int) < (s.length : Int) := by omega
      have ea := idx_at s i (by rw [str_size]; exact h1)
      by_cases hc : (s.getD i 0).toNat = 32
      · have HF := Lib.hid (show false = R by
          cases hr : R
          · rfl
          · exfalso
            refine (HR.out.1 hr).1 ?_
            rw [List.getD_eq_getElem?_getD, List.getElem?_eq_getElem h1] at hc
            have : s[i] = 32 := UInt8.toNat_inj.1 hc
            rw [← this]
            exact List.getElem_mem _)
        have HN := Lib.hid hno
        clear hno
        rw [hc] at ea
        clear hc
        go_wp2
        go_ret
        exact ⟨ret_bool HF.out, rfl⟩
      · have HN := Lib.hid (show ∀ j, j < i + 1 → (s.getD j 0).toNat ≠ 32 from fun j hj => by
          by_cases hji : j = i
          · subst hji; exact hc
          · exact hno j (by omega))
        clear hno
        generalize (s.getD i 0).toNat = c at ea hc
        have hne : ((c : Int) == 32) = false := by simp; omega
        go_wp2
        go_roundw
        case rel => exact ⟨i + 1, by go_num, by omega, HN.out, rfl⟩
        case measure => simp [RowKit.intOf]; omega
    · have h1' : ¬ ((i : Int) < (s.length : Int)) := by omega
      have HF := Lib.hid (show decide (0 < s.length) = R by
        have h32 : 32 ∉ s := by
          intro hm
          obtain ⟨j, hj, he⟩ := List.getElem_of_mem hm
          refine hno j (by omega) ?_
          rw [List.getD_eq_getElem?_getD, List.getElem?_eq_getElem hj]
          simp [he]
        cases hr : R
        · have : ¬ (0 < s.length) := fun h => by
            have := HR.out.2 ⟨h32, by intro e; rw [e] at h; simp at h⟩
            rw [hr] at this
            cases this
          exact decide_eq_false (by omega)
        · have := (HR.out.1 hr).2
          have : 0 < s.length := List.length_pos_iff.2 this
          exact decide_eq_true (by omega))
      clear hno
      go_wp2
      go_ret
      exact ⟨ret_bool HF.out, rfl⟩
end Go.Proofs.Ytjdnhlmepceckaa
