/- The law's own blanks: so many of them, one behind the other. -/
import Derived.Test.YtjbiebbcjofjeaaDoorName
namespace Go.Proofs.YtjbiebbcjofjeaaDoor
open Go.RowKit Go.Lib

theorem str_join (a b : List UInt8) : (⟨a.toArray⟩ ++ ⟨b.toArray⟩ : ByteArray) = ⟨(a ++ b).toArray⟩ := by
  apply ByteArray.ext
  simp [ByteArray.data_append]

/-- blanks alone -/
def AllBl (B : List UInt8) : Prop := B.all bl = true

/-- a text of blanks alone, of so many bytes -/
def Blanks (n : Nat) (v : Value) : Prop := ∃ B : List UInt8, v = .string ⟨B.toArray⟩ ∧ AllBl B ∧ B.length = n

theorem Blanks.more {n : Nat} {B : List UInt8} (h : AllBl B) (hn : B.length = n) {c : UInt8} (hc : bl c = true) : Blanks (n + 1) (.string (⟨B.toArray⟩ ++ ⟨#[c]⟩)) := by
  refine ⟨B ++ [c], congrArg Value.string (str_join B [c]), ?_, by simp [hn]⟩
  unfold AllBl at h ⊢
  rw [List.all_append, h]
  simp [hc]

theorem four (w : World) (m : Nat) : ∃ c : UInt8, bl c = true ∧ (w.alloc (.cells #[.string ⟨#[32]⟩, .string ⟨#[9]⟩, .string ⟨#[10]⟩, .string ⟨#[12]⟩] 9)).cell? ⟨w.heap.size, m % 4, none⟩ = some (.string ⟨#[c]⟩) := by
  have h4 : m % 4 = 0 ∨ m % 4 = 1 ∨ m % 4 = 2 ∨ m % 4 = 3 := by omega
  rcases h4 with h | h | h | h
  · exact ⟨32, by decide, by rw [h]; simp [go_sem]⟩
  · exact ⟨9, by decide, by rw [h]; simp [go_sem]⟩
  · exact ⟨10, by decide, by rw [h]; simp [go_sem]⟩
  · exact ⟨12, by decide, by rw [h]; simp [go_sem]⟩

def BlanksRel (w : World) (N : Nat) (v3 v8 : Value) (wr : World) : Prop :=
  ∃ k : Nat, v8 = .int .i64 k ∧ k ≤ N ∧ Blanks k v3 ∧ Below w.heap.size w wr

set_option maxHeartbeats 1000000 in
set_option maxRecDepth 100000 in
theorem blanks_any (n : Nat) (w : World) (hn : n < 256) :
    Calls Tryd.prog 13 #[.int .u8 (n : Int)] w fun e w' => (∃ B : List UInt8, e = .returned (.string ⟨B.toArray⟩) ∧ AllBl B ∧ B.length ≤ 7) ∧ Below w.heap.size w w' := by
  obtain ⟨N, hN, hN7⟩ : ∃ N : Nat, (n : Int) % 8 = (N : Int) ∧ N ≤ 7 := ⟨n % 8, by omega, by omega⟩
  go_enter Tryd.func13, Tryd.ntmps13
  go_wp2
  go_loopw [3, 8] (fun v3 v8 wr => BlanksRel w N v3 v8 wr) (fun _ v8 _ => ((N : Int) - RowKit.intOf v8).toNat)
  case atStart => exact ⟨0, rfl, Nat.zero_le _, ⟨[], rfl, rfl, rfl⟩, Below.refl _ _⟩
  case round =>
    obtain ⟨k, rfl, hk, ⟨B, rfl, hB, hBn⟩, hbw⟩ := hrel
    by_cases hlt : k < N
    · have hlt' : (k : Int) < (N : Int) := by omega
      clear hN
      obtain ⟨c, hc, hcell⟩ := four wr (k + n)
      have hkk : ¬ (9223372036854775807 < B.length + 1) := by omega
      have hbb : Below w.heap.size w (wr.alloc (.cells #[.string ⟨#[32]⟩, .string ⟨#[9]⟩, .string ⟨#[10]⟩, .string ⟨#[12]⟩] 9)) := below_two hbw ((Below.refl _ wr).alloc (Nat.le_refl _) _)
      go_wp2
      go_roundw
      case rel => exact ⟨k + 1, by go_num, by omega, Blanks.more hB hBn hc, hbb⟩
      case measure => simp [RowKit.intOf]; omega
    · have hlt' : ¬ (k : Int) < (N : Int) := by omega
      clear hN
      go_wp2
      go_ret
      exact ⟨⟨B, rfl, hB, by omega⟩, hbw⟩
end Go.Proofs.YtjbiebbcjofjeaaDoor
