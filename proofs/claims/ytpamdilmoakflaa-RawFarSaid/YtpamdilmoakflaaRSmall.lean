/- The reference's Small: a text with small letters, byte by byte. -/
import Derived.Test.YtpamdilmoakflaaAp
import Derived.Laws.IdiomStrings
import Derived.Laws.AppendOwn
namespace Go.Proofs.Ytpamdilmoakflaa
open Go.RowKit Go.Lib

set_option maxHeartbeats 400000 in
theorem refLower_any (x : Int) (w : World) :
    Calls Try.prog 17 #[.int .i64 x] w fun e w' => e = .returned (.int .i64 (lowerZ x)) ∧ w = w' := by
  by_cases h1 : 65 ≤ x
  · by_cases h2 : x ≤ 90
    · have e : lowerZ x = x + 32 := by simp [lowerZ, greatZ, h1, h2]
      rw [e]
      clear e
      go_enter Try.func17, Try.ntmps17
      go_wp2
      go_ret
      exact ⟨rfl, rfl⟩
    · have e : lowerZ x = x := by simp [lowerZ, greatZ, h2]
      rw [e]
      clear e
      have h2' : decide (x ≤ 90) = false := decide_eq_false h2
      go_enter Try.func17, Try.ntmps17
      go_wp2
      go_ret
      exact ⟨rfl, rfl⟩
  · have e : lowerZ x = x := by simp [lowerZ, greatZ, h1]
    rw [e]
    clear e
    have h1' : decide (65 ≤ x) = false := decide_eq_false h1
    go_enter Try.func17, Try.ntmps17
    go_wp2
    go_ret
    exact ⟨rfl, rfl⟩

theorem wrap64_byte (n : Nat) (h : n < 256) : wrap64 (n : Int) = n := by unfold wrap64; omega

/-- a string's byte, as an int -/
theorem idx_str (m : List UInt8) (i : Nat) (h : i < (⟨m.toArray⟩ : ByteArray).size) : wrap64 (((⟨m.toArray⟩ : ByteArray)[i]'h).toNat : Int) = (at0 m i : Int) := by
  have hi : i < m.length := by rw [str_size] at h; exact h
  rw [wrap64_byte _ (UInt8.toNat_lt _), getD_at0 hi]
  rfl


/-- 'string(b)' of a row of one's own -/
theorem string_own {w : World} {B : Nat} {v : Value} {acc : List UInt8} (h : w.ownsRow B 5 1 v acc.length (Lib.byteCells acc)) :
    (convert 22 9 v).run Try.prog w = .ok (.string ⟨acc.toArray⟩) w := by
  rcases h.2 with ⟨hv, h0⟩ | ⟨g, cap, cur, hv, hg, hh, r⟩
  · subst hv
    obtain rfl : acc = [] := List.eq_nil_of_length_eq_zero h0
    exact run_convert_bytes_nil w 22 5 Try.underlying22 Try.underlying5 0 0 9 Try.underlying9
  · subst hv
    refine run_convert_bytes_back w 22 9 5 ⟨g, 0, none⟩ cap acc Try.underlying22 Try.underlying5 Try.underlying9 fun j hj => ?_
    refine h.cells rfl j _ ?_
    simp [Lib.byteCells, List.getElem?_eq_getElem hj]

theorem small_snoc (l : List UInt8) (i : Nat) (h : i < l.length) : smallL (l.take (i + 1)) = smallL (l.take i) ++ [lowB l[i]] := by
  rw [take_snoc h, smallL_append]
  rfl

theorem refLower_at (m : List UInt8) (i : Nat) (h : i < (⟨m.toArray⟩ : ByteArray).size) (w : World) :
    Calls Try.prog 17 #[.int .i64 (wrap64 (((⟨m.toArray⟩ : ByteArray)[i]'h).toNat : Int))] w fun e w' => e = .returned (.int .i64 (lowerZ (at0 m i))) ∧ w = w' := by
  rw [idx_str]
  exact refLower_any _ w

def RSmallRel (l : List UInt8) (w : World) (v3 v4 : Value) (wr : World) : Prop :=
  ∃ i : Nat, v4 = .int .i64 i ∧ i ≤ l.length ∧ wr.ownsRow w.heap.size 5 1 v3 (smallL (l.take i)).length (Lib.byteCells (smallL (l.take i))) ∧ Below w.heap.size w wr

set_option maxHeartbeats 1000000 in
set_option maxRecDepth 100000 in
theorem refSmall_any (l : List UInt8) (w : World) (hl : l.length ≤ 1000000) :
    Calls Try.prog 14 #[.string ⟨l.toArray⟩] w fun e w' => e = .returned (.string ⟨(smallL l).toArray⟩) ∧ Below w.heap.size w w' := by
  obtain ⟨i5, hi5, hp5⟩ := info5
  simp only [Prod.mk.injEq] at hp5
  obtain ⟨hz5, hsz5, hby5⟩ := hp5
  have HI5 := Lib.hid hi5
  have HZ5 := Lib.hid hz5
  have HS5 := Lib.hid hsz5
  have HB5 := Lib.hid hby5
  clear hi5 hz5 hsz5 hby5
  go_enter Try.func14, Try.ntmps14
  go_wp2
  go_loopw [3, 4] (fun v3 v4 wr => RSmallRel l w v3 v4 wr) (fun _ v4 _ => ((l.length : Int) - RowKit.intOf v4).toNat)
  case atStart =>
    refine ⟨0, rfl, Nat.zero_le _, ⟨by simp [Lib.byteCells, smallL], Or.inr ⟨w.heap.size, 0, #[], by simp [smallL], Nat.le_refl _, ?_, by simp [smallL], by simp, by simp, by simp [Lib.byteCells, smallL]⟩⟩, (Below.refl _ w).alloc (Nat.le_refl _) _⟩
    simp [World.alloc, -World.alloc_eq]
  case round =>
    obtain ⟨i, rfl, hil, hI, hbw⟩ := hrel
    have hsz := hbw.size
    by_cases hi : i < l.length
    · have hi' : (i : Int) < (l.length : Int) := by omega
      have hL := refLower_at l i (by rw [str_size]; exact hi) wr
      have hb2 : Below wr.heap.size wr (wr.alloc (.cells #[.int .u8 (lowerZ (at0 l i : Int) % 256)] 5)) := (Below.refl _ wr).alloc (Nat.le_refl _) _
      have hown := ownsRow_below hI hb2
      have hsn := Lib.hid (small_snoc l i hi)
      have hlo := Lib.hid (low_at hi)
      have hlen : (smallL (l.take i)).length ≤ 1000000 := by rw [smallL_length, List.length_take]; omega
      go_wp2_with fail
      refine hL.mono ?_
      rintro e w' ⟨rfl, rfl⟩
      go_wp2_with (at_builtin; refine wpList_append_own _ rfl (.tmp 12) (.tmp 19) 22 rfl w.heap.size 5 i5 (.int .u8 0) 1 1 Try.underlying22 HI5.out HZ5.out HS5.out HB5.out rfl (by decide) _ _ _ rfl hown ⟨wr.heap.size, 0, none⟩ _ _ [.int .u8 (lowerZ (at0 l i : Int) % 256)] rfl ?c0 ?c1 ?c2 ?c3 ?c4 ?c5 ?_)
      case c0 => simp
      case c1 =>
        intro j u hj
        rw [addr_add0]
        have hj0 : j = 0 := by
          cases j with
          | zero => rfl
          | succ j => simp at hj
        subst hj0
        simp at hj
        subst hj
        simp [World.cell?, World.alloc, -World.alloc_eq]
      case c2 =>
        intro u hu
        simp at hu
        subst hu
        rfl
      case c3 => unfold maxLen; omega
      case c4 => omega
      case c5 => have := hb2.size; omega
      intro v' w3 hown' hgrow _
      go_wp2
      go_roundw
      case rel =>
        refine ⟨i + 1, by go_num, by omega, ?_, ?_⟩
        · rw [hsn.out, Lib.byteCells_append, List.length_append, show Lib.byteCells [lowB l[i]] = [.int .u8 (lowerZ (at0 l i : Int) % 256)] by rw [hlo.out]; rfl]
          exact hown'
        · exact (hbw.trans (hb2.mono hsz)).grown hgrow (by have := hb2.size; omega) (fun k hk => (hown.lt k hk).1)
      case measure => simp [RowKit.intOf]; omega
    · have hi' : ¬ (i : Int) < (l.length : Int) := by omega
      have hstr := string_own hI
      go_wp2
      go_ret
      refine ⟨ret_str ?_, hbw⟩
      rw [List.take_of_length_le (by omega)]
end Go.Proofs.Ytpamdilmoakflaa
