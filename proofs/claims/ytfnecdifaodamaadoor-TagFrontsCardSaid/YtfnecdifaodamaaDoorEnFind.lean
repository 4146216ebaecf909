/- The program's Find, walked: the longest front of a text that is a name. -/
import Derived.Test.YtfnecdifaodamaaDoorEnOf
import Derived.Test.YtfnecdifaodamaaDoorEnShelf
namespace Go.Proofs.YtfnecdifaodamaaDoor.En
open Go.RowKit Go.Lib

theorem ret_bool {a b : Bool} (h : a = b) : Ending.returned (.bool a) = .returned (.bool b) := by rw [h]
theorem ret_find {a b : Int} {s t : List UInt8} (h : a = b) (h' : s = t) : Ending.returned (.tuple #[.int .i64 a, .string ⟨s.toArray⟩]) = .returned (.tuple #[.int .i64 b, .string ⟨t.toArray⟩]) := by rw [h, h']
theorem str_size (l : List UInt8) : (⟨l.toArray⟩ : ByteArray).size = l.length := by simp [ByteArray.size]

theorem cut_any (l : List UInt8) (w : World) (hl : l.length ≤ 9223372036854775807) :
    Calls Tryd.prog 98 #[.string ⟨l.toArray⟩, .string ⟨#[59]⟩] w fun e w' => e = .returned (.tuple #[.string ⟨(bare l).toArray⟩, .bool (semi l)]) ∧ w = w' := by
  refine (Tryd.strings_CutSuffix ⟨l.toArray⟩ ⟨#[59]⟩ w (by simpa [ByteArray.size] using hl)).mono ?_
  rintro e w' ⟨rfl, rfl⟩
  exact ⟨rfl, rfl⟩

theorem mean_mk {l c : List UInt8} (h : look mkL (bare l) = c) (hc : c ≠ []) : mean l = c := by
  unfold mean; rw [if_pos (Or.inl (by rw [h]; exact hc)), h]
theorem mean_no {l : List UInt8} (h : look mkL (bare l) = []) (hs : semi l = false) : mean l = [] := by
  unfold mean; rw [if_pos (Or.inr hs), h]
theorem mean_ot {l : List UInt8} (h : look mkL (bare l) = []) (hs : semi l = true) : mean l = look otL (bare l) := by
  unfold mean; rw [if_neg (by simp [h, hs])]

set_option maxHeartbeats 4000000 in
set_option maxRecDepth 100000 in
theorem meaning_any (l : List UInt8) (w : World) (hl : l.length ≤ 9223372036854775807) :
    Calls Tryd.prog 97 #[.string ⟨l.toArray⟩] w fun e w' => e = .returned (.string ⟨(mean l).toArray⟩) ∧ w = w' := by
  have c1 := cut_any l w hl
  have c2 := ofMarked_any (bare l) w
  have c3 := ofOthers_any (bare l) w
  cases hM : look mkL (bare l) with
  | cons c r =>
    rw [mean_mk hM (by simp)]
    rw [hM] at c2
    clear hM c3
    have ht : ((c :: r) == ([] : List UInt8)) = false := rfl
    generalize bare l = b at c1 c2
    generalize semi l = s at c1
    generalize c :: r = q at c2 ht ⊢
    go_enter Tryd.func97, Tryd.ntmps97
    go_wp2_with fail
    refine c1.mono ?_
    rintro e w' ⟨rfl, rfl⟩
    go_wp2_with fail
    refine c2.mono ?_
    rintro e w' ⟨rfl, rfl⟩
    go_wp2
    go_ret
    exact ⟨rfl, rfl⟩
  | nil =>
    rw [hM] at c2
    cases hs : semi l with
    | false =>
      rw [mean_no hM hs]
      rw [hs] at c1
      clear hM hs c3
      generalize bare l = b at c1 c2
      go_enter Tryd.func97, Tryd.ntmps97
      go_wp2_with fail
      refine c1.mono ?_
      rintro e w' ⟨rfl, rfl⟩
      go_wp2_with fail
      refine c2.mono ?_
      rintro e w' ⟨rfl, rfl⟩
      go_wp2
      go_ret
      exact ⟨rfl, rfl⟩
    | true =>
      rw [mean_ot hM hs]
      rw [hs] at c1
      clear hM hs
      generalize look otL (bare l) = q at c3
      generalize bare l = b at c1 c2 c3
      go_enter Tryd.func97, Tryd.ntmps97
      go_wp2_with fail
      refine c1.mono ?_
      rintro e w' ⟨rfl, rfl⟩
      go_wp2_with fail
      refine c2.mono ?_
      rintro e w' ⟨rfl, rfl⟩
      go_wp2_with fail
      refine c3.mono ?_
      rintro e w' ⟨rfl, rfl⟩
      go_wp2
      go_ret
      exact ⟨rfl, rfl⟩

/-- where the loop stands: so many bytes are still to be tried -/
def FindRel (l : List UInt8) (w : World) (v4 : Value) (wr : World) : Prop :=
  ∃ n : Nat, v4 = .int .i64 n ∧ n ≤ l.length ∧ n ≤ 8 ∧ findGo l n = findL l ∧ wr = w

theorem ext_front (l : List UInt8) (n : Nat) : (⟨l.toArray⟩ : ByteArray).extract 0 n = ⟨(l.take n).toArray⟩ := by
  apply ByteArray.ext
  rw [ByteArray.data_extract]
  simp

set_option maxHeartbeats 4000000 in
set_option maxRecDepth 100000 in
theorem find_any (l : List UInt8) (w : World) (hl : l.length ≤ 9223372036854775807) :
    Calls Tryd.prog 94 #[.string ⟨l.toArray⟩] w fun e w' => e = .returned (.tuple #[.int .i64 (findL l).1, .string ⟨(findL l).2.toArray⟩]) ∧ w = w' := by
  have hm : (min (l.length : Int) 8) = ((min l.length 8 : Nat) : Int) := by omega
  go_enter Tryd.func94, Tryd.ntmps94
  go_wp2
  clear hm
  go_loopw [4] (fun v4 wr => FindRel l w v4 wr) (fun v4 _ => (RowKit.intOf v4).toNat)
  case atStart => exact ⟨min l.length 8, rfl, by omega, by omega, rfl, rfl⟩
  case round =>
    obtain ⟨n, rfl, hn, hn8, hf, rfl⟩ := hrel
    have HF := Lib.hid hf
    clear hf
    cases n with
    | zero =>
      go_wp2
      go_ret2
      refine ⟨?_, rfl⟩
      rw [← HF.out]
      rfl
    | succ k =>
      have h0 : ((k + 1 : Nat) : Int) > 0 := by omega
      have h1 : ((k + 1 : Nat) : Int) ≤ (l.length : Int) := by omega
      have c := meaning_any (l.take (k + 1)) wr (by rw [List.length_take]; omega)
      rw [← ext_front] at c
      have HG := Lib.hid (show findGo l (k + 1) = if mean (l.take (k + 1)) ≠ [] then (k + 1, mean (l.take (k + 1))) else findGo l k from rfl)
      cases hm : mean (l.take (k + 1)) with
      | nil =>
        rw [hm] at c
        have HH := Lib.hid (show findGo l k = findL l by rw [← HF.out, HG.out, hm]; rfl)
        clear hm
        go_wp2_with fail
        refine c.mono ?_
        rintro e w' ⟨rfl, rfl⟩
        go_wp2
        go_roundw
        case rel => exact ⟨k, by go_num, by omega, by omega, HH.out, rfl⟩
        case measure => simp [RowKit.intOf]
      | cons x r =>
        rw [hm] at c
        have HH := Lib.hid (show findL l = (k + 1, x :: r) by rw [← HF.out, HG.out, hm]; rfl)
        have ht : ((x :: r) == ([] : List UInt8)) = false := rfl
        clear hm HG HF
        generalize x :: r = q at c ht HH
        go_wp2_with fail
        refine c.mono ?_
        rintro e w' ⟨rfl, rfl⟩
        go_wp2
        go_ret2
        rw [HH.out]
        exact ⟨rfl, rfl⟩

set_option maxRecDepth 100000 in
theorem find_one : findL [110, 111, 116, 105, 116] = (3, [194, 172]) ∧ findL [110, 111, 116, 105, 110, 59] = (6, [226, 136, 137]) := by decide

end Go.Proofs.YtfnecdifaodamaaDoor.En
