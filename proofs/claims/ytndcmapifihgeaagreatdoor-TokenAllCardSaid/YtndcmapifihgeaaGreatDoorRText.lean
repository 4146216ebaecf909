/- The reference's Text. -/
import Derived.Test.YtndcmapifihgeaaGreatDoorRRead
import Derived.Test.YtndcmapifihgeaaGreatDoorSpk
namespace Go.Proofs.YtndcmapifihgeaaGreatDoor
open Go.RowKit Go.Lib
open Ch (at0 nx nx_width nx_range at0_lt at0_drop enc_len Sl Sl.below Cells ret_two Cells.drop ret_str nxAt nxAt_in refNext_any)
open En (join_one)

/-- where the reference's loop stands -/
def RTRel (attr : Bool) (p : List UInt8) (i : Nat) (w : World) (v9 v11 : Value) (wr : World) : Prop :=
  ∃ (j : Nat) (acc : List UInt8), v9 = .string ⟨acc.toArray⟩ ∧ v11 = .int .i64 (j : Int) ∧ i ≤ j ∧ j ≤ p.length ∧ Below w.heap.size w wr ∧ acc ++ txt attr (p.drop j) = txt attr (p.drop i)

theorem txt_acc2 {attr : Bool} {p acc : List UInt8} {i j : Nat} (h : acc ++ txt attr (p.drop j) = txt attr (p.drop i)) : acc.length ≤ 5 * p.length := by
  have := txt_len attr p.length (p.drop i) (by simp)
  rw [← h] at this
  simp at this
  omega

theorem take_drop (l : List UInt8) (i n : Nat) : (l.take (i + n)).drop i = (l.drop i).take n := by
  rw [List.drop_take]
  congr 1
  omega

theorem nx_ok (l : List UInt8) : ok (nx l).1 := by
  have := nx_range l
  unfold ok
  omega

set_option maxHeartbeats 4000000 in
set_option maxRecDepth 100000 in
theorem refText_in (l : List UInt8) (b off cap : Nat) (i n : Nat) (attr : Bool) (w : World) (hc : Cells l b off w) (hcap : l.length ≤ cap) (hin : i + n ≤ l.length) (hl : l.length ≤ 1000000) :
    Calls Tryz.prog 18 #[.slice (some ⟨b, off, none⟩) l.length cap, .int .i64 (i : Int), .int .i64 ((i : Int) + (n : Int)), .bool attr] w fun e w' => e = .returned (.string ⟨(txt attr ((l.drop i).take n)).toArray⟩) ∧ Below w.heap.size w w' := by
  rw [← take_drop]
  obtain ⟨N, hN⟩ : ∃ N, i + n = N := ⟨_, rfl⟩
  have hNi : (i : Int) + (n : Int) = (N : Int) := by omega
  rw [hN, hNi]
  rw [hN] at hin
  have hiN : i ≤ N := by omega
  clear hN hNi n
  obtain ⟨p, hp⟩ : ∃ p, l.take N = p := ⟨_, rfl⟩
  have hpl : p.length = N := by rw [← hp]; simp; omega
  have hpc : Cells p b off w := by rw [← hp]; exact Cells.take hc N
  have hps : Sl p (some ⟨b, off, none⟩) cap w := ⟨by omega, Or.inr ⟨b, off, rfl, hpc⟩⟩
  rw [hp]
  clear hp hpc hc
  have e2 : (N : Int) ≤ (l.length : Int) := by omega
  have e3 : N ≤ cap := by omega
  have HPL := Lib.hid hpl
  have hN1 : N ≤ 1000000 := by omega
  go_enter Tryz.func18, Tryz.ntmps18
  go_wp2
  go_loopw [9, 11] (fun v9 v11 wr => RTRel attr p i w v9 v11 wr) (fun _ v11 _ => ((N : Int) - RowKit.intOf v11).toNat)
  case atStart => exact ⟨i, [], rfl, rfl, Nat.le_refl _, by omega, Below.refl _ _, rfl⟩
  case round =>
    obtain ⟨j, acc, rfl, rfl, hij, hj, hbw, hacc⟩ := hrel
    have hsz := hbw.size
    have hal := txt_acc2 hacc
    have HACC := Lib.hid hacc
    clear hacc
    have hsr := hps.below hbw
    by_cases hlt : j < N
    · have hlt' : (j : Int) < (N : Int) := by omega
      have hjm : j < p.length := by omega
      have hR := refRead_any p (some ⟨b, off, none⟩) cap (j : Int) attr wr hsr (by omega)
      rw [rdAt_in hjm, HPL.out] at hR
      have hne := drop_ne hjm
      cases hr : rd (p.drop j) attr with
      | none =>
        rw [hr, show sh j none = none from rfl, resR_none rfl] at hR
        have hst := Lib.hid (txt_char hne hr)
        have hw := nx_width _ hne
        have hok := Lib.hid (nx_ok (p.drop j))
        rw [List.drop_drop] at hst
        simp only [List.length_drop] at hw
        have hNx : ∀ w1, Below wr.heap.size wr w1 → Calls Tryz.prog 35 #[.slice (some ⟨b, off, none⟩) N cap, .int .i64 (j : Int)] w1 fun e w' => e = .returned (.tuple #[.int .i64 ((nx (p.drop j)).1 : Nat), .int .i64 ((nx (p.drop j)).2 : Nat)]) ∧ w1 = w' := by
          intro w1 hb1
          have := refNext_any p (some ⟨b, off, none⟩) cap (j : Int) w1 (hsr.below hb1) (by omega)
          rw [nxAt_in hjm, HPL.out] at this
          exact this
        clear hne hr
        generalize nx (p.drop j) = R at hNx hw hok hst
        obtain ⟨c, k⟩ := R
        simp only at hw hst hNx
        go_wp2_with fail
        refine hR.mono ?_
        rintro e w1 ⟨rfl, hb1⟩
        have hz1 := hb1.size
        go_wp2_with fail
        refine (hNx w1 hb1).mono ?_
        rintro e w2 ⟨rfl, rfl⟩
        obtain ⟨q, hq⟩ : ∃ q, encodeRune (c : Int) = q := ⟨_, rfl⟩
        have hql : q.length ≤ 4 := by rw [← hq]; exact (enc_len _).2
        have HQ := Lib.hid hq
        clear hq
        go_wp2_with fail
        refine (utf_ok c w1 hok.out).mono ?_
        rintro e w3 ⟨cap3, rfl, hcs, hb3⟩
        rw [HQ.out] at hcs ⊢
        have hstr := string_cells (cap := cap3) hcs rfl
        have kp : ¬ (9223372036854775807 < acc.length + q.length) := by omega
        have hjoin := join_one acc q
        go_wp2
        go_roundw
        case rel =>
          refine ⟨j + k, acc ++ q, ?_, by go_num, by omega, by omega, ?_, ?_⟩
          · first | rfl | (rw [hjoin])
          · exact (hbw.trans (hb1.mono hsz)).trans (hb3.mono (by omega))
          · rw [List.append_assoc, ← HQ.out, ← hst.out]; exact HACC.out
        case measure => simp [RowKit.intOf]; omega
      | some pr =>
        obtain ⟨s, e⟩ := pr
        have hbd := rd_bd hr
        rw [hr, show sh j (some (s, e)) = some (s, j + e) from rfl, resR_some rfl rfl] at hR
        have hst := Lib.hid (txt_ref hr)
        rw [List.drop_drop] at hst
        simp only [List.length_drop] at hbd
        have g1 : (0 : Int) ≤ (j : Int) + (e : Int) := by omega
        have kp : ¬ (9223372036854775807 < acc.length + s.length) := by omega
        have hjoin := join_one acc s
        clear hne hr
        go_wp2_with fail
        refine hR.mono ?_
        rintro e1 w1 ⟨rfl, hb1⟩
        go_wp2
        go_roundw
        case rel =>
          refine ⟨j + e, acc ++ s, ?_, by go_num, by omega, by omega, ?_, ?_⟩
          · first | rfl | (rw [hjoin])
          · exact hbw.trans (hb1.mono hsz)
          · rw [List.append_assoc, ← hst.out]; exact HACC.out
        case measure => simp [RowKit.intOf]; omega
    · have hlt' : ¬ (j : Int) < (N : Int) := by omega
      have hend := Lib.hid (show acc = txt attr (p.drop i) by
        have := HACC.out
        rw [List.drop_of_length_le (by omega), txt_nil, List.append_nil] at this
        exact this)
      clear hlt
      go_wp2
      go_ret
      exact ⟨ret_str (l := acc) hend.out, hbw⟩

set_option maxHeartbeats 1000000 in
set_option maxRecDepth 100000 in
theorem refText_nil (attr : Bool) (w : World) :
    Calls Tryz.prog 18 #[.slice none 0 0, .int .i64 0, .int .i64 0, .bool attr] w fun e w' => e = .returned (.string ⟨#[]⟩) ∧ Below w.heap.size w w' := by
  go_enter Tryz.func18, Tryz.ntmps18
  go_wp2
  go_loopw [9, 11] (fun v9 v11 wr => v9 = .string ⟨#[]⟩ ∧ v11 = .int .i64 0 ∧ wr = w) (fun _ _ _ => 0)
  case atStart => exact ⟨rfl, rfl, rfl⟩
  case round =>
    obtain ⟨rfl, rfl, rfl⟩ := hrel
    go_wp2
    go_ret
    exact ⟨rfl, Below.refl _ _⟩

theorem refText_any (l : List UInt8) (a : Option Addr) (cap : Nat) (i n : Nat) (x y : Int) (attr : Bool) (w : World) (hs : Sl l a cap w) (hnil : a = none → l.length = 0 ∧ cap = 0) (ha : a = none ∨ ∃ b off, a = some ⟨b, off, none⟩) (hx : x = (i : Int)) (hy : y = (i : Int) + (n : Int)) (hin : i + n ≤ l.length) (hl : l.length ≤ 1000000) :
    Calls Tryz.prog 18 #[.slice a l.length cap, .int .i64 x, .int .i64 y, .bool attr] w fun e w' => e = .returned (.string ⟨(txt attr ((l.drop i).take n)).toArray⟩) ∧ Below w.heap.size w w' := by
  subst hx hy
  rcases ha with rfl | ⟨b, off, rfl⟩
  · obtain ⟨h1, rfl⟩ := hnil rfl
    obtain rfl : l = [] := List.eq_nil_of_length_eq_zero h1
    obtain rfl : i = 0 := by simp at hin; omega
    obtain rfl : n = 0 := by simp at hin; omega
    exact refText_nil attr w
  · obtain ⟨hcap, h2 | ⟨b', off', hb, hc⟩⟩ := hs
    · subst h2
      exact refText_in [] b off cap i n attr w (fun j hj => absurd hj (by simp)) hcap hin hl
    · cases hb
      exact refText_in l b off cap i n attr w hc hcap hin hl
end Go.Proofs.YtndcmapifihgeaaGreatDoor
