/- class.Name, and the reference's: whether a text is a plain name. -/
import Derived.Test.YtjbiebbcjofjeaaDoorRSmall
namespace Go.Proofs.YtjbiebbcjofjeaaDoor
open Go.RowKit Go.Lib

/-- may this character stand at this place of a plain name? -/
def okAt (i c : Nat) : Bool := smallN c || (decide (i ≠ 0) && (digitN c || c == 45))

/-- all from a place on may stand where they stand -/
def okFrom (l : List UInt8) (i : Nat) : Bool := (List.range' i (l.length - i)).all fun j => okAt j (at0 l j)

theorem okFrom_end (l : List UInt8) (i : Nat) (h : l.length ≤ i) : okFrom l i = true := by
  unfold okFrom
  rw [Nat.sub_eq_zero_of_le h]
  rfl
theorem okFrom_step (l : List UInt8) (i : Nat) (h : i < l.length) : okFrom l i = (okAt i (at0 l i) && okFrom l (i + 1)) := by
  unfold okFrom
  rw [show l.length - i = (l.length - (i + 1)) + 1 by omega, List.range'_succ]
  rfl

theorem okFrom_pos (l : List UInt8) : ∀ k i, 0 < i → l.length - i = k → okFrom l i = (l.drop i).all inName
  | 0, i, _, h => by
    rw [okFrom_end l i (by omega), List.drop_of_length_le (by omega)]
    rfl
  | k + 1, i, h0, h => by
    have hi : i < l.length := by omega
    rw [okFrom_step l i hi, okFrom_pos l k (i + 1) (by omega) (by omega), drop_cons hi, List.all_cons]
    congr 1
    unfold okAt inName
    rw [getD_at0 hi]
    simp only [show decide (i ≠ 0) = true from decide_eq_true (by omega), Bool.true_and, Bool.or_assoc]

theorem name_okFrom (l : List UInt8) : nameL l = (okFrom l 0 && decide (l ≠ [])) := by
  cases l with
  | nil => rfl
  | cons b r =>
    rw [okFrom_step _ 0 (by simp), okFrom_pos (b :: r) r.length 1 (by omega) (by simp)]
    simp [nameL, okAt, at0]

/-- a character that may not stand where it stands -/
theorem okFrom_no {l : List UInt8} {i : Nat} (hi : i < l.length) (h : okAt i (at0 l i) = false) : okFrom l i = false := by
  rw [okFrom_step l i hi, h]; rfl
theorem okAt_high {i c : Nat} (h : 128 ≤ c) : okAt i c = false := by
  simp [okAt, smallN, digitN]; omega

def NameRel (l : List UInt8) (w : World) (gf : Nat) (wr : World) : Prop :=
  ∃ pos : Nat, wr.heap[w.heap.size]? = some (.stringIter ⟨l.toArray⟩ pos) ∧ Below w.heap.size w wr ∧ okFrom l pos = okFrom l 0 ∧ l.length ≤ pos + gf

theorem ret_bool {a b : Bool} (h : a = b) : Ending.returned (.bool a) = .returned (.bool b) := by rw [h]

set_option maxHeartbeats 1000000 in
set_option maxRecDepth 100000 in
theorem name_any (l : List UInt8) (w : World) :
    Calls Tryd.prog 11 #[.string ⟨l.toArray⟩] w fun e w' => e = .returned (.bool (nameL l)) ∧ Below w.heap.size w w' := by
  go_enter Tryd.func11, Tryd.ntmps11
  go_wp2
  go_loopg [] l.length (fun gf wx => NameRel l w gf wx)
  case atStart => exact ⟨0, World.iter_heap w _ 0, (Below.refl _ w).alloc (Nat.le_refl _) _, rfl, by omega⟩
  case round =>
    obtain ⟨pos, hit, hbw, hok, hfu⟩ := hrel
    have HOK := Lib.hid hok
    have HN := Lib.hid (name_okFrom l)
    clear hok
    by_cases hps : pos < l.length
    · obtain ⟨g', rfl⟩ : ∃ g', gk = g' + 1 := ⟨gk - 1, by omega⟩
      have hnx : ∀ ty, (Instr.next (.pointer (some ⟨w.heap.size, 0, none⟩)) true ty).run Tryd.prog wr = _ := fun ty => Lib.run_next_any_at wr w.heap.size ⟨l.toArray⟩ pos ty hit (by rw [str_size]; exact hps)
      rw [decode_dec] at hnx
      by_cases ha : at0 l pos < 128
      · rw [dec_ascii ha] at hnx
        simp only at hnx
        have hst := Lib.hid (okFrom_step l pos hps)
        have hit2 := Lib.iterAt_heap wr w.heap.size ⟨l.toArray⟩ pos (pos + 1) hit
        have hbw2 := Lib.below_iterAt hbw (k := w.heap.size) (Nat.le_refl _) ⟨l.toArray⟩ (pos + 1)
        obtain ⟨V, hV⟩ : ∃ V, wr.iterAt w.heap.size ⟨l.toArray⟩ (pos + 1) = V := ⟨_, rfl⟩
        rw [hV] at hnx hit2 hbw2
        clear hV
        have hS := small_any (at0 l pos : Int) V
        have hD := digit_any (at0 l pos : Int) V
        rw [smallZ_nat] at hS
        rw [digitZ_nat] at hD
        have hf := okFrom_no hps
        unfold okAt at hst hf
        generalize at0 l pos = c at hnx hS hD hst hf
        cases h1 : smallN c
        · rw [h1] at hS
          by_cases h0 : pos = 0
          · have h0' : ((pos : Int) == 0) = true := by simp [h0]
            have hno := Lib.hid (hf (by simp [h1, h0]))
            clear hf h0
            go_wp2_with fail
            refine hS.mono ?_
            rintro e w' ⟨rfl, rfl⟩
            go_wp2
            go_ret
            refine ⟨ret_bool (a := false) ?_, hbw2⟩
            rw [HN.out, ← HOK.out, hno.out]; rfl
          · have h0' : ((pos : Int) == 0) = false := by simp; omega
            cases h2 : digitN c
            · rw [h2] at hD
              cases h3 : ((c : Int) == 45)
              · have hno := Lib.hid (hf (by simp [h1, h2]; intro _; simp at h3; omega))
                clear hf h0
                go_wp2_with fail
                refine hS.mono ?_
                rintro e w' ⟨rfl, rfl⟩
                go_wp2_with fail
                refine hD.mono ?_
                rintro e w' ⟨rfl, rfl⟩
                go_wp2
                go_ret
                refine ⟨ret_bool (a := false) ?_, hbw2⟩
                rw [HN.out, ← HOK.out, hno.out]; rfl
              · have hyes : okFrom l pos = okFrom l (pos + 1) := by
                  rw [hst.out]
                  have : (c == 45) = true := by simp at h3 ⊢; omega
                  simp [h1, h0, this]
                have HY := Lib.hid hyes
                clear hf h0 hyes
                go_wp2_with fail
                refine hS.mono ?_
                rintro e w' ⟨rfl, rfl⟩
                go_wp2_with fail
                refine hD.mono ?_
                rintro e w' ⟨rfl, rfl⟩
                go_wp2
                go_roundg g'
                case measure => omega
                case rel => exact ⟨pos + 1, hit2, hbw2, by rw [← HY.out]; exact HOK.out, by omega⟩
            · rw [h2] at hD
              have hyes : okFrom l pos = okFrom l (pos + 1) := by
                rw [hst.out]
                simp [h1, h0, h2]
              have HY := Lib.hid hyes
              clear hf h0 hyes
              go_wp2_with fail
              refine hS.mono ?_
              rintro e w' ⟨rfl, rfl⟩
              go_wp2_with fail
              refine hD.mono ?_
              rintro e w' ⟨rfl, rfl⟩
              go_wp2
              go_roundg g'
              case measure => omega
              case rel => exact ⟨pos + 1, hit2, hbw2, by rw [← HY.out]; exact HOK.out, by omega⟩
        · rw [h1] at hS
          have hyes : okFrom l pos = okFrom l (pos + 1) := by
            rw [hst.out]
            simp [h1]
          have HY := Lib.hid hyes
          clear hf hyes
          go_wp2_with fail
          refine hS.mono ?_
          rintro e w' ⟨rfl, rfl⟩
          go_wp2
          go_roundg g'
          case measure => omega
          case rel => exact ⟨pos + 1, hit2, hbw2, by rw [← HY.out]; exact HOK.out, by omega⟩
      · have hh : 128 ≤ at0 l pos := by omega
        have hR := dec_high hh
        have hno := Lib.hid (okFrom_no hps (okAt_high hh))
        obtain ⟨⟨R, K⟩, hRK⟩ : ∃ R, dec l pos = R := ⟨_, rfl⟩
        rw [hRK] at hnx hR
        clear hRK ha hh
        simp only at hnx hR
        have hbw2 := Lib.below_iterAt hbw (k := w.heap.size) (Nat.le_refl _) ⟨l.toArray⟩ (pos + K)
        obtain ⟨V, hV⟩ : ∃ V, wr.iterAt w.heap.size ⟨l.toArray⟩ (pos + K) = V := ⟨_, rfl⟩
        rw [hV] at hnx hbw2
        clear hV
        have hS := small_any (R : Int) V
        have hD := digit_any (R : Int) V
        rw [show smallZ (R : Int) = false by simp [smallZ]; omega] at hS
        rw [show digitZ (R : Int) = false by simp [digitZ]; omega] at hD
        have h3 : ((R : Int) == 45) = false := by simp; omega
        cases h0 : ((pos : Int) == 0)
        · go_wp2_with fail
          refine hS.mono ?_
          rintro e w' ⟨rfl, rfl⟩
          go_wp2_with fail
          refine hD.mono ?_
          rintro e w' ⟨rfl, rfl⟩
          go_wp2
          go_ret
          refine ⟨ret_bool (a := false) ?_, hbw2⟩
          rw [HN.out, ← HOK.out, hno.out]; rfl
        · go_wp2_with fail
          refine hS.mono ?_
          rintro e w' ⟨rfl, rfl⟩
          go_wp2
          go_ret
          refine ⟨ret_bool (a := false) ?_, hbw2⟩
          rw [HN.out, ← HOK.out, hno.out]; rfl
    · have hnx : ∀ ty, (Instr.next (.pointer (some ⟨w.heap.size, 0, none⟩)) true ty).run Tryd.prog wr = _ := fun ty => Lib.run_next_end_at wr w.heap.size _ pos ty hit (by rw [str_size]; exact hps)
      have hend := Lib.hid (okFrom_end l pos (by omega))
      go_wp2
      go_ret
      refine ⟨ret_bool (a := !l.isEmpty) ?_, hbw⟩
      rw [HN.out, ← HOK.out, hend.out]
      cases l <;> rfl

theorem byte_range {m : List UInt8} {i : Nat} : 0 ≤ (at0 m i : Int) ∧ (at0 m i : Int) < 256 := by have := at0_lt m i; omega

set_option maxHeartbeats 1000000 in
set_option maxRecDepth 100000 in
theorem refName_any (l : List UInt8) (w : World) (hl : l.length ≤ 281474976710656) :
    Calls Tryd.prog 12 #[.string ⟨l.toArray⟩] w fun e w' => e = .returned (.bool (nameL l)) ∧ w = w' := by
  by_cases hnil : l = []
  · subst hnil
    go_enter Tryd.func12, Tryd.ntmps12
    go_wp2
    go_ret
    exact ⟨rfl, rfl⟩
  · have hne : ((l.length : Int) == 0) = false := by
      have : l.length ≠ 0 := fun h => hnil (List.eq_nil_of_length_eq_zero h)
      simp; omega
    have HN : Hid (nameL l = okFrom l 0) := Lib.hid (by rw [name_okFrom]; simp [hnil])
    clear hnil
    go_enter Tryd.func12, Tryd.ntmps12
    go_wp2
    go_loopw [3] (fun v wr => (∃ i : Nat, v = .int .i64 i ∧ i ≤ l.length ∧ okFrom l i = okFrom l 0) ∧ w = wr) (fun v _ => ((l.length : Int) - RowKit.intOf v).toNat)
    case atStart => exact ⟨⟨0, rfl, Nat.zero_le _, rfl⟩, rfl⟩
    case round =>
      obtain ⟨⟨i, rfl, hil, hok⟩, rfl⟩ := hrel
      have HOK := Lib.hid hok
      clear hok
      by_cases hi : i < l.length
      · have hi' : (i : Int) < (l.length : Int) := by omega
        have hst := Lib.hid (okFrom_step l i hi)
        have hf := okFrom_no hi
        have hX := idx_str l i (by rw [str_size]; exact hi)
        have hD := refDigit_any (at0 l i : Int) w
        rw [digitZ_nat, ← hX] at hD
        have hr := byte_range (m := l) (i := i)
        unfold okAt at hst hf
        cases h1 : smallN (at0 l i)
        · have hs : (97 ≤ wrap64 (((⟨l.toArray⟩ : ByteArray)[i]'(by rw [str_size]; exact hi)).toNat : Int) ∧ decide (wrap64 (((⟨l.toArray⟩ : ByteArray)[i]'(by rw [str_size]; exact hi)).toNat : Int) ≤ 122) = false)
              ∨ decide (97 ≤ wrap64 (((⟨l.toArray⟩ : ByteArray)[i]'(by rw [str_size]; exact hi)).toNat : Int)) = false := by
            rw [hX]
            simp [smallN] at h1 ⊢
            omega
          by_cases h0 : i = 0
          · have hno : Hid (false = nameL l) := Lib.hid (by rw [HN.out, ← HOK.out, hf (by rw [h1]; simp [h0])])
            have h0' : ((i : Int) == 0) = true := by simp [h0]
            clear hf hX hr hst h0
            rcases hs with ⟨hA, hB⟩ | hA
            all_goals (go_wp2; go_ret; exact ⟨ret_bool (a := false) hno.out, rfl⟩)
          · have h0' : ((i : Int) == 0) = false := by simp; omega
            cases h2 : digitN (at0 l i)
            · rw [h2] at hD
              by_cases h3 : at0 l i = 45
              · have hyes := Lib.hid (show okFrom l i = okFrom l (i + 1) by rw [hst.out]; simp [h0, h3])
                have h3' : (wrap64 (((⟨l.toArray⟩ : ByteArray)[i]'(by rw [str_size]; exact hi)).toNat : Int) == 45) = true := by rw [hX, h3]; rfl
                clear hf hX hr h3
                rcases hs with ⟨hA, hB⟩ | hA
                all_goals (go_wp2_with fail; refine hD.mono ?_; rintro e w' ⟨rfl, rfl⟩; go_wp2)
                all_goals go_roundw
                all_goals first | exact ⟨⟨i + 1, by simp, by omega, hyes.out.symm.trans HOK.out⟩, by trivial⟩ | (simp [RowKit.intOf]; done) | (simp [RowKit.intOf]; omega)
              · have hno := Lib.hid (hf (by simp [h1, h2, h3]))
                have h3' : (wrap64 (((⟨l.toArray⟩ : ByteArray)[i]'(by rw [str_size]; exact hi)).toNat : Int) == 45) = false := by rw [hX]; simp; omega
                clear hf hX hr h3 h0
                rcases hs with ⟨hA, hB⟩ | hA
                all_goals (go_wp2_with fail; refine hD.mono ?_; rintro e w' ⟨rfl, rfl⟩; go_wp2; go_ret; refine ⟨ret_bool (a := false) ?_, rfl⟩; rw [HN.out, ← HOK.out, hno.out])
            · rw [h2] at hD
              have hyes := Lib.hid (show okFrom l i = okFrom l (i + 1) by rw [hst.out]; simp [h1, h0, h2])
              clear hf hX hr
              rcases hs with ⟨hA, hB⟩ | hA
              all_goals (go_wp2_with fail; refine hD.mono ?_; rintro e w' ⟨rfl, rfl⟩; go_wp2)
              all_goals go_roundw
              all_goals first | exact ⟨⟨i + 1, by simp, by omega, hyes.out.symm.trans HOK.out⟩, by trivial⟩ | (simp [RowKit.intOf]; done) | (simp [RowKit.intOf]; omega)
        · have hyes := Lib.hid (show okFrom l i = okFrom l (i + 1) by rw [hst.out]; simp [h1])
          have hA : 97 ≤ wrap64 (((⟨l.toArray⟩ : ByteArray)[i]'(by rw [str_size]; exact hi)).toNat : Int) := by rw [hX]; simp [smallN] at h1; omega
          have hB : wrap64 (((⟨l.toArray⟩ : ByteArray)[i]'(by rw [str_size]; exact hi)).toNat : Int) ≤ 122 := by rw [hX]; simp [smallN] at h1; omega
          clear hf hX hr hD
          go_wp2
          go_roundw
          all_goals first | exact ⟨⟨i + 1, by simp, by omega, hyes.out.symm.trans HOK.out⟩, by trivial⟩ | (simp [RowKit.intOf]; done) | (simp [RowKit.intOf]; omega)
      · have hi' : ¬ (i : Int) < (l.length : Int) := by omega
        have hend := Lib.hid (okFrom_end l i (by omega))
        go_wp2
        go_ret
        refine ⟨ret_bool (a := true) ?_, rfl⟩
        rw [HN.out, ← HOK.out, hend.out]
end Go.Proofs.YtjbiebbcjofjeaaDoor
