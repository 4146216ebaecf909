/- class.Trim, and the reference's: a text without blanks at its ends. -/
import Derived.Test.YtjbiebbcjofjeaaDoorSmall
import Derived.Test.YtjbiebbcjofjeaaDoorShelf
namespace Go.Proofs.YtjbiebbcjofjeaaDoor
open Go.RowKit Go.Lib

theorem left_trim (l : List UInt8) : ∀ (f pos : Nat), l.length ≤ pos + f →
    (l.drop pos).dropWhile bl = if Lib.idxFuncFrom blankN false ⟨l.toArray⟩ f pos = -1 then [] else l.drop (Lib.idxFuncFrom blankN false ⟨l.toArray⟩ f pos).toNat
  | 0, pos, h => by
    have : l.drop pos = [] := List.drop_eq_nil_of_le (by omega)
    simp [Lib.idxFuncFrom, this]
  | f + 1, pos, h => by
    by_cases hp : pos < l.length
    · have hp' : pos < (⟨l.toArray⟩ : ByteArray).size := by rw [str_size]; exact hp
      simp only [Lib.idxFuncFrom, if_pos hp', decode_dec]
      rw [drop_cons hp, List.dropWhile_cons, bl_at hp]
      by_cases ha : at0 l pos < 128
      · rw [dec_ascii ha]
        simp only
        cases hb : blankN (at0 l pos)
        · simp only [if_true, Bool.false_eq_true, if_false]
          rw [if_neg (by omega), Int.toNat_natCast, drop_cons hp]
        · simp only [if_true, Bool.true_eq_false, if_false]
          exact left_trim l f (pos + 1) (by omega)
      · rw [blankN_high (dec_high (by omega)), blankN_high (by omega)]
        simp only [if_true, Bool.false_eq_true, if_false]
        rw [if_neg (by omega), Int.toNat_natCast, drop_cons hp]
    · have : l.drop pos = [] := List.drop_eq_nil_of_le (by omega)
      rw [this, Lib.idxFuncFrom_end _ _ _ _ _ (by rw [str_size]; exact hp), if_pos rfl]
      rfl

theorem trimLeftF_eq (l : List UInt8) : Lib.trimLeftF blankN ⟨l.toArray⟩ = ⟨(l.dropWhile bl).toArray⟩ := by
  have h := left_trim l l.length 0 (by omega)
  rw [List.drop_zero] at h
  rw [h]
  unfold Lib.trimLeftF Lib.idxFunc
  rw [str_size]
  split
  · rfl
  · rw [Lib.extract_eq, List.take_of_length_le]
    simp

theorem rdrop_snoc (l : List UInt8) (b : UInt8) : rdrop (l ++ [b]) = if bl b then rdrop l else l ++ [b] := by
  unfold rdrop
  rw [List.reverse_append]
  show ((b :: l.reverse).dropWhile bl).reverse = _
  rw [List.dropWhile_cons]
  split
  · rfl
  · simp

theorem right_trim (l : List UInt8) : ∀ (f i : Nat), i ≤ f → i ≤ l.length → OpenAt l i →
    rdrop (l.take i) = l.take (if 0 ≤ Lib.lastIdxFuncFrom blankN false ⟨l.toArray⟩ f i then (Lib.lastIdxFuncFrom blankN false ⟨l.toArray⟩ f i).toNat + (decodeL (l.drop (Lib.lastIdxFuncFrom blankN false ⟨l.toArray⟩ f i).toNat)).2 else 0)
  | 0, i, hf, _, _ => by
    obtain rfl : i = 0 := by omega
    rfl
  | f + 1, 0, _, _, _ => by
    rw [Lib.lastIdxFuncFrom_zero]
    rfl
  | f + 1, i + 1, hf, hil, ho => by
    have hlen : (l.take (i + 1)).length = i + 1 := by rw [List.length_take]; omega
    have hw := decodeLastL_width (l.take (i + 1)) (by omega)
    rw [hlen] at hw
    have hfw := fw_width l (i + 1) (by omega) hil ho
    have hb : (l.getD (i + 1 - 1) 0).toNat = at0 l i := rfl
    simp only [Lib.lastIdxFuncFrom, if_pos (Nat.succ_pos i)]
    have hr := rdrop_snoc (l.take i) (l[i]'(by omega))
    rw [← take_snoc (by omega), bl_at (by omega)] at hr
    rw [hr]
    by_cases ha : at0 l i < 128
    · have hd : decodeLastL (l.take (i + 1)) = (at0 l i, 1) := by
        rcases last_cases l (i + 1) (by omega) hil with ⟨_, hd⟩ | ⟨h, _⟩ | ⟨h, _⟩
        · exact hd
        · rw [hb] at h; omega
        · rw [hb] at h; omega
      rw [hd] at hfw hw ⊢
      simp only at hfw hw ⊢
      cases hbl : blankN (at0 l i)
      · simp only [if_true, Bool.false_eq_true, if_false]
        rw [if_pos (by omega), Int.toNat_natCast, hfw, Nat.sub_add_cancel (by omega)]
      · simp only [if_true, Bool.true_eq_false, if_false]
        exact right_trim l f i (by omega) (by omega) (.inr (by show at0 l i / 64 ≠ 2; omega))
    · have hd : blankN (decodeLastL (l.take (i + 1))).1 = false := by
        rcases last_cases l (i + 1) (by omega) hil with ⟨h, _⟩ | ⟨_, hd⟩ | ⟨_, st, hst, hd, hsum⟩
        · rw [hb] at h; omega
        · rw [hd]; rfl
        · rw [hd]
          apply blankN_high
          rw [decodeL_N]
          apply decodeN_high
          rw [getD_dropU, show st + 0 = st from rfl, getD_takeU l (i + 1) st hst]
          show 128 ≤ at0 l st
          rcases Nat.lt_or_ge (at0 l st) 128 with hlt | hge
          · exfalso
            rw [decodeL_N, getD_dropU, show st + 0 = st from rfl, getD_takeU l (i + 1) st hst, decodeN_ascii _ _ _ _ _ (show (l.getD st 0).toNat < 128 from hlt)] at hsum
            simp only at hsum
            obtain rfl : st = i := by omega
            exact ha hlt
          · exact hge
      rw [hd, blankN_high (by omega)]
      simp only [if_true, Bool.false_eq_true, if_false]
      rw [if_pos (by omega), Int.toNat_natCast, hfw, Nat.sub_add_cancel hw.2]

theorem lastIdx_below (l : List UInt8) : ∀ (f i : Nat), i ≤ l.length → Lib.lastIdxFuncFrom blankN false ⟨l.toArray⟩ f i = -1 ∨ (0 ≤ Lib.lastIdxFuncFrom blankN false ⟨l.toArray⟩ f i ∧ Lib.lastIdxFuncFrom blankN false ⟨l.toArray⟩ f i < i)
  | 0, _, _ => .inl rfl
  | f + 1, i, hi => by
    unfold Lib.lastIdxFuncFrom
    split
    · have hw := decodeLastL_width (l.take i) (by rw [List.length_take]; omega)
      rw [List.length_take, Nat.min_eq_left hi] at hw
      split
      · exact .inr ⟨by omega, by simp only; omega⟩
      · rcases lastIdx_below l f (i - (decodeLastL (l.take i)).2) (by omega) with h | h
        · exact .inl h
        · exact .inr ⟨h.1, by have := h.2; simp only at this ⊢; omega⟩
    · exact .inl rfl

theorem trimRightF_eq (l : List UInt8) : Lib.trimRightF blankN ⟨l.toArray⟩ = ⟨(rdrop l).toArray⟩ := by
  have h := right_trim l l.length l.length (Nat.le_refl _) (Nat.le_refl _) (.inl rfl)
  rw [List.take_of_length_le (Nat.le_refl _)] at h
  rw [h]
  unfold Lib.trimRightF Lib.rightEndF Lib.lastIdxFunc
  rw [str_size, Lib.extract_eq]
  simp only [List.drop_zero, Nat.sub_zero]
  congr 3
  split
  · rename_i h0
    congr 1
    rcases lastIdx_below l l.length l.length (Nat.le_refl _) with hm | hlt
    · omega
    · unfold Lib.decodeGoB
      rw [Lib.extract_eq]
      simp only
      rw [List.take_of_length_le (by rw [List.length_drop]; exact Nat.le_refl _)]
      rw [if_neg]
      · rfl
      · rw [str_size, List.length_drop]
        omega
  · rfl

theorem trimF_eq (l : List UInt8) : Lib.trimF blankN ⟨l.toArray⟩ = ⟨(trimL l).toArray⟩ := by
  unfold Lib.trimF trimL
  rw [trimLeftF_eq, trimRightF_eq]

theorem blank_pred (w : World) : PredAtRunes Tryd.prog 14 #[] blankN w := fun W x _ _ => by
  have h := blank_any (x : Int) W
  rw [blankZ_nat] at h
  exact h.mono fun e w' ⟨he, hw⟩ => ⟨he, 0, by rw [← hw]; rfl⟩

theorem enters14 : ∀ args w, (callFunc 14 args).run Tryd.prog w = .ok (.enter 14 args) w := enters_of Tryd.func14 (by kernel_rfl) rfl

theorem below_two {a b c : World} (h1 : Below a.heap.size a b) (h2 : Below b.heap.size b c) : Below a.heap.size a c := h1.trans (h2.mono h1.size)

theorem Tabs_below {w w' : World} (h : Lib.Utf8Tabs 0 1 w) (hb : Below w.heap.size w w') : Lib.Utf8Tabs 0 1 w' := Utf8Tabs_below h hb

set_option maxHeartbeats 400000 in
theorem clone_any (l : List UInt8) (w : World) (hl : l.length ≤ 281474976710656) :
    Calls Tryd.prog 18 #[.string ⟨l.toArray⟩] w fun e w' => e = .returned (.string ⟨l.toArray⟩) ∧ Below w.heap.size w w' := by
  have hC := Tryd.stringslite_Clone ⟨l.toArray⟩ w (by rw [str_size]; exact hl)
  go_enter Tryd.func18, Tryd.ntmps18
  go_wp2_with fail
  refine hC.mono ?_
  rintro e w1 ⟨rfl, hb⟩
  go_wp2
  go_ret
  exact ⟨rfl, hb⟩

set_option maxHeartbeats 400000 in
theorem trim_any (l : List UInt8) (w : World) (hT : Lib.Utf8Tabs 0 1 w) (hl : l.length ≤ 281474976710656) :
    Calls Tryd.prog 9 #[.string ⟨l.toArray⟩] w fun e w' => e = .returned (.string ⟨(trimL l).toArray⟩) ∧ Below w.heap.size w w' := by
  have hF := Tryd.strings_TrimFunc_runes 14 #[] enters14 blankN ⟨l.toArray⟩ w (by rw [str_size]; omega) hT (blank_pred w)
  rw [trimF_eq] at hF
  go_enter Tryd.func9, Tryd.ntmps9
  go_wp2_with fail
  refine hF.mono ?_
  rintro e w1 ⟨rfl, hb1⟩
  go_wp2_with fail
  refine (clone_any (trimL l) w1 (Nat.le_trans (trim_length l) hl)).mono ?_
  rintro e w2 ⟨rfl, hb2⟩
  go_wp2
  go_ret
  exact ⟨rfl, below_two hb1 hb2⟩

end Go.Proofs.YtjbiebbcjofjeaaDoor
