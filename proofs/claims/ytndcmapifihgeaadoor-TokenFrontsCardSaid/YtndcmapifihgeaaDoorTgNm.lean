/- The reader's name, text, value and attr, walked. -/
import Derived.Test.YtndcmapifihgeaaDoorTgCr
namespace Go.Proofs.YtndcmapifihgeaaDoor.Tg
open Go.RowKit Go.Lib
open Ch (at0 nx nx_width nx_range at0_lt at0_drop enc_len Sl Sl.below Cells ret_str good nx_good)
open Kl (blankN greatN blankZ blank_any lowerZ lower_any)

variable {l : List UInt8} {a : Option Addr} {cap R i : Nat} {W w w' : World}

theorem IsBuilderF_kp {T e : TypeId} {B b : Nat} {bs : List Value} (h : Lib.IsBuilderF T e B b bs w) (hk : Kp R w w') (hR : R < B) : Lib.IsBuilderF T e B b bs w' := by
  have key : ∀ p, Lib.BuilderAtF T e B b p bs w → Lib.BuilderAtF T e B b p bs w' := by
    intro p h
    have hlt := h.lt
    obtain ⟨hB, v, hbk, hown, hne⟩ := h
    refine ⟨hB, v, by rw [hk.block b hlt (by simp; omega)]; exact hbk, hown.kept hk ?_, hne⟩
    cases hv : v.ownBlock with
    | none => exact Or.inl rfl
    | some g =>
      have := (hown.lt g hv).1
      exact Or.inr (by simp; omega)
  exact h.elim (fun x => Or.inl (key _ x)) (fun x => Or.inr (key _ x))
theorem Kp.belowB {w1 w2 : World} (h : Kp R w w1) (hb : Below w.heap.size w1 w2) : Kp R w w2 :=
  ⟨hb.os.trans h.os, hb.tape.trans h.tape, hb.output.trans h.output, Nat.le_trans h.size hb.size, fun k hk hne => (hb.block k hk).trans (h.block k hk hne)⟩
theorem Kp.alloc (o : Obj) : Kp R w (w.alloc o) := World.grownBy_alloc w o _

theorem lowerZ_low (c : Nat) : lowerZ (c : Int) = ((lowN c : Nat) : Int) := by
  unfold lowerZ lowN
  rw [Kl.greatZ_nat]
  split <;> simp

set_option maxHeartbeats 1000000 in
set_option maxRecDepth 100000 in
theorem add_rune (B b : Nat) (bs : List Value) (c : Nat) (hc : c ≤ 1114111) (w : World) (h : Lib.IsBuilderF 43 5 B b bs w) (hlen : bs.length + 4 ≤ 140737488355328) (hBw : B ≤ w.heap.size) :
    Calls Tryd.prog 65 #[.int .i32 (c : Int), .pointer (some ⟨b, 0, none⟩)] w fun e w' => e = .returned (.tuple #[]) ∧ Lib.IsBuilderF 43 5 B b (bs ++ Lib.runeCells ((lowN c : Nat) : Int)) w' ∧ Below B w w' := by
  have cL := lower_any (c : Int) w
  rw [lowerZ_low] at cL
  have hb : lowN c ≤ 1114111 + 32 := by unfold lowN; split <;> omega
  generalize lowN c = C at cL hb ⊢
  go_enter Tryd.func65, Tryd.ntmps65
  go_wp2_with fail
  refine cL.mono ?_
  rintro e w1 ⟨rfl, rfl⟩
  go_wp2_with fail
  refine (Ch.writeRune B b bs (C : Int) (by omega) (by omega) w h hlen hBw).mono ?_
  rintro e w2 ⟨rfl, h2, hb2⟩
  go_wp2
  go_end0
  exact ⟨rfl, h2, hb2⟩

/-- where 'name' stands -/
def NmRel (l : List UInt8) (a : Option Addr) (cap R : Nat) (p : Nat → Bool) (S : List UInt8) (E : Nat) (W w : World) (v : Value) (wr : World) : Prop :=
  ∃ (j : Nat) (acc : List UInt8), v = .int .i32 ((hd (l.drop j) : Nat) : Int) ∧ On l a cap R j W wr ∧ Kp R w wr ∧ Lib.IsBuilderF 43 5 w.heap.size w.heap.size (Lib.byteCells acc) wr ∧ acc ++ lw p (l.drop j) = S ∧ j + ov p (l.drop j) = E

theorem lw_at_stop {p : Nat → Bool} (l : List UInt8) (j : Nat) (h : hd (l.drop j) = 0 ∨ p (hd (l.drop j)) = false) : lw p (l.drop j) = [] := by
  by_cases hm : l.drop j = []
  · rw [hm]; rfl
  · rw [hd_ne hm] at h
    rcases h with h | h
    · exact absurd h (nx_range _).1
    · exact (ov_stop h).2
theorem lw_at_step {p : Nat → Bool} (l : List UInt8) (j : Nat) (h0 : hd (l.drop j) ≠ 0) (h : p (hd (l.drop j)) = true) : lw p (l.drop j) = encodeRune ((lowN (hd (l.drop j)) : Nat) : Int) ++ lw p (l.drop (j + wd (l.drop j))) := by
  have hm := hd_pos h0
  rw [hd_ne hm] at h ⊢
  rw [wd_ne hm]
  have := (ov_step hm h).2
  rw [List.drop_drop] at this
  exact this
theorem hd_good {m : List UInt8} (h : hd m ≠ 0) : good (hd m) := by
  rw [hd_ne (hd_pos h)]
  exact nx_good m

set_option maxHeartbeats 4000000 in
set_option maxRecDepth 100000 in
theorem name_on (st : List UInt8) (p : Nat → Bool) (hst : ∀ (c : Nat) (w : World), good c → Calls Tryd.prog 68 #[.string ⟨st.toArray⟩, .int .i32 (c : Int)] w fun e w' => e = .returned (.bool (st.any (fun b : UInt8 => b.toNat == c))) ∧ Below w.heap.size w w')
    (hp : ∀ c, p c = (!blankN c && !st.any (fun b : UInt8 => b.toNat == c))) (h : On l a cap R i W w) :
    Calls Tryd.prog 48 #[.pointer (some ⟨R, 0, none⟩), .string ⟨st.toArray⟩] w fun e w' => e = .returned (.string ⟨(encodeRune ((lowN (hd (l.drop i)) : Nat) : Int) ++ lw p (l.drop (i + wd (l.drop i)))).toArray⟩) ∧ On l a cap R (i + wd (l.drop i) + ov p (l.drop (i + wd (l.drop i)))) W w' ∧ Kp R w w' := by
  have hlt := h.lt
  have hlen := h.len
  have hA := h.belowB (B := w.heap.size) ((Below.refl _ w).alloc (Nat.le_refl _) (.cells #[.pointer none, .slice none 0 0] 43)) hlt
  have cT := take_on hA
  have hbd := hd_bd (l.drop i)
  have hI0 : Lib.IsBuilderF 43 5 w.heap.size w.heap.size [] (w.alloc (.cells #[.pointer none, .slice none 0 0] 43)) := Lib.IsBuilderF.of (Lib.fresh_isBuilder 43 5 w)
  have HS := Lib.hid hst
  have HP := Lib.hid hp
  have HA := Lib.hid hA
  clear hst hp hA h
  go_enter Tryd.func48, Tryd.ntmps48
  go_wp2_with fail
  refine cT.mono ?_
  rintro e w1 ⟨rfl, h1, hk1⟩
  have hsz1 : w.heap.size ≤ w1.heap.size := by have := hk1.size; simp at this; omega
  have cA := add_rune w.heap.size w.heap.size [] (hd (l.drop i)) hbd w1 (IsBuilderF_kp hI0 hk1 hlt) (by simp) hsz1
  have H1 := Lib.hid h1
  have HK1 := Lib.hid (Kp.trans (Kp.alloc (R := R) (w := w) _) hk1)
  clear h1 hk1 hI0
  clear cT
  go_wp2_with fail
  refine cA.mono ?_
  rintro e w2 ⟨rfl, hI2, hb2⟩
  have h2 := H1.out.belowB hb2 hlt
  have HK2 := Lib.hid (HK1.out.belowB hb2)
  rw [List.nil_append, ← Lib.byteCells_encodeRune] at hI2
  have HI2 := Lib.hid hI2
  have H2 := Lib.hid h2
  have cP := peek_on h2
  clear hI2 hb2 h2
  go_wp2_with fail
  refine cP.mono ?_
  rintro e w3 ⟨rfl, hb3⟩
  have H3 := Lib.hid (H2.out.below hb3)
  have HK3 := Lib.hid (HK2.out.trans (Kp.of_below hb3))
  have HI3 := Lib.hid (Ch.IsBuilderF_below HI2.out hb3)
  clear hb3
  go_wp2
  go_loopw [7] (fun v wr => NmRel l a cap R p (encodeRune ((lowN (hd (l.drop i)) : Nat) : Int) ++ lw p (l.drop (i + wd (l.drop i)))) (i + wd (l.drop i) + ov p (l.drop (i + wd (l.drop i)))) W w v wr) (fun _ wr => l.length - cur R wr)
  case atStart => exact ⟨_, _, rfl, H3.out, HK3.out, HI3.out, rfl, rfl⟩
  case round =>
    obtain ⟨j, acc, rfl, hon, hkp, hI, hacc, hj⟩ := hrel
    have hal : acc.length ≤ 4 + 4 * l.length := by
      have e1 := (enc_len ((lowN (hd (l.drop i)) : Nat) : Int)).2
      have e2 := lw_len p (l.drop (i + wd (l.drop i)))
      have := congrArg List.length hacc
      simp only [List.length_append, List.length_drop] at this e2
      omega
    have HON := Lib.hid hon
    have HKP := Lib.hid hkp
    have HJ := Lib.hid hj
    have HAC := Lib.hid hacc
    have HI := Lib.hid hI
    have hszr : w.heap.size ≤ wr.heap.size := hkp.size
    have hbd := hd_bd (l.drop j)
    clear hon hkp hj hacc hI
    by_cases h0 : hd (l.drop j) = 0
    · have t0 : (((hd (l.drop j) : Nat) : Int) != 0) = false := by simp [h0]
      have HZ := Lib.hid (ov_at_stop (p := p) l j (Or.inl h0))
      have HY := Lib.hid (lw_at_stop (p := p) l j (Or.inl h0))
      clear h0
      go_wp2_with fail
      refine (Tryd.Builder_String_any_k w.heap.size w.heap.size acc wr HI.out hszr).mono ?_
      rintro e w5 ⟨rfl, _, hb5, _⟩
      have H5 := Lib.hid (HON.out.belowB hb5 hlt)
      have HK5 := Lib.hid (HKP.out.belowB hb5)
      clear hb5
      go_wp2
      go_ret
      have e1 := HJ.out
      rw [HZ.out, Nat.add_zero] at e1
      have e2 := HAC.out
      rw [HY.out, List.append_nil] at e2
      rw [← e1]
      exact ⟨ret_str e2, H5.out, HK5.out⟩
    · have t0 : (((hd (l.drop j) : Nat) : Int) != 0) = true := by simp [h0]
      have cB := blank_any ((hd (l.drop j) : Nat) : Int) wr
      rw [Kl.blankZ_nat] at cB
      have hpj := HP.out (hd (l.drop j))
      have hgd := hd_good h0
      cases hb : blankN (hd (l.drop j)) with
      | true =>
        rw [hb] at cB hpj
        have hpf : p (hd (l.drop j)) = false := by rw [hpj]; rfl
        have HZ := Lib.hid (ov_at_stop (p := p) l j (Or.inr hpf))
        have HY := Lib.hid (lw_at_stop (p := p) l j (Or.inr hpf))
        clear h0 hb hpf hpj
        go_wp2_with fail
        refine cB.mono ?_
        rintro e w4 ⟨rfl, rfl⟩
        go_wp2_with fail
        refine (Tryd.Builder_String_any_k w.heap.size w.heap.size acc wr HI.out hszr).mono ?_
        rintro e w5 ⟨rfl, _, hb5, _⟩
        have H5 := Lib.hid (HON.out.belowB hb5 hlt)
        have HK5 := Lib.hid (HKP.out.belowB hb5)
        clear hb5
        go_wp2
        go_ret
        have e1 := HJ.out
        rw [HZ.out, Nat.add_zero] at e1
        have e2 := HAC.out
        rw [HY.out, List.append_nil] at e2
        rw [← e1]
        exact ⟨ret_str e2, H5.out, HK5.out⟩
      | false =>
        rw [hb] at cB hpj
        have cC := HS.out (hd (l.drop j)) wr hgd
        cases ha : st.any (fun b : UInt8 => b.toNat == hd (l.drop j)) with
        | true =>
          rw [ha] at cC hpj
          have hpf : p (hd (l.drop j)) = false := by rw [hpj]; rfl
          have HZ := Lib.hid (ov_at_stop (p := p) l j (Or.inr hpf))
          have HY := Lib.hid (lw_at_stop (p := p) l j (Or.inr hpf))
          clear h0 hb hpf hpj ha
          go_wp2_with fail
          refine cB.mono ?_
          rintro e w4 ⟨rfl, rfl⟩
          go_wp2_with fail
          refine cC.mono ?_
          rintro e w4 ⟨rfl, hb4⟩
          have HI4 := Lib.hid (Ch.IsBuilderF_below HI.out hb4)
          have H4 := Lib.hid (HON.out.below hb4)
          have HK4 := Lib.hid (HKP.out.trans (Kp.of_below hb4))
          have hz4 := hb4.size
          clear hb4
          go_wp2_with fail
          refine (Tryd.Builder_String_any_k w.heap.size w.heap.size acc w4 HI4.out (by omega)).mono ?_
          rintro e w5 ⟨rfl, _, hb5, _⟩
          have H5 := Lib.hid (H4.out.belowB hb5 hlt)
          have HK5 := Lib.hid (HK4.out.belowB hb5)
          clear hb5
          go_wp2
          go_ret
          have e1 := HJ.out
          rw [HZ.out, Nat.add_zero] at e1
          have e2 := HAC.out
          rw [HY.out, List.append_nil] at e2
          rw [← e1]
          exact ⟨ret_str e2, H5.out, HK5.out⟩
        | false =>
          rw [ha] at cC hpj
          have hpt : p (hd (l.drop j)) = true := by rw [hpj]; rfl
          have HZ := Lib.hid (ov_at_step (p := p) l j h0 hpt)
          have HY := Lib.hid (lw_at_step (p := p) l j h0 hpt)
          clear h0 hb hpt hpj ha
          go_wp2_with fail
          refine cB.mono ?_
          rintro e w4 ⟨rfl, rfl⟩
          go_wp2_with fail
          refine cC.mono ?_
          rintro e w4 ⟨rfl, hb4⟩
          have HI4 := Lib.hid (Ch.IsBuilderF_below HI.out hb4)
          have h4 := HON.out.below hb4
          have HK4 := Lib.hid (HKP.out.trans (Kp.of_below hb4))
          have cT := take_on h4
          have hz4 := hb4.size
          clear hb4 h4
          go_wp2_with fail
          refine cT.mono ?_
          rintro e w5 ⟨rfl, h5, hk5⟩
          have hz5 := hk5.size
          have cA := add_rune w.heap.size w.heap.size _ (hd (l.drop j)) hbd w5 (IsBuilderF_kp HI4.out hk5 hlt) (by rw [Lib.byteCells_length]; omega) (by omega)
          have H5 := Lib.hid h5
          have HK5 := Lib.hid (HK4.out.trans hk5)
          clear h5 hk5
          go_wp2_with fail
          refine cA.mono ?_
          rintro e w6 ⟨rfl, hI6, hb6⟩
          have h6 := H5.out.belowB hb6 hlt
          have HK6 := Lib.hid (HK5.out.belowB hb6)
          rw [← Lib.byteCells_encodeRune, ← Lib.byteCells_append] at hI6
          have HI6 := Lib.hid hI6
          have cP := peek_on h6
          have H6 := Lib.hid h6
          clear hI6 hb6 h6
          go_wp2_with fail
          refine cP.mono ?_
          rintro e w7 ⟨rfl, hb7⟩
          have H7 := Lib.hid (H6.out.below hb7)
          have HK7 := Lib.hid (HK6.out.trans (Kp.of_below hb7))
          have HI7 := Lib.hid (Ch.IsBuilderF_below HI6.out hb7)
          clear hb7
          go_wp2
          go_roundw
          case rel => exact ⟨_, _, rfl, H7.out, HK7.out, HI7.out, by rw [List.append_assoc, ← HY.out]; exact HAC.out, by have := HZ.out; have := HJ.out; omega⟩
          case measure =>
            rw [H7.out.cur, HON.out.cur]
            have := HZ.out.2
            have := H7.out.ile
            omega
end Go.Proofs.YtndcmapifihgeaaDoor.Tg
