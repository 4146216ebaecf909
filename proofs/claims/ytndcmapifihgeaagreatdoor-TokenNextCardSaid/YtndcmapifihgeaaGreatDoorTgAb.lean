/- The reader's name, text, value and attr, walked. -/
import Derived.Test.YtndcmapifihgeaaGreatDoorTgCr
namespace Go.Proofs.YtndcmapifihgeaaGreatDoor.Tg
open Go.RowKit Go.Lib
open Ch (at0 nx nx_width nx_range at0_lt at0_drop enc_len Sl Sl.below Cells ret_str good nx_good)
open Kl (blankN greatN blankZ blank_any lowerZ lower_any)

variable {l : List UInt8} {a : Option Addr} {cap R i : Nat} {W w w' : World}

theorem IsBuilderF_kp {T e : TypeId} {B b : Nat} {bs : List Value} (h : Lib.IsBuilderF T e B b bs w) (hk : Kp R w w') (hR : R < B) : Lib.IsBuilderF T e B b bs w' := by
  have key : ∀ p, Lib.BuilderAtF T e B b p bs w → Lib.BuilderAtF T e B b p bs w' := by
    intro p h
    have hlt := h.lt
    obtain ⟨hB, v, hbk, hown, hne⟩ := h
    refine ⟨hB, v, by rw [hk.block b hlt (by simp; omega)]; exact hbk, hown.kept hk ?_, hne⟩
    cases hv : v.ownBlock with
    | none => exact Or.inl rfl
    | some g =>
      have := (hown.lt g hv).1
      exact Or.inr (by simp; omega)
  exact h.elim (fun x => Or.inl (key _ x)) (fun x => Or.inr (key _ x))
theorem Kp.belowB {w1 w2 : World} (h : Kp R w w1) (hb : Below w.heap.size w1 w2) : Kp R w w2 :=
  ⟨hb.os.trans h.os, hb.tape.trans h.tape, hb.output.trans h.output, Nat.le_trans h.size hb.size, fun k hk hne => (hb.block k hk).trans (h.block k hk hne)⟩
theorem Kp.alloc (o : Obj) : Kp R w (w.alloc o) := World.grownBy_alloc w o _

theorem lowerZ_low (c : Nat) : lowerZ (c : Int) = ((lowN c : Nat) : Int) := by
  unfold lowerZ lowN
  rw [Kl.greatZ_nat]
  split <;> simp

set_option maxHeartbeats 1000000 in
set_option maxRecDepth 100000 in
theorem add_rune (B b : Nat) (bs : List Value) (c : Nat) (hc : c ≤ 1114111) (w : World) (h : Lib.IsBuilderF 79 5 B b bs w) (hlen : bs.length + 4 ≤ 140737488355328) (hBw : B ≤ w.heap.size) :
    Calls Tryz.prog 101 #[.int .i32 (c : Int), .pointer (some ⟨b, 0, none⟩)] w fun e w' => e = .returned (.tuple #[]) ∧ Lib.IsBuilderF 79 5 B b (bs ++ Lib.runeCells ((lowN c : Nat) : Int)) w' ∧ Below B w w' := by
  have cL := lower_any (c : Int) w
  rw [lowerZ_low] at cL
  have hb : lowN c ≤ 1114111 + 32 := by unfold lowN; split <;> omega
  generalize lowN c = C at cL hb ⊢
  go_enter Tryz.func101, Tryz.ntmps101
  go_wp2_with fail
  refine cL.mono ?_
  rintro e w1 ⟨rfl, rfl⟩
  go_wp2_with fail
  refine (Ch.writeRune B b bs (C : Int) (by omega) (by omega) w h hlen hBw).mono ?_
  rintro e w2 ⟨rfl, h2, hb2⟩
  go_wp2
  go_end0
  exact ⟨rfl, h2, hb2⟩

/-- where 'name' stands -/
def NmRel (l : List UInt8) (a : Option Addr) (cap R : Nat) (p : Nat → Bool) (S : List UInt8) (E : Nat) (W w : World) (v : Value) (wr : World) : Prop :=
  ∃ (j : Nat) (acc : List UInt8), v = .int .i32 ((hd (l.drop j) : Nat) : Int) ∧ On l a cap R j W wr ∧ Kp R w wr ∧ Lib.IsBuilderF 79 5 w.heap.size w.heap.size (Lib.byteCells acc) wr ∧ acc ++ lw p (l.drop j) = S ∧ j + ov p (l.drop j) = E

theorem lw_at_stop {p : Nat → Bool} (l : List UInt8) (j : Nat) (h : hd (l.drop j) = 0 ∨ p (hd (l.drop j)) = false) : lw p (l.drop j) = [] := by
  by_cases hm : l.drop j = []
  · rw [hm]; rfl
  · rw [hd_ne hm] at h
    rcases h with h | h
    · exact absurd h (nx_range _).1
    · exact (ov_stop h).2
theorem lw_at_step {p : Nat → Bool} (l : List UInt8) (j : Nat) (h0 : hd (l.drop j) ≠ 0) (h : p (hd (l.drop j)) = true) : lw p (l.drop j) = encodeRune ((lowN (hd (l.drop j)) : Nat) : Int) ++ lw p (l.drop (j + wd (l.drop j))) := by
  have hm := hd_pos h0
  rw [hd_ne hm] at h ⊢
  rw [wd_ne hm]
  have := (ov_step hm h).2
  rw [List.drop_drop] at this
  exact this
theorem hd_good {m : List UInt8} (h : hd m ≠ 0) : good (hd m) := by
  rw [hd_ne (hd_pos h)]
  exact nx_good m

set_option maxHeartbeats 4000000 in
set_option maxRecDepth 100000 in
theorem name_on (st : List UInt8) (p : Nat → Bool) (hst : ∀ (c : Nat) (w : World), good c → Calls Tryz.prog 104 #[.string ⟨st.toArray⟩, .int .i32 (c : Int)] w fun e w' => e = .returned (.bool (st.any (fun b : UInt8 => b.toNat == c))) ∧ Below w.heap.size w w')
    (hp : ∀ c, p c = (!blankN c && !st.any (fun b : UInt8 => b.toNat == c))) (h : On l a cap R i W w) :
    Calls Tryz.prog 75 #[.pointer (some ⟨R, 0, none⟩), .string ⟨st.toArray⟩] w fun e w' => e = .returned (.string ⟨(encodeRune ((lowN (hd (l.drop i)) : Nat) : Int) ++ lw p (l.drop (i + wd (l.drop i)))).toArray⟩) ∧ On l a cap R (i + wd (l.drop i) + ov p (l.drop (i + wd (l.drop i)))) W w' ∧ Kp R w w' := by
  have hlt := h.lt
  have hlen := h.len
  have hA := h.belowB (B := w.heap.size) ((Below.refl _ w).alloc (Nat.le_refl _) (.cells #[.pointer none, .slice none 0 0] 79)) hlt
  have cT := take_on hA
  have hbd := hd_bd (l.drop i)
  have hI0 : Lib.IsBuilderF 79 5 w.heap.size w.heap.size [] (w.alloc (.cells #[.pointer none, .slice none 0 0] 79)) := Lib.IsBuilderF.of (Lib.fresh_isBuilder 79 5 w)
  have HS := Lib.hid hst
  have HP := Lib.hid hp
  have HA := Lib.hid hA
  clear hst hp hA h
  go_enter Tryz.func75, Tryz.ntmps75
  go_wp2_with fail
  refine cT.mono ?_
  rintro e w1 ⟨rfl, h1, hk1⟩
  have hsz1 : w.heap.size ≤ w1.heap.size := by have := hk1.size; simp at this; omega
  have cA := add_rune w.heap.size w.heap.size [] (hd (l.drop i)) hbd w1 (IsBuilderF_kp hI0 hk1 hlt) (by simp) hsz1
  have H1 := Lib.hid h1
  have HK1 := Lib.hid (Kp.trans (Kp.alloc (R := R) (w := w) _) hk1)
  clear h1 hk1 hI0
  clear cT
  go_wp2_with fail
  refine cA.mono ?_
  rintro e w2 ⟨rfl, hI2, hb2⟩
  have h2 := H1.out.belowB hb2 hlt
  have HK2 := Lib.hid (HK1.out.belowB hb2)
  rw [List.nil_append, ← Lib.byteCells_encodeRune] at hI2
  have HI2 := Lib.hid hI2
  have H2 := Lib.hid h2
  have cP := peek_on h2
  clear hI2 hb2 h2
  go_wp2_with fail
  refine cP.mono ?_
  rintro e w3 ⟨rfl, hb3⟩
  have H3 := Lib.hid (H2.out.below hb3)
  have HK3 := Lib.hid (HK2.out.trans (Kp.of_below hb3))
  have HI3 := Lib.hid (Ch.IsBuilderF_below HI2.out hb3)
  clear hb3
  go_wp2
  go_loopw [7] (fun v wr => NmRel l a cap R p (encodeRune ((lowN (hd (l.drop i)) : Nat) : Int) ++ lw p (l.drop (i + wd (l.drop i)))) (i + wd (l.drop i) + ov p (l.drop (i + wd (l.drop i)))) W w v wr) (fun _ wr => l.length - cur R wr)
  case atStart => exact ⟨_, _, rfl, H3.out, HK3.out, HI3.out, rfl, rfl⟩
  case round =>
    obtain ⟨j, acc, rfl, hon, hkp, hI, hacc, hj⟩ := hrel
    have hal : acc.length ≤ 4 + 4 * l.length := by
      have e1 := (enc_len ((lowN (hd (l.drop i)) : Nat) : Int)).2
      have e2 := lw_len p (l.drop (i + wd (l.drop i)))
      have := congrArg List.length hacc
      simp only [List.length_append, List.length_drop] at this e2
      omega
    have HON := Lib.hid hon
    have HKP := Lib.hid hkp
    have HJ := Lib.hid hj
    have HAC := Lib.hid hacc
    have HI := Lib.hid hI
    have hszr : w.heap.size ≤ wr.heap.size := hkp.size
    have hbd := hd_bd (l.drop j)
    clear hon hkp hj hacc hI
    by_cases h0 : hd (l.drop j) = 0
    · have t0 : (((hd (l.drop j) : Nat) : Int) != 0) = false := by simp [h0]
      have HZ := Lib.hid (ov_at_stop (p := p) l j (Or.inl h0))
      have HY := Lib.hid (lw_at_stop (p := p) l j (Or.inl h0))
      clear h0
      go_wp2_with fail
      refine (Tryz.Builder_String_any_k w.heap.size w.heap.size acc wr HI.out hszr).mono ?_
      rintro e w5 ⟨rfl, _, hb5, _⟩
      have H5 := Lib.hid (HON.out.belowB hb5 hlt)
      have HK5 := Lib.hid (HKP.out.belowB hb5)
      clear hb5
      go_wp2
      go_ret
      have e1 := HJ.out
      rw [HZ.out, Nat.add_zero] at e1
      have e2 := HAC.out
      rw [HY.out, List.append_nil] at e2
      rw [← e1]
      exact ⟨ret_str e2, H5.out, HK5.out⟩
    · have t0 : (((hd (l.drop j) : Nat) : Int) != 0) = true := by simp [h0]
      have cB := blank_any ((hd (l.drop j) : Nat) : Int) wr
      rw [Kl.blankZ_nat] at cB
      have hpj := HP.out (hd (l.drop j))
      have hgd := hd_good h0
      cases hb : blankN (hd (l.drop j)) with
      | true =>
        rw [hb] at cB hpj
        have hpf : p (hd (l.drop j)) = false := by rw [hpj]; rfl
        have HZ := Lib.hid (ov_at_stop (p := p) l j (Or.inr hpf))
        have HY := Lib.hid (lw_at_stop (p := p) l j (Or.inr hpf))
        clear h0 hb hpf hpj
        go_wp2_with fail
        refine cB.mono ?_
        rintro e w4 ⟨rfl, rfl⟩
        go_wp2_with fail
        refine (Tryz.Builder_String_any_k w.heap.size w.heap.size acc wr HI.out hszr).mono ?_
        rintro e w5 ⟨rfl, _, hb5, _⟩
        have H5 := Lib.hid (HON.out.belowB hb5 hlt)
        have HK5 := Lib.hid (HKP.out.belowB hb5)
        clear hb5
        go_wp2
        go_ret
        have e1 := HJ.out
        rw [HZ.out, Nat.add_zero] at e1
        have e2 := HAC.out
        rw [HY.out, List.append_nil] at e2
        rw [← e1]
        exact ⟨ret_str e2, H5.out, HK5.out⟩
      | false =>
        rw [hb] at cB hpj
        have cC := HS.out (hd (l.drop j)) wr hgd
        cases ha : st.any (fun b : UInt8 => b.toNat == hd (l.drop j)) with
        | true =>
          rw [ha] at cC hpj
          have hpf : p (hd (l.drop j)) = false := by rw [hpj]; rfl
          have HZ := Lib.hid (ov_at_stop (p := p) l j (Or.inr hpf))
          have HY := Lib.hid (lw_at_stop (p := p) l j (Or.inr hpf))
          clear h0 hb hpf hpj ha
          go_wp2_with fail
          refine cB.mono ?_
          rintro e w4 ⟨rfl, rfl⟩
          go_wp2_with fail
          refine cC.mono ?_
          rintro e w4 ⟨rfl, hb4⟩
          have HI4 := Lib.hid (Ch.IsBuilderF_below HI.out hb4)
          have H4 := Lib.hid (HON.out.below hb4)
          have HK4 := Lib.hid (HKP.out.trans (Kp.of_below hb4))
          have hz4 := hb4.size
          clear hb4
          go_wp2_with fail
          refine (Tryz.Builder_String_any_k w.heap.size w.heap.size acc w4 HI4.out (by omega)).mono ?_
          rintro e w5 ⟨rfl, _, hb5, _⟩
          have H5 := Lib.hid (H4.out.belowB hb5 hlt)
          have HK5 := Lib.hid (HK4.out.belowB hb5)
          clear hb5
          go_wp2
          go_ret
          have e1 := HJ.out
          rw [HZ.out, Nat.add_zero] at e1
          have e2 := HAC.out
          rw [HY.out, List.append_nil] at e2
          rw [← e1]
          exact ⟨ret_str e2, H5.out, HK5.out⟩
        | false =>
          rw [ha] at cC hpj
          have hpt : p (hd (l.drop j)) = true := by rw [hpj]; rfl
          have HZ := Lib.hid (ov_at_step (p := p) l j h0 hpt)
          have HY := Lib.hid (lw_at_step (p := p) l j h0 hpt)
          clear h0 hb hpt hpj ha
          go_wp2_with fail
          refine cB.mono ?_
          rintro e w4 ⟨rfl, rfl⟩
          go_wp2_with fail
          refine cC.mono ?_
          rintro e w4 ⟨rfl, hb4⟩
          have HI4 := Lib.hid (Ch.IsBuilderF_below HI.out hb4)
          have h4 := HON.out.below hb4
          have HK4 := Lib.hid (HKP.out.trans (Kp.of_below hb4))
          have cT := take_on h4
          have hz4 := hb4.size
          clear hb4 h4
          go_wp2_with fail
          refine cT.mono ?_
          rintro e w5 ⟨rfl, h5, hk5⟩
          have hz5 := hk5.size
          have cA := add_rune w.heap.size w.heap.size _ (hd (l.drop j)) hbd w5 (IsBuilderF_kp HI4.out hk5 hlt) (by rw [Lib.byteCells_length]; omega) (by omega)
          have H5 := Lib.hid h5
          have HK5 := Lib.hid (HK4.out.trans hk5)
          clear h5 hk5
          go_wp2_with fail
          refine cA.mono ?_
          rintro e w6 ⟨rfl, hI6, hb6⟩
          have h6 := H5.out.belowB hb6 hlt
          have HK6 := Lib.hid (HK5.out.belowB hb6)
          rw [← Lib.byteCells_encodeRune, ← Lib.byteCells_append] at hI6
          have HI6 := Lib.hid hI6
          have cP := peek_on h6
          have H6 := Lib.hid h6
          clear hI6 hb6 h6
          go_wp2_with fail
          refine cP.mono ?_
          rintro e w7 ⟨rfl, hb7⟩
          have H7 := Lib.hid (H6.out.below hb7)
          have HK7 := Lib.hid (HK6.out.trans (Kp.of_below hb7))
          have HI7 := Lib.hid (Ch.IsBuilderF_below HI6.out hb7)
          clear hb7
          go_wp2
          go_roundw
          case rel => exact ⟨_, _, rfl, H7.out, HK7.out, HI7.out, by rw [List.append_assoc, ← HY.out]; exact HAC.out, by have := HZ.out; have := HJ.out; omega⟩
          case measure =>
            rw [H7.out.cur, HON.out.cur]
            have := HZ.out.2
            have := H7.out.ile
            omega
end Go.Proofs.YtndcmapifihgeaaGreatDoor.Tg

/- The reader's text, value and attr, walked. -/
namespace Go.Proofs.YtndcmapifihgeaaGreatDoor.Tg
open Go.RowKit Go.Lib
open Ch (at0 nx nx_width nx_range at0_lt at0_drop enc_len Sl Sl.below Cells ret_str good nx_good)
open Kl (blankN greatN blankZ blank_any)

variable {l : List UInt8} {a : Option Addr} {cap R i : Nat} {W w w' : World}

set_option maxHeartbeats 2000000 in
set_option maxRecDepth 100000 in
theorem text_on (fn : Nat) (caps : Array Value) (p : Nat → Bool) (I : World → Prop) (hen : ∀ (args : Array Value) (w : World), (callFunc fn args).run Tryz.prog w = .ok (.enter fn args) w)
    (h : On l a cap R i W w) (hI : I w) (hst : ∀ w1 w2, I w1 → Kp R w1 w2 → I w2)
    (hmay : ∀ (c : Nat) w1, I w1 → Calls Tryz.prog fn (#[.int .i32 (c : Int)] ++ caps) w1 fun e w2 => e = .returned (.bool (p c)) ∧ Below w1.heap.size w1 w2) :
    Calls Tryz.prog 125 #[.pointer (some ⟨R, 0, none⟩), .func (.func fn) #[] caps] w fun e w' => e = .returned (.string ⟨(txt true ((l.drop i).take (ov p (l.drop i)))).toArray⟩) ∧ On l a cap R (i + ov p (l.drop i)) W w' ∧ Kp R w w' := by
  have c1 := h.c1
  have hle := drop_len_ov p l i h.ile
  have hlen := h.len
  have cP := pass_on fn caps p I hen h hI hst hmay
  obtain ⟨Y, hY⟩ : ∃ Y, i + ov p (l.drop i) = Y := ⟨_, rfl⟩
  have cX := fun (w : World) (hs : Sl l a cap w) (hT : Tb w) => text_any l a cap i (ov p (l.drop i)) (i : Int) (Y : Int) true w hs rfl (by omega) hle hT hlen
  rw [hY] at cP ⊢
  have HX := Lib.hid cX
  clear hI hst hmay cX hle hY
  go_enter Tryz.func125, Tryz.ntmps125
  go_wp2_with fail
  refine cP.mono ?_
  rintro e w1 ⟨rfl, h1, hk1⟩
  have d0 := h1.c0
  have d1 := h1.c1
  have HK1 := Lib.hid hk1
  clear hk1 cP h
  go_wp2_with fail
  go_region_held3 (fun w' => w'.cell? ⟨R, 0, none⟩ = some (.slice a l.length cap) ∧ w'.cell? ⟨R, 1, none⟩ = some (.int .i64 (Y : Int))) (first | exact ⟨d0, d1⟩ | exact ⟨(h1.below (by assumption)).c0, (h1.below (by assumption)).c1⟩)
    (first
      | (go_at_call 48; refine (HX.out w1.drew ?_ ?_).mono ?_; (exact h1.drew.sl'); (exact h1.drew.tb'); rintro e w' ⟨rfl, g1⟩; have g1 := below_of_drew g1))
  go_wp2
  go_ret
  exact ⟨rfl, h1.below g1, HK1.out.trans (Kp.of_below g1)⟩

set_option maxHeartbeats 1000000 in
theorem bare_any (c : Nat) (w : World) : Calls Tryz.prog 126 #[.int .i32 (c : Int)] w fun e w' => e = .returned (.bool (pBare c)) ∧ Below w.heap.size w w' := by
  have cB := blank_any (c : Int) w
  rw [Kl.blankZ_nat] at cB
  unfold pBare
  cases hb : blankN c with
  | true =>
    rw [hb] at cB
    go_enter Tryz.func126, Tryz.ntmps126
    go_wp2_with fail
    refine cB.mono ?_
    rintro e w1 ⟨rfl, rfl⟩
    go_wp2
    go_ret
    exact ⟨rfl, Below.refl _ _⟩
  | false =>
    rw [hb] at cB
    cases h6 : ((c : Int) != 62) with
    | true =>
      have e : (c == 62) = false := by simp at h6 ⊢; omega
      rw [e]
      go_enter Tryz.func126, Tryz.ntmps126
      go_wp2_with fail
      refine cB.mono ?_
      rintro e w1 ⟨rfl, rfl⟩
      go_wp2
      go_ret
      exact ⟨rfl, Below.refl _ _⟩
    | false =>
      have e : (c == 62) = true := by simp at h6 ⊢; omega
      rw [e]
      go_enter Tryz.func126, Tryz.ntmps126
      go_wp2_with fail
      refine cB.mono ?_
      rintro e w1 ⟨rfl, rfl⟩
      go_wp2
      go_ret
      exact ⟨rfl, Below.refl _ _⟩

set_option maxHeartbeats 1000000 in
theorem gap_any (c : Nat) (w : World) : Calls Tryz.prog 106 #[.int .i32 (c : Int)] w fun e w' => e = .returned (.bool (pGap c)) ∧ Below w.heap.size w w' := by
  have cB := blank_any (c : Int) w
  rw [Kl.blankZ_nat] at cB
  unfold pGap
  cases hb : blankN c with
  | true =>
    rw [hb] at cB
    go_enter Tryz.func106, Tryz.ntmps106
    go_wp2_with fail
    refine cB.mono ?_
    rintro e w1 ⟨rfl, rfl⟩
    go_wp2
    go_ret
    exact ⟨rfl, Below.refl _ _⟩
  | false =>
    rw [hb] at cB
    have e : (c == 47) = ((c : Int) == 47) := by rw [Bool.eq_iff_iff]; simp; omega
    rw [e]
    go_enter Tryz.func106, Tryz.ntmps106
    go_wp2_with fail
    refine cB.mono ?_
    rintro e w1 ⟨rfl, rfl⟩
    go_wp2
    go_ret
    exact ⟨rfl, Below.refl _ _⟩

theorem blank_on (c : Nat) (w : World) : Calls Tryz.prog 92 #[.int .i32 (c : Int)] w fun e w' => e = .returned (.bool (blankN c)) ∧ Below w.heap.size w w' := by
  have cB := blank_any (c : Int) w
  rw [Kl.blankZ_nat] at cB
  refine cB.mono ?_
  rintro e w1 ⟨rfl, rfl⟩
  exact ⟨rfl, Below.refl _ _⟩

set_option maxHeartbeats 1000000 in
theorem quote_any (c q g : Nat) (w : World) (hg : w.cell? ⟨g, 0, none⟩ = some (.int .i32 (q : Int))) : Calls Tryz.prog 127 #[.int .i32 (c : Int), .pointer (some ⟨g, 0, none⟩)] w fun e w' => e = .returned (.bool (pQ q c)) ∧ Below w.heap.size w w' := by
  have e : pQ q c = ((c : Int) != (q : Int)) := by
    unfold pQ
    rw [Bool.eq_iff_iff]; simp; omega
  rw [e]
  clear e
  go_enter Tryz.func127, Tryz.ntmps127
  go_wp2
  go_ret
  exact ⟨rfl, Below.refl _ _⟩

theorem en77 (args : Array Value) (w : World) : (callFunc 126 args).run Tryz.prog w = .ok (.enter 126 args) w := Go.Proofs.enters_of Tryz.func126 (by kernel_rfl) rfl args w
theorem en78 (args : Array Value) (w : World) : (callFunc 127 args).run Tryz.prog w = .ok (.enter 127 args) w := Go.Proofs.enters_of Tryz.func127 (by kernel_rfl) rfl args w
theorem en55 (args : Array Value) (w : World) : (callFunc 106 args).run Tryz.prog w = .ok (.enter 106 args) w := Go.Proofs.enters_of Tryz.func106 (by kernel_rfl) rfl args w
theorem en14 (args : Array Value) (w : World) : (callFunc 92 args).run Tryz.prog w = .ok (.enter 92 args) w := Go.Proofs.enters_of Tryz.func92 (by kernel_rfl) rfl args w

theorem On.alloc (h : On l a cap R i W w) (o : Obj) : On l a cap R i W (w.alloc o) := h.below ((Below.refl _ w).alloc (Nat.le_refl _) _)

theorem vl_bare {m : List UInt8} (h : ¬ (hd m = 34 ∨ hd m = 39)) : vl m = (txt true (m.take (ov pBare m)), ov pBare m) := if_neg h
theorem vl_quote {m : List UInt8} (h : hd m = 34 ∨ hd m = 39) : vl m = (txt true ((m.drop 1).take (ov (pQ (hd m)) (m.drop 1))), 1 + ov (pQ (hd m)) (m.drop 1) + wd (m.drop (1 + ov (pQ (hd m)) (m.drop 1)))) := if_pos h

set_option maxHeartbeats 4000000 in
set_option maxRecDepth 100000 in
theorem value_on (h : On l a cap R i W w) :
    Calls Tryz.prog 116 #[.pointer (some ⟨R, 0, none⟩)] w fun e w' => e = .returned (.string ⟨(vl (l.drop i)).1.toArray⟩) ∧ On l a cap R (i + (vl (l.drop i)).2) W w' ∧ Kp R w w' := by
  have cP := peek_on h
  have H := Lib.hid h
  have hbd := hd_bd (l.drop i)
  by_cases hq : hd (l.drop i) = 34 ∨ hd (l.drop i) = 39
  · have hw1 : wd (l.drop i) = 1 := by
      have hne := hd_pos (m := l.drop i) (by omega)
      rcases hq with k | k
      · rw [wd_ne hne, (hd_is (c := 34) (by decide) (by decide) (by decide) k).2.1]
      · rw [wd_ne hne, (hd_is (c := 39) (by decide) (by decide) (by decide) k).2.1]
    rw [vl_quote hq]
    have hdd : ∀ k, (l.drop i).drop k = l.drop (i + k) := fun k => List.drop_drop
    rw [hdd, hdd]
    obtain ⟨C, hC⟩ : ∃ C, hd (l.drop i) = C := ⟨_, rfl⟩
    rw [hC] at cP hq hbd ⊢
    obtain ⟨n, hn⟩ : ∃ n, ov (pQ C) (l.drop (i + 1)) = n := ⟨_, rfl⟩
    obtain ⟨S, hS⟩ : ∃ S, txt true ((l.drop (i + 1)).take n) = S := ⟨_, rfl⟩
    obtain ⟨D, hD⟩ : ∃ D, wd (l.drop (i + (1 + n))) = D := ⟨_, rfl⟩
    rw [hn, hS, hD]
    have HN := Lib.hid hn
    have HS := Lib.hid hS
    have HD := Lib.hid hD
    have HW := Lib.hid hw1
    clear h hw1 hC hn hS hD hdd
    have go : ∀ (w1 : World), On l a cap R i W w1 → Kp R w w1 → ∀ g, g = w1.heap.size → Calls Tryz.prog 102 #[.pointer (some ⟨R, 0, none⟩)] (w1.alloc (.cells #[.int .i32 (C : Int)] 21)) fun e w' => e = .returned (.int .i32 ((hd (l.drop i) : Nat) : Int)) ∧ On l a cap R (i + 1) W w' ∧ Kp R w w' ∧ w'.cell? ⟨g, 0, none⟩ = some (.int .i32 (C : Int)) ∧ R < g := by
      rintro w1 h1 hk1 g rfl
      have hA := h1.alloc (.cells #[.int .i32 (C : Int)] 21)
      refine (take_on hA).mono ?_
      rintro e w2 ⟨rfl, h2, hk2⟩
      rw [HW.out] at h2
      refine ⟨rfl, h2, (hk1.trans (Kp.alloc _)).trans hk2, ?_, h1.lt⟩
      have : w2.heap[w1.heap.size]? = some (.cells #[.int .i32 (C : Int)] 21 (0, 0)) := by
        rw [hk2.block w1.heap.size (by simp) (by have := h1.lt; simp; omega)]
        exact heap_alloc_new w1 _
      rw [Lib.cell_of_heap this]
      rfl
    have HG := Lib.hid go
    clear go
    rcases hq with rfl | rfl
    all_goals
      go_enter Tryz.func116, Tryz.ntmps116
      go_wp2_with fail
      refine cP.mono ?_
      rintro e w1 ⟨rfl, hb1⟩
      have cT := HG.out w1 (H.out.below hb1) (Kp.of_below hb1) _ rfl
      clear cP hb1
      go_wp2_with fail
      refine cT.mono ?_
      rintro e w2 ⟨rfl, h2, hk2, hg2, hRg⟩
      have cX := text_on 127 #[.pointer (some ⟨w1.heap.size, 0, none⟩)] _ (fun w => w.cell? ⟨w1.heap.size, 0, none⟩ = some (.int .i32 _)) en78 h2 hg2 (fun wa wb ha hab => by
        have hlt := World.block_lt_of_cell? wa _ ha
        exact (World.cell?_of_block (hab.block _ hlt (by simp; omega))).trans ha) (fun c wa ha => quote_any c _ _ wa ha)
      rw [HN.out, HS.out] at cX
      have HK2 := Lib.hid hk2
      clear cT hk2 h2
      go_wp2_with fail
      refine cX.mono ?_
      rintro e w3 ⟨rfl, h3, hk3⟩
      have cT := take_on h3
      have HK3 := Lib.hid (HK2.out.trans hk3)
      clear cX hk3 h3
      go_wp2_with fail
      refine cT.mono ?_
      rintro e w4 ⟨rfl, h4, hk4⟩
      have HK4 := Lib.hid (HK3.out.trans hk4)
      rw [show i + 1 + n = i + (1 + n) by omega, HD.out, show i + (1 + n) + D = i + (1 + n + D) by omega] at h4
      have H4 := Lib.hid h4
      clear hk4 cT h4
      go_wp2
      go_ret
      exact ⟨rfl, H4.out, HK4.out⟩
  · have t1 : (((hd (l.drop i) : Nat) : Int) != 34) = true := by simp; omega
    have t2 : (((hd (l.drop i) : Nat) : Int) != 39) = true := by simp; omega
    rw [vl_bare hq]
    clear h
    generalize hd (l.drop i) = C at cP t1 t2
    clear hq
    go_enter Tryz.func116, Tryz.ntmps116
    go_wp2_with fail
    refine cP.mono ?_
    rintro e w1 ⟨rfl, hb1⟩
    have h1 := H.out.below hb1
    have cX := text_on 126 #[] pBare (fun _ => True) en77 (h1.alloc (.cells #[.int .i32 (C : Int)] 21)) trivial (fun _ _ _ _ => trivial) (fun c wa _ => bare_any c wa)
    have HK1 := Lib.hid ((Kp.of_below (R := R) hb1).trans (Kp.alloc (.cells #[.int .i32 (C : Int)] 21)))
    clear cP hb1 h1
    go_wp2_with fail
    refine cX.mono ?_
    rintro e w2 ⟨rfl, h2, hk2⟩
    have H2 := Lib.hid h2
    have HK2 := Lib.hid (HK1.out.trans hk2)
    clear cX h2 hk2
    go_wp2
    go_ret
    exact ⟨rfl, H2.out, HK2.out⟩
end Go.Proofs.YtndcmapifihgeaaGreatDoor.Tg

/- The reader's attr and attrs, walked. -/
namespace Go.Proofs.YtndcmapifihgeaaGreatDoor.Tg
open Go.RowKit Go.Lib
open Ch (at0 nx nx_width nx_range at0_lt at0_drop enc_len Sl Sl.below Cells ret_str good nx_good)
open Kl (blankN greatN blankZ blank_any)
open At (cellsA)

variable {l : List UInt8} {a : Option Addr} {cap R i : Nat} {W w w' : World}

theorem pAtt_st (c : Nat) : pAtt c = (!blankN c && !([47, 62, 61] : List UInt8).any (fun b : UInt8 => b.toNat == c)) := by
  unfold pAtt
  have : ([47, 62, 61] : List UInt8).any (fun b : UInt8 => b.toNat == c) = (c == 47 || c == 62 || c == 61) := by rw [Bool.eq_iff_iff]; simp; omega
  rw [this]
theorem pTag_st (c : Nat) : pTag c = (!blankN c && !([47, 62] : List UInt8).any (fun b : UInt8 => b.toNat == c)) := by
  unfold pTag
  have : ([47, 62] : List UInt8).any (fun b : UInt8 => b.toNat == c) = (c == 47 || c == 62) := by rw [Bool.eq_iff_iff]; simp; omega
  rw [this]

/-- a block of two cells -/
structure Two (g : Nat) (x y : Value) (w : World) : Prop where
  blk : w.heap[g]? = some (.cells #[x, y] 75 (0, 0))
theorem Two.lt {g : Nat} {x y : Value} (h : Two g x y w) : g < w.heap.size := by
  rcases Nat.lt_or_ge g w.heap.size with k | k
  · exact k
  · have := h.blk
    rw [Array.getElem?_eq_none k] at this
    cases this
theorem Two.kp {g : Nat} {x y : Value} (h : Two g x y w) (hk : Kp R w w') (hne : R < g) : Two g x y w' := ⟨(hk.block g h.lt (by simp; omega)).trans h.blk⟩
theorem Two.below {g : Nat} {x y : Value} (h : Two g x y w) (hb : Below w.heap.size w w') : Two g x y w' := ⟨(hb.block g h.lt).trans h.blk⟩
theorem Two.alloc {g : Nat} {x y : Value} (h : Two g x y w) (o : Obj) : Two g x y (w.alloc o) := ⟨(Lib.alloc_old w o g h.lt).trans h.blk⟩
theorem two_new (w : World) (x y : Value) : Two w.heap.size x y (w.alloc (.cells #[x, y] 75)) := ⟨heap_alloc_new w _⟩
theorem Two.c0 {g : Nat} {x y : Value} (h : Two g x y w) : w.cell? ⟨g, 0, none⟩ = some x := by rw [Lib.cell_of_heap h.blk]; rfl
theorem Two.c1 {g : Nat} {x y : Value} (h : Two g x y w) : w.cell? ⟨g, 1, none⟩ = some y := by rw [Lib.cell_of_heap h.blk]; rfl
theorem Two.f0 {g : Nat} {x y : Value} (h : Two g x y w) : w.frozen? ⟨g, 0, none⟩ = false := Lib.frozen_of_heap h.blk 0
theorem Two.f1 {g : Nat} {x y : Value} (h : Two g x y w) : w.frozen? ⟨g, 1, none⟩ = false := Lib.frozen_of_heap h.blk 1

theorem Two.set0 {g : Nat} {x y : Value} (h : Two g x y w) (v : Value) : Two g v y (w.setCell ⟨g, 0, none⟩ v) := ⟨by simp [World.setCell, Array.getElem?_modify, h.blk]⟩
theorem Two.set1 {g : Nat} {x y : Value} (h : Two g x y w) (v : Value) : Two g x v (w.setCell ⟨g, 1, none⟩ v) := ⟨by simp [World.setCell, Array.getElem?_modify, h.blk]⟩
theorem Two.other {g g' j : Nat} {x y : Value} (h : Two g x y w) (hne : g ≠ g') (v : Value) : Two g x y (w.setCell ⟨g', j, none⟩ v) := ⟨(Below.heap_setCell _ _ _ _ hne).trans h.blk⟩
theorem info43 : (Tryz.prog.info? 75).map (·.size) = some 2 := by kernel_rfl

theorem On.set {g j : Nat} (h : On l a cap R i W w) (hg : R < g) (v : Value) : On l a cap R i W (w.setCell ⟨g, j, none⟩ v) :=
  ⟨h.sl, h.tb, h.len, h.le, h.base.setCell (p := ⟨g, j, none⟩) (by have := h.le; show W.heap.size ≤ g; omega) _, (Below.heap_setCell _ _ _ _ (by show R ≠ g; omega)).trans h.blk, h.ile⟩
theorem Kp.set {w1 : World} {g j : Nat} (h : Kp R w w1) (hg : w.heap.size ≤ g) (v : Value) : Kp R w (w1.setCell ⟨g, j, none⟩ v) :=
  ⟨h.os, h.tape, h.output, by have := h.size; simpa using this, fun k hk hne => (Below.heap_setCell _ _ _ _ (by show k ≠ g; omega)).trans (h.block k hk hne)⟩

theorem aN_at (l : List UInt8) (i : Nat) (h : l.drop i ≠ []) : encodeRune ((lowN (hd (l.drop i)) : Nat) : Int) ++ lw pAtt (l.drop (i + wd (l.drop i))) = aN (l.drop i) ∧ i + wd (l.drop i) + ov pAtt (l.drop (i + wd (l.drop i))) = i + a1 (l.drop i) := by
  unfold aN a1
  rw [hd_ne h, wd_ne h, List.drop_drop]
  exact ⟨rfl, by omega⟩
theorem a2_at (l : List UInt8) (i : Nat) : i + a1 (l.drop i) + ov blankN (l.drop (i + a1 (l.drop i))) = i + a2 (l.drop i) := by
  unfold a2
  rw [List.drop_drop]
  omega
theorem a3_at (l : List UInt8) (i : Nat) : i + a2 (l.drop i) + 1 + ov blankN (l.drop (i + a2 (l.drop i) + 1)) = i + a3 (l.drop i) := by
  unfold a3
  rw [List.drop_drop, Nat.add_assoc i (a2 (l.drop i)) 1]
  omega

set_option maxHeartbeats 4000000 in
set_option maxRecDepth 100000 in
theorem attr_on (h : On l a cap R i W w) (hne : l.drop i ≠ []) :
    Calls Tryz.prog 107 #[.pointer (some ⟨R, 0, none⟩)] w fun e w' => e = .returned (.agg #[.string ⟨(ab (l.drop i)).1.1.toArray⟩, .string ⟨(ab (l.drop i)).1.2.toArray⟩]) ∧ On l a cap R (i + (ab (l.drop i)).2) W w' ∧ Kp R w w' := by
  have hlt := h.lt
  have hA := h.alloc (.cells #[.string ⟨#[]⟩, .string ⟨#[]⟩] 75)
  have cN := name_on [47, 62, 61] pAtt cr3 pAtt_st hA
  have eN := aN_at l i hne
  rw [eN.1, eN.2] at cN
  have e2 := a2_at l i
  have e3 := a3_at l i
  obtain ⟨N, hN⟩ : ∃ N, aN (l.drop i) = N := ⟨_, rfl⟩
  rw [hN] at cN
  have HE2 := Lib.hid e2
  have HE3 := Lib.hid e3
  have HN := Lib.hid hN
  clear e2 e3 hN eN hA h
  go_enter Tryz.func107, Tryz.ntmps107
  go_wp2_with fail
  refine cN.mono ?_
  rintro e w1 ⟨rfl, h1, hk1⟩
  have b1 : Two w.heap.size (.string ⟨#[]⟩) (.string ⟨#[]⟩) w1 := (two_new w _ _).kp hk1 hlt
  have hz1 : w.heap.size < w1.heap.size := b1.lt
  have cP := pass_on 92 #[] blankN (fun _ => True) en14 (h1.alloc (.cells #[.string ⟨N.toArray⟩, .string ⟨#[]⟩] 75)) trivial (fun _ _ _ _ => trivial) (fun c wa _ => blank_on c wa)
  rw [HE2.out] at cP
  have HB1 := Lib.hid (b1.alloc (.cells #[.string ⟨N.toArray⟩, .string ⟨#[]⟩] 75))
  have HK1 := Lib.hid (((Kp.alloc (R := R) (w := w) _).trans hk1).trans (Kp.alloc (.cells #[.string ⟨N.toArray⟩, .string ⟨#[]⟩] 75)))
  clear cN h1 hk1 b1
  go_wp2_with fail
  refine cP.mono ?_
  rintro e w2 ⟨rfl, h2, hk2⟩
  have b2 := HB1.out.kp hk2 hlt
  have d2 := (two_new w1 (.string ⟨N.toArray⟩) (.string ⟨#[]⟩)).kp hk2 (by omega)
  have HK2 := Lib.hid (HK1.out.trans hk2)
  have cK := peek_on h2
  have H2 := Lib.hid h2
  have HB2 := Lib.hid b2
  have HD2 := Lib.hid d2
  clear cP hk2 h2 b2 d2
  go_wp2_with fail
  refine cK.mono ?_
  rintro e w3 ⟨rfl, hb3⟩
  have b3 := HB2.out.below hb3
  have d3 := HD2.out.below hb3
  have h3 := H2.out.below hb3
  have HK3 := Lib.hid (HK2.out.trans (Kp.of_below hb3))
  clear cK hb3
  by_cases hq : hd ((l.drop i).drop (a2 (l.drop i))) = 61
  · have hab : ab (l.drop i) = ((N, (vl ((l.drop i).drop (a3 (l.drop i)))).1), a3 (l.drop i) + (vl ((l.drop i).drop (a3 (l.drop i)))).2) := by
      unfold ab; rw [if_pos hq, HN.out]
    rw [List.drop_drop] at hab hq
    have hw1 : wd (l.drop (i + a2 (l.drop i))) = 1 := by
      have q := hd_is (c := 61) (by decide) (by decide) (by decide) hq
      rw [wd_ne q.2.2, q.2.1]
    have t1 : (((hd (l.drop (i + a2 (l.drop i))) : Nat) : Int) != 61) = false := by simp [hq]
    have HAB := Lib.hid hab
    have cT := take_on h3
    rw [hw1] at cT
    have HB3 := Lib.hid b3
    have HD3 := Lib.hid d3
    clear hab hq hw1 b3 d3 h3
    go_wp2_with fail
    refine cT.mono ?_
    rintro e w4 ⟨rfl, h4, hk4⟩
    have b4 := HB3.out.kp hk4 hlt
    have d4 := HD3.out.kp hk4 (by omega)
    have cP := pass_on 92 #[] blankN (fun _ => True) en14 h4 trivial (fun _ _ _ _ => trivial) (fun c wa _ => blank_on c wa)
    rw [HE3.out] at cP
    have HK4 := Lib.hid (HK3.out.trans hk4)
    clear cT hk4 h4
    go_wp2_with fail
    refine cP.mono ?_
    rintro e w5 ⟨rfl, h5, hk5⟩
    have b5 := b4.kp hk5 hlt
    have d5 := d4.kp hk5 (by omega)
    have cV := value_on h5
    have HK5 := Lib.hid (HK4.out.trans hk5)
    clear cP hk5 h5 b4 d4
    go_wp2_with fail
    refine cV.mono ?_
    rintro e w6 ⟨rfl, h6, hk6⟩
    have b6 := b5.kp hk6 hlt
    have d6 := d5.kp hk6 (by omega)
    have c20 := b6.c0
    have c21 := b6.c1
    have f20 := b6.f0
    have f21 := b6.f1
    have c30 := d6.c0
    have c31 := d6.c1
    have f31 := d6.f1
    have hgne : w.heap.size ≠ w1.heap.size := by omega
    have H6 := Lib.hid h6
    have HK6 := Lib.hid (HK5.out.trans hk6)
    have HB6 := Lib.hid b6
    clear cV hk6 h6 b5 d5 b6 d6
    go_wp2
    (try simp only [Exit.inBlock, Exit.then])
    refine bodyPost_ret (results_cell_row rfl _ _ w.heap.size 75 #[.string ⟨N.toArray⟩, .string ⟨(vl (l.drop (i + a3 (l.drop i)))).1.toArray⟩] (0, 0) _ rfl ?_ Tryz.underlying75 rfl info43) rfl ?_
    · exact (((HB6.out.other hgne _).set0 _).set1 _).blk
    rw [HAB.out]
    refine ⟨rfl, ?_, ?_⟩
    · rw [← Nat.add_assoc]
      exact ((H6.out.set (by omega) _).set hlt _).set hlt _
    · exact ((HK6.out.set (by omega) _).set (Nat.le_refl _) _).set (Nat.le_refl _) _
  · have hab : ab (l.drop i) = ((N, []), a2 (l.drop i)) := by unfold ab; rw [if_neg hq, HN.out]
    rw [List.drop_drop] at hq
    have t1 : (((hd (l.drop (i + a2 (l.drop i))) : Nat) : Int) != 61) = true := by simp; omega
    have HAB := Lib.hid hab
    have c20 := b3.c0
    have c21 := b3.c1
    have f20 := b3.f0
    have f21 := b3.f1
    have c30 := d3.c0
    have c31 := d3.c1
    have H3 := Lib.hid h3
    have HB3 := Lib.hid b3
    clear hab hq b3 d3 h3
    go_wp2
    (try simp only [Exit.inBlock, Exit.then])
    refine bodyPost_ret (results_cell_row rfl _ _ w.heap.size 75 #[.string ⟨N.toArray⟩, .string ⟨#[]⟩] (0, 0) _ rfl ?_ Tryz.underlying75 rfl info43) rfl ?_
    · exact ((HB3.out.set0 _).set1 _).blk
    rw [HAB.out]
    exact ⟨rfl, (H3.out.set hlt _).set hlt _, (HK3.out.set (Nat.le_refl _) _).set (Nat.le_refl _) _⟩

/-- what attrs answers -/
def AtsPost (l : List UInt8) (a : Option Addr) (cap R i : Nat) (W w : World) (e : Ending) (w' : World) : Prop :=
  match ats (l.drop i) with
  | none => e = .returned (.tuple #[.slice none 0 0, .bool false]) ∧ Kp R w w'
  | some p => ∃ v, e = .returned (.tuple #[v, .bool true]) ∧ w'.ownsRow w.heap.size 75 2 v p.1.length (cellsA p.1) ∧ On l a cap R (i + p.2) W w' ∧ Kp R w w'
theorem AtsPost.none {e : Ending} (h : ats (l.drop i) = none) (he : e = .returned (.tuple #[.slice none 0 0, .bool false])) (hk : Kp R w w') : AtsPost l a cap R i W w e w' := by
  unfold AtsPost; rw [h]; exact ⟨he, hk⟩
theorem AtsPost.some {e : Ending} {L : List At.At} {n : Nat} (h : ats (l.drop i) = some (L, n)) {v : Value} (he : e = .returned (.tuple #[v, .bool true])) (ho : w'.ownsRow w.heap.size 75 2 v L.length (cellsA L)) (hn : On l a cap R (i + n) W w') (hk : Kp R w w') : AtsPost l a cap R i W w e w' := by
  unfold AtsPost; rw [h]; exact ⟨v, he, ho, hn, hk⟩

def AtsRel (l : List UInt8) (a : Option Addr) (cap R i : Nat) (W w : World) (v : Value) (wr : World) : Prop :=
  ∃ (j : Nat) (acc : List At.At), wr.ownsRow w.heap.size 75 2 v acc.length (cellsA acc) ∧ On l a cap R j W wr ∧ Kp R w wr ∧ i ≤ j ∧ acc.length ≤ j ∧
    ats (l.drop i) = (ats (l.drop j)).map fun p => (acc ++ p.1, j - i + p.2)

theorem ownsRow_kp {B : Nat} {e : TypeId} {size : Nat} {v : Value} {n : Nat} {xs : List Value} (h : w.ownsRow B e size v n xs) (hk : Kp R w w') (hR : R < B) : w'.ownsRow B e size v n xs := by
  refine h.kept hk ?_
  cases hv : v.ownBlock with
  | none => exact Or.inl rfl
  | some g => have := (h.lt g hv).1; exact Or.inr (by simp; omega)
theorem Kp.grown {w1 w2 : World} {r : Option Nat} (h : Kp R w w1) (hg : w1.grownBy w2 r) (hr : ∀ k, r = some k → w.heap.size ≤ k) : Kp R w w2 := At.grown_past h hg hr

set_option maxHeartbeats 4000000 in
set_option maxRecDepth 100000 in
theorem attrs_on (h : On l a cap R i W w) : Calls Tryz.prog 76 #[.pointer (some ⟨R, 0, none⟩)] w (AtsPost l a cap R i W w) := by
  have hlt := h.lt
  have H := Lib.hid h
  clear h
  go_enter Tryz.func76, Tryz.ntmps76
  go_wp2
  go_loopw [4] (fun v wr => AtsRel l a cap R i W w v wr) (fun _ wr => l.length - cur R wr)
  case atStart =>
    refine ⟨i, [], World.ownsRow_nil _ _ _ _, H.out, Kp.refl _ _, Nat.le_refl _, Nat.zero_le _, ?_⟩
    cases ats (l.drop i) with
    | none => rfl
    | some p => simp
  case round =>
    obtain ⟨j, acc, hown, hon, hkp, hij, haj, heq⟩ := hrel
    have cP := pass_on 106 #[] pGap (fun _ => True) en55 hon trivial (fun _ _ _ _ => trivial) (fun c wa _ => gap_any c wa)
    have hll := hon.len
    have hjl := hon.ile
    have hcur := hon.cur
    have HO := Lib.hid hown
    have HK := Lib.hid hkp
    have HEQ := Lib.hid heq
    clear hown hkp heq hon
    go_wp2_with fail
    refine cP.mono ?_
    rintro e w2 ⟨rfl, h2, hk2⟩
    have cK := peek_on h2
    have ho2 := ownsRow_kp HO.out hk2 hlt
    have hk2' := HK.out.trans hk2
    clear cP hk2
    have HO2 := Lib.hid ho2
    have HK2 := Lib.hid hk2'
    have H2 := Lib.hid h2
    clear ho2 hk2'
    go_wp2_with fail
    refine cK.mono ?_
    rintro e w3 ⟨rfl, hb3⟩
    have h3 := h2.below hb3
    have ho3 := At.ownsRow_below HO2.out hb3
    have hk3 := HK2.out.trans (Kp.of_below hb3)
    clear cK hb3 h2
    have hdd : (l.drop j).drop (ov pGap (l.drop j)) = l.drop (j + ov pGap (l.drop j)) := List.drop_drop
    by_cases h0 : hd (l.drop (j + ov pGap (l.drop j))) = 0
    · have t0 : (((hd (l.drop (j + ov pGap (l.drop j))) : Nat) : Int) == 0) = true := by simp [h0]
      have hn : ats (l.drop j) = none := ats_end (by rw [hdd]; exact hd_zero.1 h0)
      have HN := Lib.hid (by rw [HEQ.out, hn]; rfl : ats (l.drop i) = none)
      have HK3 := Lib.hid hk3
      clear hn h0 hdd hk3 ho3 h3
      go_wp2
      go_ret2
      exact AtsPost.none HN.out rfl HK3.out
    · have t0 : (((hd (l.drop (j + ov pGap (l.drop j))) : Nat) : Int) == 0) = false := by simp; omega
      by_cases h6 : hd (l.drop (j + ov pGap (l.drop j))) = 62
      · have t6 : (((hd (l.drop (j + ov pGap (l.drop j))) : Nat) : Int) == 62) = true := by simp [h6]
        have hn : ats (l.drop j) = some ([], ov pGap (l.drop j) + 1) := ats_gt (by rw [hdd]; exact h6)
        have hw1 : wd (l.drop (j + ov pGap (l.drop j))) = 1 := by
          have q := hd_is (c := 62) (by decide) (by decide) (by decide) h6
          rw [wd_ne q.2.2, q.2.1]
        have HN := Lib.hid (by rw [HEQ.out, hn]; simp : ats (l.drop i) = some (acc, j - i + (ov pGap (l.drop j) + 1)))
        have cT := take_on h3
        rw [hw1] at cT
        have HK3 := Lib.hid hk3
        have HO3 := Lib.hid ho3
        clear hn h0 h6 hdd hk3 ho3 h3 hw1
        go_wp2_with fail
        refine cT.mono ?_
        rintro e w4 ⟨rfl, h4, hk4⟩
        have HO4 := Lib.hid (ownsRow_kp HO3.out hk4 hlt)
        have HK4 := Lib.hid (HK3.out.trans hk4)
        rw [show j + ov pGap (l.drop j) + 1 = i + (j - i + (ov pGap (l.drop j) + 1)) by omega] at h4
        have H4 := Lib.hid h4
        clear cT h4 hk4
        go_wp2
        go_ret2
        exact AtsPost.some HN.out rfl HO4.out H4.out HK4.out
      · have t6 : (((hd (l.drop (j + ov pGap (l.drop j))) : Nat) : Int) == 62) = false := by simp; omega
        have hne : l.drop (j + ov pGap (l.drop j)) ≠ [] := hd_pos h0
        have hn := ats_more (m := l.drop j) (by rw [hdd]; exact hne) (by rw [hdd]; exact h6)
        rw [hdd, List.drop_drop] at hn
        have hab := ab_le hne
        have cA := attr_on h3 hne
        obtain ⟨k, hk⟩ : ∃ k, ov pGap (l.drop j) = k := ⟨_, rfl⟩
        rw [hk] at hn cA hab t0 t6
        obtain ⟨x, m, hx⟩ : ∃ x m, ab (l.drop (j + k)) = (x, m) := ⟨_, _, rfl⟩
        rw [hx] at hn cA hab
        obtain ⟨x1, x2⟩ := x
        simp only at hn cA hab
        have HEQ2 := Lib.hid (show ats (l.drop i) = (ats (l.drop (j + k + m))).map fun p => ((acc ++ [(x1, x2)]) ++ p.1, j + k + m - i + p.2) by
          rw [HEQ.out, hn, Option.map_map]
          congr 1
          funext p
          simp only [Function.comp_apply, List.append_assoc, List.singleton_append, Prod.mk.injEq, true_and]
          omega)
        have HK3 := Lib.hid hk3
        have HO3 := Lib.hid ho3
        rw [List.length_drop] at hab
        clear hn h0 h6 hdd hk3 ho3 h3 hne hx HEQ
        rw [hk]
        clear hk
        go_wp2_with fail
        refine cA.mono ?_
        rintro e w4 ⟨rfl, h4, hk4⟩
        have ho4 := ownsRow_kp HO3.out hk4 hlt
        have hkk := HK3.out.trans hk4
        have hz4 : w.heap.size ≤ w4.heap.size := hkk.size
        obtain ⟨v5, w5, hr5, own5, gr5, -⟩ := At.app_one At.elem26 w4 w.heap.size _ acc (x1, x2) w4.heap.size rfl ho4 (by omega) hz4
        have HR5 := Lib.hid hr5
        have HO5 := Lib.hid own5
        have HK5 := Lib.hid (hkk.grown gr5 (fun g hg => (ho4.lt g hg).1))
        have hon5 : On l a cap R (j + k + m) W w5 := h4.belowB (B := w.heap.size) ((Below.refl _ w4).grown gr5 hz4 (fun g hg => (ho4.lt g hg).1)) hlt
        have H5 := Lib.hid hon5
        clear cA h4 hk4 ho4 hkk hr5 own5 gr5 hon5
        go_wp2_with (at_builtin; refine Lib.wpList_append_run _ rfl (.tmp 16) (.tmp 19) 24 24 rfl _ _ rfl rfl v5 w5 HR5.out ?_)
        go_roundw
        case rel => exact ⟨j + k + m, acc ++ [(x1, x2)], HO5.out, H5.out, HK5.out, by omega, by simp; omega, HEQ2.out⟩
        case measure =>
          rw [H5.out.cur, hcur]
          omega
end Go.Proofs.YtndcmapifihgeaaGreatDoor.Tg
