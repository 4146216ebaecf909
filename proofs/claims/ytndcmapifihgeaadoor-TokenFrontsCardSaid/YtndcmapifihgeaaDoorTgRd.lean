/- The reader of tags: where it stands; peek, take and pass, walked. -/
import Derived.Test.YtndcmapifihgeaaDoorText
import Derived.Test.YtndcmapifihgeaaDoorTgMath
import Derived.Test.YtndcmapifihgeaaDoorAtKeep
import Derived.Deep.RegionHeld3
namespace Go.Proofs.YtndcmapifihgeaaDoor.Tg
open Go.RowKit Go.Lib
open Ch (at0 nx nx_width nx_range at0_lt at0_drop enc_len Sl Sl.below Cells nxAt nxAt_in nxAt_out next_any)
open Kl (blankN greatN blankZ)

/-- the reader in block R stands at a place of a list; W is the world ahead of it -/
structure On (l : List UInt8) (a : Option Addr) (cap R i : Nat) (W w : World) : Prop where
  sl : Sl l a cap W
  tb : Tb W
  len : l.length ≤ 1000000
  le : W.heap.size ≤ R
  base : Below W.heap.size W w
  blk : w.heap[R]? = some (.cells #[.slice a l.length cap, .int .i64 (i : Int)] 89 (0, 0))
  ile : i ≤ l.length

variable {l : List UInt8} {a : Option Addr} {cap R i : Nat} {W w w' : World}

theorem On.sl' (h : On l a cap R i W w) : Sl l a cap w := h.sl.below h.base
theorem On.tb' (h : On l a cap R i W w) : Tb w := h.tb.below h.base
theorem On.lt (h : On l a cap R i W w) : R < w.heap.size := by
  rcases Nat.lt_or_ge R w.heap.size with k | k
  · exact k
  · have := h.blk
    rw [Array.getElem?_eq_none k] at this
    cases this
theorem On.c0 (h : On l a cap R i W w) : w.cell? ⟨R, 0, none⟩ = some (.slice a l.length cap) := by rw [Lib.cell_of_heap h.blk]; rfl
theorem On.c1 (h : On l a cap R i W w) : w.cell? ⟨R, 1, none⟩ = some (.int .i64 (i : Int)) := by rw [Lib.cell_of_heap h.blk]; rfl
theorem On.belowB {B : Nat} (h : On l a cap R i W w) (hb : Below B w w') (hB : R < B) : On l a cap R i W w' :=
  ⟨h.sl, h.tb, h.len, h.le, h.base.trans (hb.mono (by have := h.le; omega)), (hb.block R hB).trans h.blk, h.ile⟩
theorem On.below (h : On l a cap R i W w) (hb : Below w.heap.size w w') : On l a cap R i W w' := h.belowB hb h.lt
theorem On.put {j : Nat} (h : On l a cap R i W w) (hj : j ≤ l.length) : On l a cap R j W (w.setCell ⟨R, 1, none⟩ (.int .i64 (j : Int))) :=
  ⟨h.sl, h.tb, h.len, h.le, h.base.setCell (p := ⟨R, 1, none⟩) h.le _, by simp [World.setCell, Array.getElem?_modify, h.blk], hj⟩

/-- only the reader's block may have changed -/
def Kp (R : Nat) (w w' : World) : Prop := w.grownBy w' (some R)
theorem Kp.refl (R : Nat) (w : World) : Kp R w w := At.grown_refl w _
theorem Kp.trans {w1 w2 : World} (h : Kp R w w1) (h2 : Kp R w1 w2) : Kp R w w2 := World.grownBy.trans h h2
theorem Kp.of_below (h : Below w.heap.size w w') : Kp R w w' := ⟨h.os, h.tape, h.output, h.size, fun k hk _ => h.block k hk⟩
theorem Kp.setCell (v : Value) (j : Nat) : Kp R w (w.setCell ⟨R, j, none⟩ v) := ⟨rfl, rfl, rfl, by simp, fun k _ hne => Below.heap_setCell _ _ _ _ (fun e => hne (by simp [e]))⟩

theorem nxAt_hd (l : List UInt8) (i : Nat) (_h : i ≤ l.length) : nxAt l (i : Int) = (hd (l.drop i), wd (l.drop i)) := by
  by_cases h : i < l.length
  · rw [nxAt_in h, hd_ne, wd_ne]
    all_goals (intro e; have := congrArg List.length e; simp at this; omega)
  · rw [nxAt_out (by omega), List.drop_of_length_le (by omega)]
    rfl

theorem next_on (h : On l a cap R i W w) : Calls Tryd.prog 13 #[.slice a l.length cap, .int .i64 (i : Int)] w fun e w' => e = .returned (.tuple #[.int .i32 ((hd (l.drop i) : Nat) : Int), .int .i64 ((wd (l.drop i) : Nat) : Int)]) ∧ Below w.heap.size w w' := by
  have := next_any l a cap (i : Int) w h.sl' h.tb'.1
  rw [nxAt_hd l i h.ile] at this
  exact this

theorem below_drew {B : Nat} (h : Below B w.drew w') : Below B w w' := ⟨h.os, h.tape, h.output, h.size, h.block⟩
theorem below_of_drew (h : Below w.drew.heap.size w.drew w') : Below w.heap.size w w' := ⟨h.os, h.tape, h.output, h.size, h.block⟩
theorem On.drew (h : On l a cap R i W w) : On l a cap R i W w.drew := ⟨h.sl, h.tb, h.len, h.le, ⟨h.base.os, h.base.tape, h.base.output, h.base.size, h.base.block⟩, h.blk, h.ile⟩

set_option maxHeartbeats 2000000 in
set_option maxRecDepth 100000 in
theorem peek_on (h : On l a cap R i W w) : Calls Tryd.prog 67 #[.pointer (some ⟨R, 0, none⟩)] w fun e w' => e = .returned (.int .i32 ((hd (l.drop i) : Nat) : Int)) ∧ Below w.heap.size w w' := by
  have c0 := h.c0
  have c1 := h.c1
  go_enter Tryd.func67, Tryd.ntmps67
  go_wp2_with fail
  go_region_held3 (fun w' => w'.cell? ⟨R, 0, none⟩ = some (.slice a l.length cap) ∧ w'.cell? ⟨R, 1, none⟩ = some (.int .i64 (i : Int))) (first | exact ⟨c0, c1⟩ | exact ⟨(h.below (by assumption)).c0, (h.below (by assumption)).c1⟩)
    (first
      | (go_at_call 13; refine (next_on (R := R) (W := W) ?_).mono ?_; (exact h.drew); rintro e w' ⟨rfl, g1⟩; have g1 := below_of_drew g1))
  go_wp2
  go_ret
  exact ⟨rfl, g1⟩

theorem drop_wd (l : List UInt8) (i : Nat) (h : i ≤ l.length) : i + wd (l.drop i) ≤ l.length := by
  have := wd_le (l.drop i)
  simp only [List.length_drop] at this
  omega

set_option maxHeartbeats 2000000 in
set_option maxRecDepth 100000 in
theorem take_on (h : On l a cap R i W w) : Calls Tryd.prog 66 #[.pointer (some ⟨R, 0, none⟩)] w fun e w' => e = .returned (.int .i32 ((hd (l.drop i) : Nat) : Int)) ∧ On l a cap R (i + wd (l.drop i)) W w' ∧ Kp R w w' := by
  have c0 := h.c0
  have c1 := h.c1
  have hle := drop_wd l i h.ile
  have hlen := h.len
  have hN := fun (w : World) (h : On l a cap R i W w) => next_on h
  generalize wd (l.drop i) = D at hle hN ⊢
  generalize hd (l.drop i) = C at hN ⊢
  have H := Lib.hid h
  have HN := Lib.hid hN
  clear hN
  go_enter Tryd.func66, Tryd.ntmps66
  go_wp2_with fail
  go_region_held3 (fun w' => w'.cell? ⟨R, 0, none⟩ = some (.slice a l.length cap) ∧ w'.cell? ⟨R, 1, none⟩ = some (.int .i64 (i : Int))) (first | exact ⟨c0, c1⟩ | exact ⟨(h.below (by assumption)).c0, (h.below (by assumption)).c1⟩)
    (first
      | (go_at_call 13; refine (HN.out w.drew ?_).mono ?_; (exact h.drew); rintro e w' ⟨rfl, g1⟩; have g1 := below_of_drew g1))
  have h2 := h.below g1
  have d1 := h2.c1
  have f1 : w'.frozen? ⟨R, 1, none⟩ = false := Lib.frozen_of_heap h2.blk 1
  have H2 := Lib.hid h2
  have HG := Lib.hid g1
  clear h h2 g1 c0 c1
  go_wp2
  go_ret
  have e : (i : Int) + (D : Int) = ((i + D : Nat) : Int) := by omega
  rw [e]
  exact ⟨rfl, H2.out.put hle, (Kp.of_below HG.out).trans (Kp.setCell _ 1)⟩

/-- where the reader stands, read off the memory -/
def cur (R : Nat) (w : World) : Nat := match w.cell? ⟨R, 1, none⟩ with
  | some v => (RowKit.intOf v).toNat
  | none => 0
theorem On.cur (h : On l a cap R i W w) : cur R w = i := by unfold Tg.cur; rw [h.c1]; simp [RowKit.intOf]

theorem ov_at_stop {p : Nat → Bool} (l : List UInt8) (j : Nat) (h : hd (l.drop j) = 0 ∨ p (hd (l.drop j)) = false) : ov p (l.drop j) = 0 := by
  by_cases hm : l.drop j = []
  · rw [hm]; rfl
  · rw [hd_ne hm] at h
    rcases h with h | h
    · exact absurd h (nx_range _).1
    · exact (ov_stop h).1
theorem ov_at_step {p : Nat → Bool} (l : List UInt8) (j : Nat) (h0 : hd (l.drop j) ≠ 0) (h : p (hd (l.drop j)) = true) : ov p (l.drop j) = wd (l.drop j) + ov p (l.drop (j + wd (l.drop j))) ∧ 1 ≤ wd (l.drop j) := by
  have hm := hd_pos h0
  rw [hd_ne hm] at h
  rw [wd_ne hm]
  have := (ov_step hm h).1
  rw [List.drop_drop] at this
  exact ⟨this, (nx_width _ hm).1⟩

/-- where 'pass' stands -/
def PassRel (l : List UInt8) (a : Option Addr) (cap R i : Nat) (p : Nat → Bool) (W w : World) (v : Value) (wr : World) : Prop :=
  ∃ j : Nat, v = .int .i32 ((hd (l.drop j) : Nat) : Int) ∧ On l a cap R j W wr ∧ Kp R w wr ∧ j + ov p (l.drop j) = i + ov p (l.drop i)

theorem hd_bd (m : List UInt8) : hd m ≤ 1114111 := by
  by_cases h : m = []
  · subst h; exact Nat.zero_le _
  · rw [hd_ne h]; exact (nx_range m).2.2.1

set_option maxHeartbeats 2000000 in
set_option maxRecDepth 100000 in
theorem pass_on (fn : Nat) (caps : Array Value) (p : Nat → Bool) (I : World → Prop) (hen : ∀ (args : Array Value) (w : World), (callFunc fn args).run Tryd.prog w = .ok (.enter fn args) w)
    (h : On l a cap R i W w) (hI : I w) (hst : ∀ w1 w2, I w1 → Kp R w1 w2 → I w2)
    (hmay : ∀ (c : Nat) w1, I w1 → Calls Tryd.prog fn (#[.int .i32 (c : Int)] ++ caps) w1 fun e w2 => e = .returned (.bool (p c)) ∧ Below w1.heap.size w1 w2) :
    Calls Tryd.prog 69 #[.pointer (some ⟨R, 0, none⟩), .func (.func fn) #[] caps] w fun e w' => e = .returned (.tuple #[]) ∧ On l a cap R (i + ov p (l.drop i)) W w' ∧ Kp R w w' := by
  have H := Lib.hid h
  have HI := Lib.hid hI
  have HS := Lib.hid hst
  have HM := Lib.hid hmay
  clear hI hst hmay
  go_enter Tryd.func69, Tryd.ntmps69
  go_wp2_with fail
  refine (peek_on h).mono ?_
  rintro e w1 ⟨rfl, hb1⟩
  have H1 := Lib.hid (h.below hb1)
  have HB1 := Lib.hid hb1
  clear h hb1
  go_wp2
  go_loopw [4] (fun v wr => PassRel l a cap R i p W w v wr) (fun _ wr => l.length - cur R wr)
  case atStart => exact ⟨i, rfl, H1.out, Kp.of_below HB1.out, rfl⟩
  case round =>
    obtain ⟨j, rfl, hon, hkp, hj⟩ := hrel
    have HON := Lib.hid hon
    have HKP := Lib.hid hkp
    have HJ := Lib.hid hj
    have hbd := hd_bd (l.drop j)
    clear hon hkp hj
    by_cases h0 : hd (l.drop j) = 0
    · have t0 : (((hd (l.drop j) : Nat) : Int) != 0) = false := by simp [h0]
      have HZ := Lib.hid (ov_at_stop (p := p) l j (Or.inl h0))
      clear h0
      go_wp2
      go_end0
      have := HJ.out
      rw [HZ.out, Nat.add_zero] at this
      rw [← this]
      exact ⟨rfl, HON.out, HKP.out⟩
    · have t0 : (((hd (l.drop j) : Nat) : Int) != 0) = true := by simp [h0]
      have cM := HM.out (hd (l.drop j)) wr (HS.out _ _ HI.out HKP.out)
      cases hp : p (hd (l.drop j)) with
      | false =>
        have HZ := Lib.hid (ov_at_stop (p := p) l j (Or.inr hp))
        rw [hp] at cM
        clear h0 hp
        go_wp2_with fail
        refine cM.mono ?_
        rintro e w2 ⟨rfl, hb2⟩
        have H2 := Lib.hid (HON.out.below hb2)
        have HK2 := Lib.hid (HKP.out.trans (Kp.of_below hb2))
        clear hb2
        go_wp2
        go_end0
        have := HJ.out
        rw [HZ.out, Nat.add_zero] at this
        rw [← this]
        exact ⟨rfl, H2.out, HK2.out⟩
      | true =>
        have HZ := Lib.hid (ov_at_step (p := p) l j h0 hp)
        rw [hp] at cM
        clear h0 hp
        go_wp2_with fail
        refine cM.mono ?_
        rintro e w2 ⟨rfl, hb2⟩
        have h2 := HON.out.below hb2
        have HK2 := Lib.hid (HKP.out.trans (Kp.of_below hb2))
        have cT := take_on h2
        clear hb2 h2
        go_wp2_with fail
        refine cT.mono ?_
        rintro e w3 ⟨rfl, h3, hk3⟩
        have cP := peek_on h3
        have H3 := Lib.hid h3
        have HK3 := Lib.hid (HK2.out.trans hk3)
        clear h3 hk3
        go_wp2_with fail
        refine cP.mono ?_
        rintro e w4 ⟨rfl, hb4⟩
        have H4 := Lib.hid (H3.out.below hb4)
        have HK4 := Lib.hid (HK3.out.trans (Kp.of_below hb4))
        clear hb4
        go_wp2
        go_roundw
        case rel => exact ⟨_, rfl, H4.out, HK4.out, by have := HZ.out; have := HJ.out; omega⟩
        case measure =>
          rw [H4.out.cur, HON.out.cur]
          have := HZ.out.2
          have := H4.out.ile
          omega
end Go.Proofs.YtndcmapifihgeaaDoor.Tg
