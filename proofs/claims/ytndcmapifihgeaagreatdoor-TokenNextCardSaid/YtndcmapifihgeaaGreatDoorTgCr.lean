/- The reader of tags: where it stands; peek, take and pass, walked. -/
import Derived.Test.YtndcmapifihgeaaGreatDoorSpk
import Derived.Test.YtndcmapifihgeaaGreatDoorTgMath
import Derived.Test.YtndcmapifihgeaaGreatDoorAtKeep
import Derived.Deep.RegionHeld3
import Derived.Test.YtndcmapifihgeaaGreatDoorKlHex
import Derived.Shelf.Small.Strs
import Derived.WalkMore
import Derived.BigQuiet
import Derived.Deep.QuietTactic
namespace Go.Proofs.YtndcmapifihgeaaGreatDoor.Tg
open Go.RowKit Go.Lib
open Ch (at0 nx nx_width nx_range at0_lt at0_drop enc_len Sl Sl.below Cells nxAt nxAt_in nxAt_out next_any)
open Kl (blankN greatN blankZ)

/-- the reader in block R stands at a place of a list; W is the world ahead of it -/
structure On (l : List UInt8) (a : Option Addr) (cap R i : Nat) (W w : World) : Prop where
  sl : Sl l a cap W
  tb : Tb W
  len : l.length ≤ 1000000
  le : W.heap.size ≤ R
  base : Below W.heap.size W w
  blk : w.heap[R]? = some (.cells #[.slice a l.length cap, .int .i64 (i : Int)] 105 (0, 0))
  ile : i ≤ l.length

variable {l : List UInt8} {a : Option Addr} {cap R i : Nat} {W w w' : World}

theorem On.sl' (h : On l a cap R i W w) : Sl l a cap w := h.sl.below h.base
theorem On.tb' (h : On l a cap R i W w) : Tb w := h.tb.below h.base
theorem On.lt (h : On l a cap R i W w) : R < w.heap.size := by
  rcases Nat.lt_or_ge R w.heap.size with k | k
  · exact k
  · have := h.blk
    rw [Array.getElem?_eq_none k] at this
    cases this
theorem On.c0 (h : On l a cap R i W w) : w.cell? ⟨R, 0, none⟩ = some (.slice a l.length cap) := by rw [Lib.cell_of_heap h.blk]; rfl
theorem On.c1 (h : On l a cap R i W w) : w.cell? ⟨R, 1, none⟩ = some (.int .i64 (i : Int)) := by rw [Lib.cell_of_heap h.blk]; rfl
theorem On.belowB {B : Nat} (h : On l a cap R i W w) (hb : Below B w w') (hB : R < B) : On l a cap R i W w' :=
  ⟨h.sl, h.tb, h.len, h.le, h.base.trans (hb.mono (by have := h.le; omega)), (hb.block R hB).trans h.blk, h.ile⟩
theorem On.below (h : On l a cap R i W w) (hb : Below w.heap.size w w') : On l a cap R i W w' := h.belowB hb h.lt
theorem On.put {j : Nat} (h : On l a cap R i W w) (hj : j ≤ l.length) : On l a cap R j W (w.setCell ⟨R, 1, none⟩ (.int .i64 (j : Int))) :=
  ⟨h.sl, h.tb, h.len, h.le, h.base.setCell (p := ⟨R, 1, none⟩) h.le _, by simp [World.setCell, Array.getElem?_modify, h.blk], hj⟩

/-- only the reader's block may have changed -/
def Kp (R : Nat) (w w' : World) : Prop := w.grownBy w' (some R)
theorem Kp.refl (R : Nat) (w : World) : Kp R w w := At.grown_refl w _
theorem Kp.trans {w1 w2 : World} (h : Kp R w w1) (h2 : Kp R w1 w2) : Kp R w w2 := World.grownBy.trans h h2
theorem Kp.of_below (h : Below w.heap.size w w') : Kp R w w' := ⟨h.os, h.tape, h.output, h.size, fun k hk _ => h.block k hk⟩
theorem Kp.setCell (v : Value) (j : Nat) : Kp R w (w.setCell ⟨R, j, none⟩ v) := ⟨rfl, rfl, rfl, by simp, fun k _ hne => Below.heap_setCell _ _ _ _ (fun e => hne (by simp [e]))⟩

theorem nxAt_hd (l : List UInt8) (i : Nat) (_h : i ≤ l.length) : nxAt l (i : Int) = (hd (l.drop i), wd (l.drop i)) := by
  by_cases h : i < l.length
  · rw [nxAt_in h, hd_ne, wd_ne]
    all_goals (intro e; have := congrArg List.length e; simp at this; omega)
  · rw [nxAt_out (by omega), List.drop_of_length_le (by omega)]
    rfl

theorem next_on (h : On l a cap R i W w) : Calls Tryz.prog 49 #[.slice a l.length cap, .int .i64 (i : Int)] w fun e w' => e = .returned (.tuple #[.int .i32 ((hd (l.drop i) : Nat) : Int), .int .i64 ((wd (l.drop i) : Nat) : Int)]) ∧ Below w.heap.size w w' := by
  have := next_any l a cap (i : Int) w h.sl' h.tb'.1
  rw [nxAt_hd l i h.ile] at this
  exact this

theorem below_drew {B : Nat} (h : Below B w.drew w') : Below B w w' := ⟨h.os, h.tape, h.output, h.size, h.block⟩
theorem below_of_drew (h : Below w.drew.heap.size w.drew w') : Below w.heap.size w w' := ⟨h.os, h.tape, h.output, h.size, h.block⟩
theorem On.drew (h : On l a cap R i W w) : On l a cap R i W w.drew := ⟨h.sl, h.tb, h.len, h.le, ⟨h.base.os, h.base.tape, h.base.output, h.base.size, h.base.block⟩, h.blk, h.ile⟩

set_option maxHeartbeats 2000000 in
set_option maxRecDepth 100000 in
theorem peek_on (h : On l a cap R i W w) : Calls Tryz.prog 103 #[.pointer (some ⟨R, 0, none⟩)] w fun e w' => e = .returned (.int .i32 ((hd (l.drop i) : Nat) : Int)) ∧ Below w.heap.size w w' := by
  have c0 := h.c0
  have c1 := h.c1
  go_enter Tryz.func103, Tryz.ntmps103
  go_wp2_with fail
  go_region_held3 (fun w' => w'.cell? ⟨R, 0, none⟩ = some (.slice a l.length cap) ∧ w'.cell? ⟨R, 1, none⟩ = some (.int .i64 (i : Int))) (first | exact ⟨c0, c1⟩ | exact ⟨(h.below (by assumption)).c0, (h.below (by assumption)).c1⟩)
    (first
      | (go_at_call 49; refine (next_on (R := R) (W := W) ?_).mono ?_; (exact h.drew); rintro e w' ⟨rfl, g1⟩; have g1 := below_of_drew g1))
  go_wp2
  go_ret
  exact ⟨rfl, g1⟩

theorem drop_wd (l : List UInt8) (i : Nat) (h : i ≤ l.length) : i + wd (l.drop i) ≤ l.length := by
  have := wd_le (l.drop i)
  simp only [List.length_drop] at this
  omega

set_option maxHeartbeats 2000000 in
set_option maxRecDepth 100000 in
theorem take_on (h : On l a cap R i W w) : Calls Tryz.prog 102 #[.pointer (some ⟨R, 0, none⟩)] w fun e w' => e = .returned (.int .i32 ((hd (l.drop i) : Nat) : Int)) ∧ On l a cap R (i + wd (l.drop i)) W w' ∧ Kp R w w' := by
  have c0 := h.c0
  have c1 := h.c1
  have hle := drop_wd l i h.ile
  have hlen := h.len
  have hN := fun (w : World) (h : On l a cap R i W w) => next_on h
  generalize wd (l.drop i) = D at hle hN ⊢
  generalize hd (l.drop i) = C at hN ⊢
  have H := Lib.hid h
  have HN := Lib.hid hN
  clear hN
  go_enter Tryz.func102, Tryz.ntmps102
  go_wp2_with fail
  go_region_held3 (fun w' => w'.cell? ⟨R, 0, none⟩ = some (.slice a l.length cap) ∧ w'.cell? ⟨R, 1, none⟩ = some (.int .i64 (i : Int))) (first | exact ⟨c0, c1⟩ | exact ⟨(h.below (by assumption)).c0, (h.below (by assumption)).c1⟩)
    (first
      | (go_at_call 49; refine (HN.out w.drew ?_).mono ?_; (exact h.drew); rintro e w' ⟨rfl, g1⟩; have g1 := below_of_drew g1))
  have h2 := h.below g1
  have d1 := h2.c1
  have f1 : w'.frozen? ⟨R, 1, none⟩ = false := Lib.frozen_of_heap h2.blk 1
  have H2 := Lib.hid h2
  have HG := Lib.hid g1
  clear h h2 g1 c0 c1
  go_wp2
  go_ret
  have e : (i : Int) + (D : Int) = ((i + D : Nat) : Int) := by omega
  rw [e]
  exact ⟨rfl, H2.out.put hle, (Kp.of_below HG.out).trans (Kp.setCell _ 1)⟩

/-- where the reader stands, read off the memory -/
def cur (R : Nat) (w : World) : Nat := match w.cell? ⟨R, 1, none⟩ with
  | some v => (RowKit.intOf v).toNat
  | none => 0
theorem On.cur (h : On l a cap R i W w) : cur R w = i := by unfold Tg.cur; rw [h.c1]; simp [RowKit.intOf]

theorem ov_at_stop {p : Nat → Bool} (l : List UInt8) (j : Nat) (h : hd (l.drop j) = 0 ∨ p (hd (l.drop j)) = false) : ov p (l.drop j) = 0 := by
  by_cases hm : l.drop j = []
  · rw [hm]; rfl
  · rw [hd_ne hm] at h
    rcases h with h | h
    · exact absurd h (nx_range _).1
    · exact (ov_stop h).1
theorem ov_at_step {p : Nat → Bool} (l : List UInt8) (j : Nat) (h0 : hd (l.drop j) ≠ 0) (h : p (hd (l.drop j)) = true) : ov p (l.drop j) = wd (l.drop j) + ov p (l.drop (j + wd (l.drop j))) ∧ 1 ≤ wd (l.drop j) := by
  have hm := hd_pos h0
  rw [hd_ne hm] at h
  rw [wd_ne hm]
  have := (ov_step hm h).1
  rw [List.drop_drop] at this
  exact ⟨this, (nx_width _ hm).1⟩

/-- where 'pass' stands -/
def PassRel (l : List UInt8) (a : Option Addr) (cap R i : Nat) (p : Nat → Bool) (W w : World) (v : Value) (wr : World) : Prop :=
  ∃ j : Nat, v = .int .i32 ((hd (l.drop j) : Nat) : Int) ∧ On l a cap R j W wr ∧ Kp R w wr ∧ j + ov p (l.drop j) = i + ov p (l.drop i)

theorem hd_bd (m : List UInt8) : hd m ≤ 1114111 := by
  by_cases h : m = []
  · subst h; exact Nat.zero_le _
  · rw [hd_ne h]; exact (nx_range m).2.2.1

set_option maxHeartbeats 2000000 in
set_option maxRecDepth 100000 in
theorem pass_on (fn : Nat) (caps : Array Value) (p : Nat → Bool) (I : World → Prop) (hen : ∀ (args : Array Value) (w : World), (callFunc fn args).run Tryz.prog w = .ok (.enter fn args) w)
    (h : On l a cap R i W w) (hI : I w) (hst : ∀ w1 w2, I w1 → Kp R w1 w2 → I w2)
    (hmay : ∀ (c : Nat) w1, I w1 → Calls Tryz.prog fn (#[.int .i32 (c : Int)] ++ caps) w1 fun e w2 => e = .returned (.bool (p c)) ∧ Below w1.heap.size w1 w2) :
    Calls Tryz.prog 105 #[.pointer (some ⟨R, 0, none⟩), .func (.func fn) #[] caps] w fun e w' => e = .returned (.tuple #[]) ∧ On l a cap R (i + ov p (l.drop i)) W w' ∧ Kp R w w' := by
  have H := Lib.hid h
  have HI := Lib.hid hI
  have HS := Lib.hid hst
  have HM := Lib.hid hmay
  clear hI hst hmay
  go_enter Tryz.func105, Tryz.ntmps105
  go_wp2_with fail
  refine (peek_on h).mono ?_
  rintro e w1 ⟨rfl, hb1⟩
  have H1 := Lib.hid (h.below hb1)
  have HB1 := Lib.hid hb1
  clear h hb1
  go_wp2
  go_loopw [4] (fun v wr => PassRel l a cap R i p W w v wr) (fun _ wr => l.length - cur R wr)
  case atStart => exact ⟨i, rfl, H1.out, Kp.of_below HB1.out, rfl⟩
  case round =>
    obtain ⟨j, rfl, hon, hkp, hj⟩ := hrel
    have HON := Lib.hid hon
    have HKP := Lib.hid hkp
    have HJ := Lib.hid hj
    have hbd := hd_bd (l.drop j)
    clear hon hkp hj
    by_cases h0 : hd (l.drop j) = 0
    · have t0 : (((hd (l.drop j) : Nat) : Int) != 0) = false := by simp [h0]
      have HZ := Lib.hid (ov_at_stop (p := p) l j (Or.inl h0))
      clear h0
      go_wp2
      go_end0
      have := HJ.out
      rw [HZ.out, Nat.add_zero] at this
      rw [← this]
      exact ⟨rfl, HON.out, HKP.out⟩
    · have t0 : (((hd (l.drop j) : Nat) : Int) != 0) = true := by simp [h0]
      have cM := HM.out (hd (l.drop j)) wr (HS.out _ _ HI.out HKP.out)
      cases hp : p (hd (l.drop j)) with
      | false =>
        have HZ := Lib.hid (ov_at_stop (p := p) l j (Or.inr hp))
        rw [hp] at cM
        clear h0 hp
        go_wp2_with fail
        refine cM.mono ?_
        rintro e w2 ⟨rfl, hb2⟩
        have H2 := Lib.hid (HON.out.below hb2)
        have HK2 := Lib.hid (HKP.out.trans (Kp.of_below hb2))
        clear hb2
        go_wp2
        go_end0
        have := HJ.out
        rw [HZ.out, Nat.add_zero] at this
        rw [← this]
        exact ⟨rfl, H2.out, HK2.out⟩
      | true =>
        have HZ := Lib.hid (ov_at_step (p := p) l j h0 hp)
        rw [hp] at cM
        clear h0 hp
        go_wp2_with fail
        refine cM.mono ?_
        rintro e w2 ⟨rfl, hb2⟩
        have h2 := HON.out.below hb2
        have HK2 := Lib.hid (HKP.out.trans (Kp.of_below hb2))
        have cT := take_on h2
        clear hb2 h2
        go_wp2_with fail
        refine cT.mono ?_
        rintro e w3 ⟨rfl, h3, hk3⟩
        have cP := peek_on h3
        have H3 := Lib.hid h3
        have HK3 := Lib.hid (HK2.out.trans hk3)
        clear h3 hk3
        go_wp2_with fail
        refine cP.mono ?_
        rintro e w4 ⟨rfl, hb4⟩
        have H4 := Lib.hid (H3.out.below hb4)
        have HK4 := Lib.hid (HK3.out.trans (Kp.of_below hb4))
        clear hb4
        go_wp2
        go_roundw
        case rel => exact ⟨_, rfl, H4.out, HK4.out, by have := HZ.out; have := HJ.out; omega⟩
        case measure =>
          rw [H4.out.cur, HON.out.cur]
          have := HZ.out.2
          have := H4.out.ile
          omega
end Go.Proofs.YtndcmapifihgeaaGreatDoor.Tg

/- strings.ContainsRune of the characters at which a name stops. -/
namespace Go.Proofs
open Go.Shelf
def Tryz.lays137_ren : Go.Shelf.Ren := ⟨fun | 137 => 121 | 217 => 131 | 266 => 133 | n => n, fun | n => n, fun | n => n⟩
theorem Tryz.lays137 : Go.Proofs.Lays.n137 Tryz.prog Tryz.lays137_ren := {
  mixed := by kernel_rfl
  f137 := Tryz.func121.trans (congrArg some (by kernel_rfl))
  f217 := Tryz.func131.trans (congrArg some (by kernel_rfl))
  f266 := Tryz.func133.trans (congrArg some (by kernel_rfl))
  t3 := Tryz.underlying3
  a3 := Tryz.isAgg3
  z3 := Tryz.sizeOf3
  v3 := Tryz.zeroValue3
  t5 := Tryz.underlying5
  a5 := Tryz.isAgg5
  z5 := Tryz.sizeOf5
  v5 := Tryz.zeroValue5
  t9 := Tryz.underlying9
  a9 := Tryz.isAgg9
  z9 := Tryz.sizeOf9
  v9 := Tryz.zeroValue9 }
open Go.RowKit in
theorem Tryz.strings_IndexByte (s : ByteArray) (c : Int) (w : World) :
    Calls Tryz.prog 121 #[.string s, .int .u8 c] w fun e w' => e = .returned (.int .i64 (Lib.indexByte s.data.toList c.toNat.toUInt8)) ∧ w' = w := Any.strings_IndexByte Tryz.lays137 s c w
end Go.Proofs
namespace Go.Proofs.YtndcmapifihgeaaGreatDoor.Tg
open Go.RowKit Go.Lib
open Ch (at0 good)

theorem ixB_none : ∀ (st : List UInt8) (b : UInt8), b ∉ st → Lib.indexByte st b = -1
  | [], _, _ => rfl
  | a :: r, b, h => by
    have h1 : (a == b) = false := by simp; exact fun e => h (by simp [e])
    have h2 := ixB_none r b (fun k => h (List.mem_cons_of_mem _ k))
    unfold Lib.indexByte
    rw [h1, h2]
    rfl
theorem ixB_some : ∀ (st : List UInt8) (b : UInt8), b ∈ st → 0 ≤ Lib.indexByte st b
  | [], _, h => by cases h
  | a :: r, b, h => by
    unfold Lib.indexByte
    cases h1 : (a == b) with
    | true => simp
    | false =>
      have : b ∈ r := by
        rcases List.mem_cons.1 h with e | e
        · exact absurd e (by simp at h1; exact fun k => h1 k.symm)
        · exact e
      have h2 := ixB_some r b this
      simp only [Bool.false_eq_true, if_false]
      split
      · rename_i k
        simp at k
        omega
      · omega

set_option maxHeartbeats 2000000 in
set_option maxRecDepth 100000 in
/-- a character below 128 -/
theorem cr_low (st : List UInt8) (c : Nat) (w : World) (hc : c < 128) :
    Calls Tryz.prog 104 #[.string ⟨st.toArray⟩, .int .i32 (c : Int)] w fun e w' => e = .returned (.bool (decide (c.toUInt8 ∈ st))) ∧ w' = w := by
  have h1 : (c : Int) < 128 := by omega
  have h0 : (0 : Int) ≤ (c : Int) := by omega
  have cI : Calls Tryz.prog 115 #[.string ⟨st.toArray⟩, .int .i32 (c : Int)] w fun e w' => e = .returned (.int .i64 (Lib.indexByte st c.toUInt8)) ∧ w' = w := by
    have cB := Tryz.strings_IndexByte ⟨st.toArray⟩ (c : Int) w
    simp only [Int.toNat_natCast] at cB
    go_enter Tryz.func115, Tryz.ntmps115
    go_wp2_with fail
    refine cB.mono ?_
    rintro e w' ⟨rfl, rfl⟩
    go_wp2
    go_ret
    exact ⟨rfl, rfl⟩
  by_cases hm : c.toUInt8 ∈ st
  · have hs := ixB_some st _ hm
    rw [decide_eq_true hm]
    generalize Lib.indexByte st c.toUInt8 = Z at cI hs
    clear hm
    go_enter Tryz.func104, Tryz.ntmps104
    go_wp2_with fail
    refine cI.mono ?_
    rintro e w' ⟨rfl, rfl⟩
    go_wp2
    go_ret
    exact ⟨by simp, rfl⟩
  · rw [ixB_none st _ hm] at cI
    rw [decide_eq_false hm]
    clear hm
    go_enter Tryz.func104, Tryz.ntmps104
    go_wp2_with fail
    refine cI.mono ?_
    rintro e w' ⟨rfl, rfl⟩
    go_wp2
    go_ret
    exact ⟨rfl, rfl⟩

def CrRel (st : List UInt8) (w : World) (gf : Nat) (wr : World) : Prop :=
  ∃ pos : Nat, wr.heap[w.heap.size]? = some (.stringIter ⟨st.toArray⟩ pos) ∧ Below w.heap.size w wr ∧ st.length ≤ pos + gf

set_option maxHeartbeats 2000000 in
set_option maxRecDepth 100000 in
theorem ir_bad (st : List UInt8) (w : World) (ha : ∀ j, Kl.at0 st j < 128) :
    Calls Tryz.prog 115 #[.string ⟨st.toArray⟩, .int .i32 65533] w fun e w' => e = .returned (.int .i64 (-1)) ∧ Below w.heap.size w w' := by
  go_enter Tryz.func115, Tryz.ntmps115
  go_wp2
  go_loopg [] st.length (fun gf wx => CrRel st w gf wx)
  case atStart => exact ⟨0, World.iter_heap w _ 0, (Below.refl _ w).alloc (Nat.le_refl _) _, by omega⟩
  case round =>
    obtain ⟨pos, hit, hbw, hfu⟩ := hrel
    by_cases hps : pos < st.length
    · obtain ⟨g', rfl⟩ : ∃ g', gk = g' + 1 := ⟨gk - 1, by omega⟩
      have hnx : ∀ ty, (Instr.next (.pointer (some ⟨w.heap.size, 0, none⟩)) true ty).run Tryz.prog wr = _ := fun ty => Lib.run_next_any_at wr w.heap.size ⟨st.toArray⟩ pos ty hit (by rw [Kl.str_size]; exact hps)
      rw [Kl.decode_dec, Kl.dec_ascii (ha pos)] at hnx
      simp only at hnx
      have hit2 := Lib.iterAt_heap wr w.heap.size ⟨st.toArray⟩ pos (pos + 1) hit
      have hbw2 := Lib.below_iterAt hbw (k := w.heap.size) (Nat.le_refl _) ⟨st.toArray⟩ (pos + 1)
      obtain ⟨V, hV⟩ : ∃ V, wr.iterAt w.heap.size ⟨st.toArray⟩ (pos + 1) = V := ⟨_, rfl⟩
      rw [hV] at hnx hit2 hbw2
      have hlt := ha pos
      have hne : (((Kl.at0 st pos : Nat) : Int) == 65533) = false := by simp; omega
      generalize Kl.at0 st pos = c at hnx hne
      clear hV hlt
      go_wp2
      go_roundg g'
      case measure => omega
      case rel => exact ⟨pos + 1, hit2, hbw2, by omega⟩
    · have hnx : ∀ ty, (Instr.next (.pointer (some ⟨w.heap.size, 0, none⟩)) true ty).run Tryz.prog wr = _ := fun ty => Lib.run_next_end_at wr w.heap.size _ pos ty hit (by rw [Kl.str_size]; exact hps)
      go_wp2
      go_ret
      exact ⟨rfl, hbw⟩

theorem enc_last {c : Nat} (h : good c) (h1 : 128 ≤ c) : 2 ≤ (encodeRune (c : Int)).length ∧ (encodeRune (c : Int)).length ≤ 4 ∧ 128 ≤ at0 (encodeRune (c : Int)) ((encodeRune (c : Int)).length - 1) := by
  rcases Ch.good_cases h with k | k | k | k
  · omega
  · rw [Ch.enc_two c k.1 k.2]
    refine ⟨by simp, by simp, ?_⟩
    have : at0 [(192 + (c : Int) / 64).toNat.toUInt8, (128 + (c : Int) % 64).toNat.toUInt8] 1 = 128 + c % 64 := Ch.z8 _ _ (by omega) (by omega)
    show 128 ≤ at0 _ 1
    omega
  · rw [Ch.enc_three c k]
    refine ⟨by simp, by simp, ?_⟩
    have : at0 [(224 + (c : Int) / 4096).toNat.toUInt8, (128 + (c : Int) / 64 % 64).toNat.toUInt8, (128 + (c : Int) % 64).toNat.toUInt8] 2 = 128 + c % 64 := Ch.z8 _ _ (by omega) (by omega)
    show 128 ≤ at0 _ 2
    omega
  · rw [Ch.enc_four c k.1 k.2]
    refine ⟨by simp, by simp, ?_⟩
    have : at0 [(240 + (c : Int) / 262144).toNat.toUInt8, (128 + (c : Int) / 4096 % 64).toNat.toUInt8, (128 + (c : Int) / 64 % 64).toNat.toUInt8, (128 + (c : Int) % 64).toNat.toUInt8] 3 = 128 + c % 64 := Ch.z8 _ _ (by omega) (by omega)
    show 128 ≤ at0 _ 3
    omega

set_option maxHeartbeats 1000000 in
theorem valid_any (c : Nat) (w : World) (hg : good c) : Calls Tryz.prog 122 #[.int .i32 (c : Int)] w fun e w' => e = .returned (.bool true) ∧ w = w' := by
  unfold good at hg
  by_cases h : c < 55296
  · have t1 : (c : Int) < 55296 := by omega
    go_enter Tryz.func122, Tryz.ntmps122
    go_wp2
    go_ret
    exact ⟨rfl, rfl⟩
  · have t1 : ¬ ((c : Int) < 55296) := by omega
    have t2 : (57343 : Int) < (c : Int) := by omega
    have t3 : (c : Int) ≤ 1114111 := by omega
    go_enter Tryz.func122, Tryz.ntmps122
    go_wp2
    go_ret
    exact ⟨rfl, rfl⟩

theorem idx_str (m : List UInt8) (i : Nat) (h : i < (⟨m.toArray⟩ : ByteArray).size) : ((⟨m.toArray⟩ : ByteArray)[i]'h).toNat = at0 m i := by
  have hs : (⟨m.toArray⟩ : ByteArray).size = m.length := by simp [ByteArray.size]
  unfold at0
  rw [List.getD_eq_getElem?_getD, List.getElem?_eq_getElem (by omega)]
  rfl

theorem sub_mem {st : List UInt8} {i j : Nat} {b : UInt8} (h : b ∈ ((⟨st.toArray⟩ : ByteArray).extract i j).data.toList) : b ∈ st := by
  rw [ByteArray.data_extract] at h
  simp only [Array.toList_extract] at h
  exact List.mem_of_mem_drop (List.mem_of_mem_take h)

theorem ixB_high (s : ByteArray) (d : Nat) (w : World) (hd : 128 ≤ d) (hd2 : d < 256) (h : ∀ b ∈ s.data.toList, b.toNat < 128) :
    Calls Tryz.prog 121 #[.string s, .int .u8 (d : Int)] w fun e w' => e = .returned (.int .i64 (-1)) ∧ w' = w := by
  have := Tryz.strings_IndexByte s (d : Int) w
  rw [ixB_none] at this
  · exact this
  · intro hm
    have h1 := h _ hm
    rw [Ch.z8 _ d rfl hd2] at h1
    omega


set_option maxHeartbeats 2000000 in
set_option maxRecDepth 100000 in
theorem ir2_1 (c : Nat) (q : List UInt8) (w : World) (hcv : ∀ w, (convert 21 9 (.int .i32 (c : Int))).run Tryz.prog w = .ok (.string ⟨q.toArray⟩) w) (hg : good c) (h1 : 128 ≤ c) (h2 : c ≠ 65533) (hn : q.length = 1 + 1) (_h3 : 128 ≤ at0 q 1) :
    Calls Tryz.prog 115 #[.string ⟨#[47, 62]⟩, .int .i32 (c : Int)] w fun e w' => e = .returned (.int .i64 (-1)) ∧ Below w.heap.size w w' := by
  have t1 : ¬ ((c : Int) < 128) := by omega
  have t2 : ((c : Int) == 65533) = false := by simp; omega
  have hlq : (⟨q.toArray⟩ : ByteArray).size = 1 + 1 := by simp [ByteArray.size, hn]
  have hz2 : 1 < (⟨q.toArray⟩ : ByteArray).size := by omega
  have i2 := idx_str q 1 hz2
  have hd2 : at0 q 1 < 256 := Ch.at0_lt _ _
  have HG := Lib.hid hg
  have h3 := _h3
  clear hn _h3
  generalize at0 q 1 = D at i2 h3 hd2
  go_enter Tryz.func115, Tryz.ntmps115
  go_wp2_with fail
  refine (valid_any c w HG.out).mono ?_
  rintro e w1 ⟨rfl, rfl⟩
  clear hg h2
  go_wp2
  go_step3
  go_wp2
  go_loop [9] (fun v => v = .int .i64 1) (fun _ => 0)
  case atStart => rfl
  case round =>
    subst hrel
    have hne : (((((⟨#[47, 62]⟩ : ByteArray)[1]'(by decide)).toNat : Nat) : Int) != (D : Int)) = true := by
      show (((62 : Nat) : Int) != (D : Int)) = true
      simp
      omega
    have hwr : IntKind.i64.wrap 2 = 2 := by decide
    have hsl : ∀ w : World, (Instr.slice 9 (.string ⟨#[47, 62]⟩) (some (.int .i64 2)) none none).run Tryz.prog w = .ok (.string ⟨#[]⟩) w := by
      intro w
      simp only [Instr.slice, go_sem]
      go_simp
      rfl
    have hcB := fun w => ixB_high ⟨#[]⟩ D w h3 hd2 (by decide)
    go_wp2_with fail
    go_step3
    go_wp2_with fail
    go_quiet (fail)
    go_wp2_with fail
    go_quiet (first | (go_at_call 121; refine (hcB _).mono ?_; rintro e w' ⟨rfl, rfl⟩; exact ⟨rfl, _, rfl⟩))
    go_wp2
    rw [Exit.noGoto_ret]
    go_wp2
    rw [Exit.noGoto_ret]
    go_wp2
    go_ret
    exact ⟨rfl, At.below_drewN (Below.refl _ _) _⟩

set_option maxHeartbeats 2000000 in
set_option maxRecDepth 100000 in
theorem ir2_2 (c : Nat) (q : List UInt8) (w : World) (hcv : ∀ w, (convert 21 9 (.int .i32 (c : Int))).run Tryz.prog w = .ok (.string ⟨q.toArray⟩) w) (hg : good c) (h1 : 128 ≤ c) (h2 : c ≠ 65533) (hn : q.length = 2 + 1) (_h3 : 128 ≤ at0 q 2) :
    Calls Tryz.prog 115 #[.string ⟨#[47, 62]⟩, .int .i32 (c : Int)] w fun e w' => e = .returned (.int .i64 (-1)) ∧ Below w.heap.size w w' := by
  have t1 : ¬ ((c : Int) < 128) := by omega
  have t2 : ((c : Int) == 65533) = false := by simp; omega
  have hlq : (⟨q.toArray⟩ : ByteArray).size = 2 + 1 := by simp [ByteArray.size, hn]
  have hz2 : 2 < (⟨q.toArray⟩ : ByteArray).size := by omega
  have i2 := idx_str q 2 hz2
  have hd2 : at0 q 2 < 256 := Ch.at0_lt _ _
  have HG := Lib.hid hg
  have h3 := _h3
  clear hn _h3
  generalize at0 q 2 = D at i2 h3 hd2
  go_enter Tryz.func115, Tryz.ntmps115
  go_wp2_with fail
  refine (valid_any c w HG.out).mono ?_
  rintro e w1 ⟨rfl, rfl⟩
  clear hg h2
  go_wp2
  go_step3
  go_wp2
  go_loop [9] (fun v => v = .int .i64 2) (fun _ => 0)
  case atStart => rfl
  case round =>
    subst hrel
    go_wp2
    go_ret
    exact ⟨rfl, Below.refl _ _⟩

set_option maxHeartbeats 2000000 in
set_option maxRecDepth 100000 in
theorem ir2_3 (c : Nat) (q : List UInt8) (w : World) (hcv : ∀ w, (convert 21 9 (.int .i32 (c : Int))).run Tryz.prog w = .ok (.string ⟨q.toArray⟩) w) (hg : good c) (h1 : 128 ≤ c) (h2 : c ≠ 65533) (hn : q.length = 3 + 1) (_h3 : 128 ≤ at0 q 3) :
    Calls Tryz.prog 115 #[.string ⟨#[47, 62]⟩, .int .i32 (c : Int)] w fun e w' => e = .returned (.int .i64 (-1)) ∧ Below w.heap.size w w' := by
  have t1 : ¬ ((c : Int) < 128) := by omega
  have t2 : ((c : Int) == 65533) = false := by simp; omega
  have hlq : (⟨q.toArray⟩ : ByteArray).size = 3 + 1 := by simp [ByteArray.size, hn]
  have hz2 : 3 < (⟨q.toArray⟩ : ByteArray).size := by omega
  have i2 := idx_str q 3 hz2
  have hd2 : at0 q 3 < 256 := Ch.at0_lt _ _
  have HG := Lib.hid hg
  have h3 := _h3
  clear hn _h3
  generalize at0 q 3 = D at i2 h3 hd2
  go_enter Tryz.func115, Tryz.ntmps115
  go_wp2_with fail
  refine (valid_any c w HG.out).mono ?_
  rintro e w1 ⟨rfl, rfl⟩
  clear hg h2
  go_wp2
  go_step3
  go_wp2
  go_loop [9] (fun v => v = .int .i64 3) (fun _ => 0)
  case atStart => rfl
  case round =>
    subst hrel
    go_wp2
    go_ret
    exact ⟨rfl, Below.refl _ _⟩

set_option maxHeartbeats 2000000 in
set_option maxRecDepth 100000 in
theorem ir3_1 (c : Nat) (q : List UInt8) (w : World) (hcv : ∀ w, (convert 21 9 (.int .i32 (c : Int))).run Tryz.prog w = .ok (.string ⟨q.toArray⟩) w) (hg : good c) (h1 : 128 ≤ c) (h2 : c ≠ 65533) (hn : q.length = 1 + 1) (_h3 : 128 ≤ at0 q 1) :
    Calls Tryz.prog 115 #[.string ⟨#[47, 62, 61]⟩, .int .i32 (c : Int)] w fun e w' => e = .returned (.int .i64 (-1)) ∧ Below w.heap.size w w' := by
  have t1 : ¬ ((c : Int) < 128) := by omega
  have t2 : ((c : Int) == 65533) = false := by simp; omega
  have hlq : (⟨q.toArray⟩ : ByteArray).size = 1 + 1 := by simp [ByteArray.size, hn]
  have hz2 : 1 < (⟨q.toArray⟩ : ByteArray).size := by omega
  have i2 := idx_str q 1 hz2
  have hd2 : at0 q 1 < 256 := Ch.at0_lt _ _
  have HG := Lib.hid hg
  have h3 := _h3
  clear hn _h3
  generalize at0 q 1 = D at i2 h3 hd2
  go_enter Tryz.func115, Tryz.ntmps115
  go_wp2_with fail
  refine (valid_any c w HG.out).mono ?_
  rintro e w1 ⟨rfl, rfl⟩
  clear hg h2
  go_wp2
  go_step3
  go_wp2
  go_loop [9] (fun v => v = .int .i64 1) (fun _ => 0)
  case atStart => rfl
  case round =>
    subst hrel
    have hne : (((((⟨#[47, 62, 61]⟩ : ByteArray)[1]'(by decide)).toNat : Nat) : Int) != (D : Int)) = true := by
      show (((62 : Nat) : Int) != (D : Int)) = true
      simp
      omega
    have hwr : IntKind.i64.wrap 2 = 2 := by decide
    have hsl : ∀ w : World, (Instr.slice 9 (.string ⟨#[47, 62, 61]⟩) (some (.int .i64 2)) none none).run Tryz.prog w = .ok (.string ⟨#[61]⟩) w := by
      intro w
      simp only [Instr.slice, go_sem]
      go_simp
      rfl
    have hcB := fun w => ixB_high ⟨#[61]⟩ D w h3 hd2 (by decide)
    go_wp2_with fail
    go_step3
    go_wp2_with fail
    go_quiet (fail)
    go_wp2_with fail
    go_quiet (first | (go_at_call 121; refine (hcB _).mono ?_; rintro e w' ⟨rfl, rfl⟩; exact ⟨rfl, _, rfl⟩))
    go_wp2
    rw [Exit.noGoto_ret]
    go_wp2
    rw [Exit.noGoto_ret]
    go_wp2
    go_ret
    exact ⟨rfl, At.below_drewN (Below.refl _ _) _⟩

set_option maxHeartbeats 2000000 in
set_option maxRecDepth 100000 in
theorem ir3_2 (c : Nat) (q : List UInt8) (w : World) (hcv : ∀ w, (convert 21 9 (.int .i32 (c : Int))).run Tryz.prog w = .ok (.string ⟨q.toArray⟩) w) (hg : good c) (h1 : 128 ≤ c) (h2 : c ≠ 65533) (hn : q.length = 2 + 1) (_h3 : 128 ≤ at0 q 2) :
    Calls Tryz.prog 115 #[.string ⟨#[47, 62, 61]⟩, .int .i32 (c : Int)] w fun e w' => e = .returned (.int .i64 (-1)) ∧ Below w.heap.size w w' := by
  have t1 : ¬ ((c : Int) < 128) := by omega
  have t2 : ((c : Int) == 65533) = false := by simp; omega
  have hlq : (⟨q.toArray⟩ : ByteArray).size = 2 + 1 := by simp [ByteArray.size, hn]
  have hz2 : 2 < (⟨q.toArray⟩ : ByteArray).size := by omega
  have i2 := idx_str q 2 hz2
  have hd2 : at0 q 2 < 256 := Ch.at0_lt _ _
  have HG := Lib.hid hg
  have h3 := _h3
  clear hn _h3
  generalize at0 q 2 = D at i2 h3 hd2
  go_enter Tryz.func115, Tryz.ntmps115
  go_wp2_with fail
  refine (valid_any c w HG.out).mono ?_
  rintro e w1 ⟨rfl, rfl⟩
  clear hg h2
  go_wp2
  go_step3
  go_wp2
  go_loop [9] (fun v => v = .int .i64 2) (fun _ => 0)
  case atStart => rfl
  case round =>
    subst hrel
    have hne : (((((⟨#[47, 62, 61]⟩ : ByteArray)[2]'(by decide)).toNat : Nat) : Int) != (D : Int)) = true := by
      show (((61 : Nat) : Int) != (D : Int)) = true
      simp
      omega
    have hwr : IntKind.i64.wrap 3 = 3 := by decide
    have hsl : ∀ w : World, (Instr.slice 9 (.string ⟨#[47, 62, 61]⟩) (some (.int .i64 3)) none none).run Tryz.prog w = .ok (.string ⟨#[]⟩) w := by
      intro w
      simp only [Instr.slice, go_sem]
      go_simp
      rfl
    have hcB := fun w => ixB_high ⟨#[]⟩ D w h3 hd2 (by decide)
    go_wp2_with fail
    go_step3
    go_wp2_with fail
    go_quiet (fail)
    go_wp2_with fail
    go_quiet (first | (go_at_call 121; refine (hcB _).mono ?_; rintro e w' ⟨rfl, rfl⟩; exact ⟨rfl, _, rfl⟩))
    go_wp2
    rw [Exit.noGoto_ret]
    go_wp2
    rw [Exit.noGoto_ret]
    go_wp2
    go_ret
    exact ⟨rfl, At.below_drewN (Below.refl _ _) _⟩

set_option maxHeartbeats 2000000 in
set_option maxRecDepth 100000 in
theorem ir3_3 (c : Nat) (q : List UInt8) (w : World) (hcv : ∀ w, (convert 21 9 (.int .i32 (c : Int))).run Tryz.prog w = .ok (.string ⟨q.toArray⟩) w) (hg : good c) (h1 : 128 ≤ c) (h2 : c ≠ 65533) (hn : q.length = 3 + 1) (_h3 : 128 ≤ at0 q 3) :
    Calls Tryz.prog 115 #[.string ⟨#[47, 62, 61]⟩, .int .i32 (c : Int)] w fun e w' => e = .returned (.int .i64 (-1)) ∧ Below w.heap.size w w' := by
  have t1 : ¬ ((c : Int) < 128) := by omega
  have t2 : ((c : Int) == 65533) = false := by simp; omega
  have hlq : (⟨q.toArray⟩ : ByteArray).size = 3 + 1 := by simp [ByteArray.size, hn]
  have hz2 : 3 < (⟨q.toArray⟩ : ByteArray).size := by omega
  have i2 := idx_str q 3 hz2
  have hd2 : at0 q 3 < 256 := Ch.at0_lt _ _
  have HG := Lib.hid hg
  have h3 := _h3
  clear hn _h3
  generalize at0 q 3 = D at i2 h3 hd2
  go_enter Tryz.func115, Tryz.ntmps115
  go_wp2_with fail
  refine (valid_any c w HG.out).mono ?_
  rintro e w1 ⟨rfl, rfl⟩
  clear hg h2
  go_wp2
  go_step3
  go_wp2
  go_loop [9] (fun v => v = .int .i64 3) (fun _ => 0)
  case atStart => rfl
  case round =>
    subst hrel
    go_wp2
    go_ret
    exact ⟨rfl, Below.refl _ _⟩

theorem ir2_high (c : Nat) (w : World) (hg : good c) (h1 : 128 ≤ c) :
    Calls Tryz.prog 115 #[.string ⟨#[47, 62]⟩, .int .i32 (c : Int)] w fun e w' => e = .returned (.int .i64 (-1)) ∧ Below w.heap.size w w' := by
  by_cases h2 : c = 65533
  · subst h2
    exact ir_bad [47, 62] w (fun j => by
      rcases Nat.lt_or_ge j ([47, 62] : List UInt8).length with k | k
      · exact (by decide : ∀ j, j < ([47, 62] : List UInt8).length → Kl.at0 [47, 62] j < 128) j k
      · unfold Kl.at0
        rw [List.getD_eq_getElem?_getD, List.getElem?_eq_none k]
        decide)
  · have hgg := hg
    unfold good at hgg
    have hcv := fun w => conv_rune c (by unfold ok; omega) w
    obtain ⟨e1, e2, e3⟩ := enc_last hg h1
    rcases (by omega : (encodeRune (c : Int)).length = 1 + 1 ∨ (encodeRune (c : Int)).length = 2 + 1 ∨ (encodeRune (c : Int)).length = 3 + 1) with k | k | k
    · rw [k] at e3; exact ir2_1 c _ w hcv hg h1 h2 k e3
    · rw [k] at e3; exact ir2_2 c _ w hcv hg h1 h2 k e3
    · rw [k] at e3; exact ir2_3 c _ w hcv hg h1 h2 k e3

theorem toU8_mem {st : List UInt8} {c : Nat} (hc : c < 256) : (c.toUInt8 ∈ st) ↔ st.any (fun b => b.toNat == c) = true := by
  rw [List.any_eq_true]
  constructor
  · intro h
    exact ⟨_, h, by simp [Ch.u8_small c hc]⟩
  · rintro ⟨b, hb, he⟩
    have : b = c.toUInt8 := by
      apply UInt8.toNat_inj.1
      simp at he
      rw [he]
      exact (Ch.u8_small c hc).symm
    rw [← this]
    exact hb

set_option maxHeartbeats 2000000 in
/-- is a character among these? -/
theorem cr2 (c : Nat) (w : World) (hg : good c) :
    Calls Tryz.prog 104 #[.string ⟨#[47, 62]⟩, .int .i32 (c : Int)] w fun e w' => e = .returned (.bool ([47, 62].any (fun b : UInt8 => b.toNat == c))) ∧ Below w.heap.size w w' := by
  by_cases h : c < 128
  · refine (cr_low [47, 62] c w h).mono ?_
    rintro e w' ⟨rfl, rfl⟩
    refine ⟨?_, Below.refl _ _⟩
    congr 2
    rw [Bool.eq_iff_iff, decide_eq_true_iff]
    exact toU8_mem (by omega)
  · have hb : [47, 62].any (fun b : UInt8 => b.toNat == c) = false := by
      simp
      omega
    rw [hb]
    have cI := ir2_high c w hg (by omega)
    go_enter Tryz.func104, Tryz.ntmps104
    go_wp2_with fail
    refine cI.mono ?_
    rintro e w' ⟨rfl, hb⟩
    go_wp2
    go_ret
    exact ⟨rfl, hb⟩

theorem ir3_high (c : Nat) (w : World) (hg : good c) (h1 : 128 ≤ c) :
    Calls Tryz.prog 115 #[.string ⟨#[47, 62, 61]⟩, .int .i32 (c : Int)] w fun e w' => e = .returned (.int .i64 (-1)) ∧ Below w.heap.size w w' := by
  by_cases h2 : c = 65533
  · subst h2
    exact ir_bad [47, 62, 61] w (fun j => by
      rcases Nat.lt_or_ge j ([47, 62, 61] : List UInt8).length with k | k
      · exact (by decide : ∀ j, j < ([47, 62, 61] : List UInt8).length → Kl.at0 [47, 62, 61] j < 128) j k
      · unfold Kl.at0
        rw [List.getD_eq_getElem?_getD, List.getElem?_eq_none k]
        decide)
  · have hgg := hg
    unfold good at hgg
    have hcv := fun w => conv_rune c (by unfold ok; omega) w
    obtain ⟨e1, e2, e3⟩ := enc_last hg h1
    rcases (by omega : (encodeRune (c : Int)).length = 1 + 1 ∨ (encodeRune (c : Int)).length = 2 + 1 ∨ (encodeRune (c : Int)).length = 3 + 1) with k | k | k
    · rw [k] at e3; exact ir3_1 c _ w hcv hg h1 h2 k e3
    · rw [k] at e3; exact ir3_2 c _ w hcv hg h1 h2 k e3
    · rw [k] at e3; exact ir3_3 c _ w hcv hg h1 h2 k e3

set_option maxHeartbeats 2000000 in
/-- is a character among these? -/
theorem cr3 (c : Nat) (w : World) (hg : good c) :
    Calls Tryz.prog 104 #[.string ⟨#[47, 62, 61]⟩, .int .i32 (c : Int)] w fun e w' => e = .returned (.bool ([47, 62, 61].any (fun b : UInt8 => b.toNat == c))) ∧ Below w.heap.size w w' := by
  by_cases h : c < 128
  · refine (cr_low [47, 62, 61] c w h).mono ?_
    rintro e w' ⟨rfl, rfl⟩
    refine ⟨?_, Below.refl _ _⟩
    congr 2
    rw [Bool.eq_iff_iff, decide_eq_true_iff]
    exact toU8_mem (by omega)
  · have hb : [47, 62, 61].any (fun b : UInt8 => b.toNat == c) = false := by
      simp
      omega
    rw [hb]
    have cI := ir3_high c w hg (by omega)
    go_enter Tryz.func104, Tryz.ntmps104
    go_wp2_with fail
    refine cI.mono ?_
    rintro e w' ⟨rfl, hb⟩
    go_wp2
    go_ret
    exact ⟨rfl, hb⟩
end Go.Proofs.YtndcmapifihgeaaGreatDoor.Tg
