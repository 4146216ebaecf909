/- The reader's attr and attrs, walked. -/
import Derived.Test.YtndcmapifihgeaaDoorTgVl
namespace Go.Proofs.YtndcmapifihgeaaDoor.Tg
open Go.RowKit Go.Lib
open Ch (at0 nx nx_width nx_range at0_lt at0_drop enc_len Sl Sl.below Cells ret_str good nx_good)
open Kl (blankN greatN blankZ blank_any)
open At (cellsA)

variable {l : List UInt8} {a : Option Addr} {cap R i : Nat} {W w w' : World}

theorem pAtt_st (c : Nat) : pAtt c = (!blankN c && !([47, 62, 61] : List UInt8).any (fun b : UInt8 => b.toNat == c)) := by
  unfold pAtt
  have : ([47, 62, 61] : List UInt8).any (fun b : UInt8 => b.toNat == c) = (c == 47 || c == 62 || c == 61) := by rw [Bool.eq_iff_iff]; simp; omega
  rw [this]
theorem pTag_st (c : Nat) : pTag c = (!blankN c && !([47, 62] : List UInt8).any (fun b : UInt8 => b.toNat == c)) := by
  unfold pTag
  have : ([47, 62] : List UInt8).any (fun b : UInt8 => b.toNat == c) = (c == 47 || c == 62) := by rw [Bool.eq_iff_iff]; simp; omega
  rw [this]

/-- a block of two cells -/
structure Two (g : Nat) (x y : Value) (w : World) : Prop where
  blk : w.heap[g]? = some (.cells #[x, y] 63 (0, 0))
theorem Two.lt {g : Nat} {x y : Value} (h : Two g x y w) : g < w.heap.size := by
  rcases Nat.lt_or_ge g w.heap.size with k | k
  · exact k
  · have := h.blk
    rw [Array.getElem?_eq_none k] at this
    cases this
theorem Two.kp {g : Nat} {x y : Value} (h : Two g x y w) (hk : Kp R w w') (hne : R < g) : Two g x y w' := ⟨(hk.block g h.lt (by simp; omega)).trans h.blk⟩
theorem Two.below {g : Nat} {x y : Value} (h : Two g x y w) (hb : Below w.heap.size w w') : Two g x y w' := ⟨(hb.block g h.lt).trans h.blk⟩
theorem Two.alloc {g : Nat} {x y : Value} (h : Two g x y w) (o : Obj) : Two g x y (w.alloc o) := ⟨(Lib.alloc_old w o g h.lt).trans h.blk⟩
theorem two_new (w : World) (x y : Value) : Two w.heap.size x y (w.alloc (.cells #[x, y] 63)) := ⟨heap_alloc_new w _⟩
theorem Two.c0 {g : Nat} {x y : Value} (h : Two g x y w) : w.cell? ⟨g, 0, none⟩ = some x := by rw [Lib.cell_of_heap h.blk]; rfl
theorem Two.c1 {g : Nat} {x y : Value} (h : Two g x y w) : w.cell? ⟨g, 1, none⟩ = some y := by rw [Lib.cell_of_heap h.blk]; rfl
theorem Two.f0 {g : Nat} {x y : Value} (h : Two g x y w) : w.frozen? ⟨g, 0, none⟩ = false := Lib.frozen_of_heap h.blk 0
theorem Two.f1 {g : Nat} {x y : Value} (h : Two g x y w) : w.frozen? ⟨g, 1, none⟩ = false := Lib.frozen_of_heap h.blk 1

theorem Two.set0 {g : Nat} {x y : Value} (h : Two g x y w) (v : Value) : Two g v y (w.setCell ⟨g, 0, none⟩ v) := ⟨by simp [World.setCell, Array.getElem?_modify, h.blk]⟩
theorem Two.set1 {g : Nat} {x y : Value} (h : Two g x y w) (v : Value) : Two g x v (w.setCell ⟨g, 1, none⟩ v) := ⟨by simp [World.setCell, Array.getElem?_modify, h.blk]⟩
theorem Two.other {g g' j : Nat} {x y : Value} (h : Two g x y w) (hne : g ≠ g') (v : Value) : Two g x y (w.setCell ⟨g', j, none⟩ v) := ⟨(Below.heap_setCell _ _ _ _ hne).trans h.blk⟩
theorem info43 : (Tryd.prog.info? 63).map (·.size) = some 2 := by kernel_rfl

theorem On.set {g j : Nat} (h : On l a cap R i W w) (hg : R < g) (v : Value) : On l a cap R i W (w.setCell ⟨g, j, none⟩ v) :=
  ⟨h.sl, h.tb, h.len, h.le, h.base.setCell (p := ⟨g, j, none⟩) (by have := h.le; show W.heap.size ≤ g; omega) _, (Below.heap_setCell _ _ _ _ (by show R ≠ g; omega)).trans h.blk, h.ile⟩
theorem Kp.set {w1 : World} {g j : Nat} (h : Kp R w w1) (hg : w.heap.size ≤ g) (v : Value) : Kp R w (w1.setCell ⟨g, j, none⟩ v) :=
  ⟨h.os, h.tape, h.output, by have := h.size; simpa using this, fun k hk hne => (Below.heap_setCell _ _ _ _ (by show k ≠ g; omega)).trans (h.block k hk hne)⟩

theorem aN_at (l : List UInt8) (i : Nat) (h : l.drop i ≠ []) : encodeRune ((lowN (hd (l.drop i)) : Nat) : Int) ++ lw pAtt (l.drop (i + wd (l.drop i))) = aN (l.drop i) ∧ i + wd (l.drop i) + ov pAtt (l.drop (i + wd (l.drop i))) = i + a1 (l.drop i) := by
  unfold aN a1
  rw [hd_ne h, wd_ne h, List.drop_drop]
  exact ⟨rfl, by omega⟩
theorem a2_at (l : List UInt8) (i : Nat) : i + a1 (l.drop i) + ov blankN (l.drop (i + a1 (l.drop i))) = i + a2 (l.drop i) := by
  unfold a2
  rw [List.drop_drop]
  omega
theorem a3_at (l : List UInt8) (i : Nat) : i + a2 (l.drop i) + 1 + ov blankN (l.drop (i + a2 (l.drop i) + 1)) = i + a3 (l.drop i) := by
  unfold a3
  rw [List.drop_drop, Nat.add_assoc i (a2 (l.drop i)) 1]
  omega

set_option maxHeartbeats 4000000 in
set_option maxRecDepth 100000 in
theorem attr_on (h : On l a cap R i W w) (hne : l.drop i ≠ []) :
    Calls Tryd.prog 71 #[.pointer (some ⟨R, 0, none⟩)] w fun e w' => e = .returned (.agg #[.string ⟨(ab (l.drop i)).1.1.toArray⟩, .string ⟨(ab (l.drop i)).1.2.toArray⟩]) ∧ On l a cap R (i + (ab (l.drop i)).2) W w' ∧ Kp R w w' := by
  have hlt := h.lt
  have hA := h.alloc (.cells #[.string ⟨#[]⟩, .string ⟨#[]⟩] 63)
  have cN := name_on [47, 62, 61] pAtt cr3 pAtt_st hA
  have eN := aN_at l i hne
  rw [eN.1, eN.2] at cN
  have e2 := a2_at l i
  have e3 := a3_at l i
  obtain ⟨N, hN⟩ : ∃ N, aN (l.drop i) = N := ⟨_, rfl⟩
  rw [hN] at cN
  have HE2 := Lib.hid e2
  have HE3 := Lib.hid e3
  have HN := Lib.hid hN
  clear e2 e3 hN eN hA h
  go_enter Tryd.func71, Tryd.ntmps71
  go_wp2_with fail
  refine cN.mono ?_
  rintro e w1 ⟨rfl, h1, hk1⟩
  have b1 : Two w.heap.size (.string ⟨#[]⟩) (.string ⟨#[]⟩) w1 := (two_new w _ _).kp hk1 hlt
  have hz1 : w.heap.size < w1.heap.size := b1.lt
  have cP := pass_on 59 #[] blankN (fun _ => True) en14 (h1.alloc (.cells #[.string ⟨N.toArray⟩, .string ⟨#[]⟩] 63)) trivial (fun _ _ _ _ => trivial) (fun c wa _ => blank_on c wa)
  rw [HE2.out] at cP
  have HB1 := Lib.hid (b1.alloc (.cells #[.string ⟨N.toArray⟩, .string ⟨#[]⟩] 63))
  have HK1 := Lib.hid (((Kp.alloc (R := R) (w := w) _).trans hk1).trans (Kp.alloc (.cells #[.string ⟨N.toArray⟩, .string ⟨#[]⟩] 63)))
  clear cN h1 hk1 b1
  go_wp2_with fail
  refine cP.mono ?_
  rintro e w2 ⟨rfl, h2, hk2⟩
  have b2 := HB1.out.kp hk2 hlt
  have d2 := (two_new w1 (.string ⟨N.toArray⟩) (.string ⟨#[]⟩)).kp hk2 (by omega)
  have HK2 := Lib.hid (HK1.out.trans hk2)
  have cK := peek_on h2
  have H2 := Lib.hid h2
  have HB2 := Lib.hid b2
  have HD2 := Lib.hid d2
  clear cP hk2 h2 b2 d2
  go_wp2_with fail
  refine cK.mono ?_
  rintro e w3 ⟨rfl, hb3⟩
  have b3 := HB2.out.below hb3
  have d3 := HD2.out.below hb3
  have h3 := H2.out.below hb3
  have HK3 := Lib.hid (HK2.out.trans (Kp.of_below hb3))
  clear cK hb3
  by_cases hq : hd ((l.drop i).drop (a2 (l.drop i))) = 61
  · have hab : ab (l.drop i) = ((N, (vl ((l.drop i).drop (a3 (l.drop i)))).1), a3 (l.drop i) + (vl ((l.drop i).drop (a3 (l.drop i)))).2) := by
      unfold ab; rw [if_pos hq, HN.out]
    rw [List.drop_drop] at hab hq
    have hw1 : wd (l.drop (i + a2 (l.drop i))) = 1 := by
      have q := hd_is (c := 61) (by decide) (by decide) (by decide) hq
      rw [wd_ne q.2.2, q.2.1]
    have t1 : (((hd (l.drop (i + a2 (l.drop i))) : Nat) : Int) != 61) = false := by simp [hq]
    have HAB := Lib.hid hab
    have cT := take_on h3
    rw [hw1] at cT
    have HB3 := Lib.hid b3
    have HD3 := Lib.hid d3
    clear hab hq hw1 b3 d3 h3
    go_wp2_with fail
    refine cT.mono ?_
    rintro e w4 ⟨rfl, h4, hk4⟩
    have b4 := HB3.out.kp hk4 hlt
    have d4 := HD3.out.kp hk4 (by omega)
    have cP := pass_on 59 #[] blankN (fun _ => True) en14 h4 trivial (fun _ _ _ _ => trivial) (fun c wa _ => blank_on c wa)
    rw [HE3.out] at cP
    have HK4 := Lib.hid (HK3.out.trans hk4)
    clear cT hk4 h4
    go_wp2_with fail
    refine cP.mono ?_
    rintro e w5 ⟨rfl, h5, hk5⟩
    have b5 := b4.kp hk5 hlt
    have d5 := d4.kp hk5 (by omega)
    have cV := value_on h5
    have HK5 := Lib.hid (HK4.out.trans hk5)
    clear cP hk5 h5 b4 d4
    go_wp2_with fail
    refine cV.mono ?_
    rintro e w6 ⟨rfl, h6, hk6⟩
    have b6 := b5.kp hk6 hlt
    have d6 := d5.kp hk6 (by omega)
    have c20 := b6.c0
    have c21 := b6.c1
    have f20 := b6.f0
    have f21 := b6.f1
    have c30 := d6.c0
    have c31 := d6.c1
    have f31 := d6.f1
    have hgne : w.heap.size ≠ w1.heap.size := by omega
    have H6 := Lib.hid h6
    have HK6 := Lib.hid (HK5.out.trans hk6)
    have HB6 := Lib.hid b6
    clear cV hk6 h6 b5 d5 b6 d6
    go_wp2
    (try simp only [Exit.inBlock, Exit.then])
    refine bodyPost_ret (results_cell_row rfl _ _ w.heap.size 63 #[.string ⟨N.toArray⟩, .string ⟨(vl (l.drop (i + a3 (l.drop i)))).1.toArray⟩] (0, 0) _ rfl ?_ Tryd.underlying63 rfl info43) rfl ?_
    · exact (((HB6.out.other hgne _).set0 _).set1 _).blk
    rw [HAB.out]
    refine ⟨rfl, ?_, ?_⟩
    · rw [← Nat.add_assoc]
      exact ((H6.out.set (by omega) _).set hlt _).set hlt _
    · exact ((HK6.out.set (by omega) _).set (Nat.le_refl _) _).set (Nat.le_refl _) _
  · have hab : ab (l.drop i) = ((N, []), a2 (l.drop i)) := by unfold ab; rw [if_neg hq, HN.out]
    rw [List.drop_drop] at hq
    have t1 : (((hd (l.drop (i + a2 (l.drop i))) : Nat) : Int) != 61) = true := by simp; omega
    have HAB := Lib.hid hab
    have c20 := b3.c0
    have c21 := b3.c1
    have f20 := b3.f0
    have f21 := b3.f1
    have c30 := d3.c0
    have c31 := d3.c1
    have H3 := Lib.hid h3
    have HB3 := Lib.hid b3
    clear hab hq b3 d3 h3
    go_wp2
    (try simp only [Exit.inBlock, Exit.then])
    refine bodyPost_ret (results_cell_row rfl _ _ w.heap.size 63 #[.string ⟨N.toArray⟩, .string ⟨#[]⟩] (0, 0) _ rfl ?_ Tryd.underlying63 rfl info43) rfl ?_
    · exact ((HB3.out.set0 _).set1 _).blk
    rw [HAB.out]
    exact ⟨rfl, (H3.out.set hlt _).set hlt _, (HK3.out.set (Nat.le_refl _) _).set (Nat.le_refl _) _⟩

/-- what attrs answers -/
def AtsPost (l : List UInt8) (a : Option Addr) (cap R i : Nat) (W w : World) (e : Ending) (w' : World) : Prop :=
  match ats (l.drop i) with
  | none => e = .returned (.tuple #[.slice none 0 0, .bool false]) ∧ Kp R w w'
  | some p => ∃ v, e = .returned (.tuple #[v, .bool true]) ∧ w'.ownsRow w.heap.size 63 2 v p.1.length (cellsA p.1) ∧ On l a cap R (i + p.2) W w' ∧ Kp R w w'
theorem AtsPost.none {e : Ending} (h : ats (l.drop i) = none) (he : e = .returned (.tuple #[.slice none 0 0, .bool false])) (hk : Kp R w w') : AtsPost l a cap R i W w e w' := by
  unfold AtsPost; rw [h]; exact ⟨he, hk⟩
theorem AtsPost.some {e : Ending} {L : List At.At} {n : Nat} (h : ats (l.drop i) = some (L, n)) {v : Value} (he : e = .returned (.tuple #[v, .bool true])) (ho : w'.ownsRow w.heap.size 63 2 v L.length (cellsA L)) (hn : On l a cap R (i + n) W w') (hk : Kp R w w') : AtsPost l a cap R i W w e w' := by
  unfold AtsPost; rw [h]; exact ⟨v, he, ho, hn, hk⟩

def AtsRel (l : List UInt8) (a : Option Addr) (cap R i : Nat) (W w : World) (v : Value) (wr : World) : Prop :=
  ∃ (j : Nat) (acc : List At.At), wr.ownsRow w.heap.size 63 2 v acc.length (cellsA acc) ∧ On l a cap R j W wr ∧ Kp R w wr ∧ i ≤ j ∧ acc.length ≤ j ∧
    ats (l.drop i) = (ats (l.drop j)).map fun p => (acc ++ p.1, j - i + p.2)

theorem ownsRow_kp {B : Nat} {e : TypeId} {size : Nat} {v : Value} {n : Nat} {xs : List Value} (h : w.ownsRow B e size v n xs) (hk : Kp R w w') (hR : R < B) : w'.ownsRow B e size v n xs := by
  refine h.kept hk ?_
  cases hv : v.ownBlock with
  | none => exact Or.inl rfl
  | some g => have := (h.lt g hv).1; exact Or.inr (by simp; omega)
theorem Kp.grown {w1 w2 : World} {r : Option Nat} (h : Kp R w w1) (hg : w1.grownBy w2 r) (hr : ∀ k, r = some k → w.heap.size ≤ k) : Kp R w w2 := At.grown_past h hg hr

set_option maxHeartbeats 4000000 in
set_option maxRecDepth 100000 in
theorem attrs_on (h : On l a cap R i W w) : Calls Tryd.prog 49 #[.pointer (some ⟨R, 0, none⟩)] w (AtsPost l a cap R i W w) := by
  have hlt := h.lt
  have H := Lib.hid h
  clear h
  go_enter Tryd.func49, Tryd.ntmps49
  go_wp2
  go_loopw [4] (fun v wr => AtsRel l a cap R i W w v wr) (fun _ wr => l.length - cur R wr)
  case atStart =>
    refine ⟨i, [], World.ownsRow_nil _ _ _ _, H.out, Kp.refl _ _, Nat.le_refl _, Nat.zero_le _, ?_⟩
    cases ats (l.drop i) with
    | none => rfl
    | some p => simp
  case round =>
    obtain ⟨j, acc, hown, hon, hkp, hij, haj, heq⟩ := hrel
    have cP := pass_on 70 #[] pGap (fun _ => True) en55 hon trivial (fun _ _ _ _ => trivial) (fun c wa _ => gap_any c wa)
    have hll := hon.len
    have hjl := hon.ile
    have hcur := hon.cur
    have HO := Lib.hid hown
    have HK := Lib.hid hkp
    have HEQ := Lib.hid heq
    clear hown hkp heq hon
    go_wp2_with fail
    refine cP.mono ?_
    rintro e w2 ⟨rfl, h2, hk2⟩
    have cK := peek_on h2
    have ho2 := ownsRow_kp HO.out hk2 hlt
    have hk2' := HK.out.trans hk2
    clear cP hk2
    have HO2 := Lib.hid ho2
    have HK2 := Lib.hid hk2'
    have H2 := Lib.hid h2
    clear ho2 hk2'
    go_wp2_with fail
    refine cK.mono ?_
    rintro e w3 ⟨rfl, hb3⟩
    have h3 := h2.below hb3
    have ho3 := At.ownsRow_below HO2.out hb3
    have hk3 := HK2.out.trans (Kp.of_below hb3)
    clear cK hb3 h2
    have hdd : (l.drop j).drop (ov pGap (l.drop j)) = l.drop (j + ov pGap (l.drop j)) := List.drop_drop
    by_cases h0 : hd (l.drop (j + ov pGap (l.drop j))) = 0
    · have t0 : (((hd (l.drop (j + ov pGap (l.drop j))) : Nat) : Int) == 0) = true := by simp [h0]
      have hn : ats (l.drop j) = none := ats_end (by rw [hdd]; exact hd_zero.1 h0)
      have HN := Lib.hid (by rw [HEQ.out, hn]; rfl : ats (l.drop i) = none)
      have HK3 := Lib.hid hk3
      clear hn h0 hdd hk3 ho3 h3
      go_wp2
      go_ret2
      exact AtsPost.none HN.out rfl HK3.out
    · have t0 : (((hd (l.drop (j + ov pGap (l.drop j))) : Nat) : Int) == 0) = false := by simp; omega
      by_cases h6 : hd (l.drop (j + ov pGap (l.drop j))) = 62
      · have t6 : (((hd (l.drop (j + ov pGap (l.drop j))) : Nat) : Int) == 62) = true := by simp [h6]
        have hn : ats (l.drop j) = some ([], ov pGap (l.drop j) + 1) := ats_gt (by rw [hdd]; exact h6)
        have hw1 : wd (l.drop (j + ov pGap (l.drop j))) = 1 := by
          have q := hd_is (c := 62) (by decide) (by decide) (by decide) h6
          rw [wd_ne q.2.2, q.2.1]
        have HN := Lib.hid (by rw [HEQ.out, hn]; simp : ats (l.drop i) = some (acc, j - i + (ov pGap (l.drop j) + 1)))
        have cT := take_on h3
        rw [hw1] at cT
        have HK3 := Lib.hid hk3
        have HO3 := Lib.hid ho3
        clear hn h0 h6 hdd hk3 ho3 h3 hw1
        go_wp2_with fail
        refine cT.mono ?_
        rintro e w4 ⟨rfl, h4, hk4⟩
        have HO4 := Lib.hid (ownsRow_kp HO3.out hk4 hlt)
        have HK4 := Lib.hid (HK3.out.trans hk4)
        rw [show j + ov pGap (l.drop j) + 1 = i + (j - i + (ov pGap (l.drop j) + 1)) by omega] at h4
        have H4 := Lib.hid h4
        clear cT h4 hk4
        go_wp2
        go_ret2
        exact AtsPost.some HN.out rfl HO4.out H4.out HK4.out
      · have t6 : (((hd (l.drop (j + ov pGap (l.drop j))) : Nat) : Int) == 62) = false := by simp; omega
        have hne : l.drop (j + ov pGap (l.drop j)) ≠ [] := hd_pos h0
        have hn := ats_more (m := l.drop j) (by rw [hdd]; exact hne) (by rw [hdd]; exact h6)
        rw [hdd, List.drop_drop] at hn
        have hab := ab_le hne
        have cA := attr_on h3 hne
        obtain ⟨k, hk⟩ : ∃ k, ov pGap (l.drop j) = k := ⟨_, rfl⟩
        rw [hk] at hn cA hab t0 t6
        obtain ⟨x, m, hx⟩ : ∃ x m, ab (l.drop (j + k)) = (x, m) := ⟨_, _, rfl⟩
        rw [hx] at hn cA hab
        obtain ⟨x1, x2⟩ := x
        simp only at hn cA hab
        have HEQ2 := Lib.hid (show ats (l.drop i) = (ats (l.drop (j + k + m))).map fun p => ((acc ++ [(x1, x2)]) ++ p.1, j + k + m - i + p.2) by
          rw [HEQ.out, hn, Option.map_map]
          congr 1
          funext p
          simp only [Function.comp_apply, List.append_assoc, List.singleton_append, Prod.mk.injEq, true_and]
          omega)
        have HK3 := Lib.hid hk3
        have HO3 := Lib.hid ho3
        rw [List.length_drop] at hab
        clear hn h0 h6 hdd hk3 ho3 h3 hne hx HEQ
        rw [hk]
        clear hk
        go_wp2_with fail
        refine cA.mono ?_
        rintro e w4 ⟨rfl, h4, hk4⟩
        have ho4 := ownsRow_kp HO3.out hk4 hlt
        have hkk := HK3.out.trans hk4
        have hz4 : w.heap.size ≤ w4.heap.size := hkk.size
        obtain ⟨v5, w5, hr5, own5, gr5, -⟩ := At.app_one At.elem26 w4 w.heap.size _ acc (x1, x2) w4.heap.size rfl ho4 (by omega) hz4
        have HR5 := Lib.hid hr5
        have HO5 := Lib.hid own5
        have HK5 := Lib.hid (hkk.grown gr5 (fun g hg => (ho4.lt g hg).1))
        have hon5 : On l a cap R (j + k + m) W w5 := h4.belowB (B := w.heap.size) ((Below.refl _ w4).grown gr5 hz4 (fun g hg => (ho4.lt g hg).1)) hlt
        have H5 := Lib.hid hon5
        clear cA h4 hk4 ho4 hkk hr5 own5 gr5 hon5
        go_wp2_with (at_builtin; refine Lib.wpList_append_run _ rfl (.tmp 16) (.tmp 19) 26 26 rfl _ _ rfl rfl v5 w5 HR5.out ?_)
        go_roundw
        case rel => exact ⟨j + k + m, acc ++ [(x1, x2)], HO5.out, H5.out, HK5.out, by omega, by simp; omega, HEQ2.out⟩
        case measure =>
          rw [H5.out.cur, hcur]
          omega
end Go.Proofs.YtndcmapifihgeaaDoor.Tg
