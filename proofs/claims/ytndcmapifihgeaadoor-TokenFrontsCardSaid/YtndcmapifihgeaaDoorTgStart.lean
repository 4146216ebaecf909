/- The program's startTag and Read, walked. -/
import Derived.Test.YtndcmapifihgeaaDoorTgTag
import Derived.Laws.ResultCell
namespace Go.Proofs.YtndcmapifihgeaaDoor.Tg
open Go.RowKit Go.Lib
open Ch (at0 nx nx_width nx_range at0_lt at0_drop enc_len Sl Sl.below Cells ret_str good nx_good ret_bool)
open Kl (blankN greatN letterZ letter_any)
open At (cellsA names ads Seen kept)

variable {l : List UInt8} {a : Option Addr} {cap R i : Nat} {W w w' : World}

/-- six cells of a token stored -/
theorem Bk.set6 {g : Nat} {t : TypeId} {x0 x1 x2 x3 x4 x5 : Value} (h : Bk g #[x0, x1, x2, x3, x4, x5] t w) (y0 y1 y2 y3 y4 y5 : Value) :
    Bk g #[y0, y1, y2, y3, y4, y5] t ((((((w.setCell ⟨g, 0, none⟩ y0).setCell ⟨g, 1, none⟩ y1).setCell ⟨g, 2, none⟩ y2).setCell ⟨g, 3, none⟩ y3).setCell ⟨g, 4, none⟩ y4).setCell ⟨g, 5, none⟩ y5) :=
  ⟨((((((h.set 0 y0).set 1 y1).set 2 y2).set 3 y3).set 4 y4).set 5 y5).blk⟩
theorem below_set6 {B g : Nat} (h : Below B w w') (hg : B ≤ g) (y0 y1 y2 y3 y4 y5 : Value) :
    Below B w ((((((w'.setCell ⟨g, 0, none⟩ y0).setCell ⟨g, 1, none⟩ y1).setCell ⟨g, 2, none⟩ y2).setCell ⟨g, 3, none⟩ y3).setCell ⟨g, 4, none⟩ y4).setCell ⟨g, 5, none⟩ y5) :=
  (((((h.setCell (p := ⟨g, 0, none⟩) hg _).setCell (p := ⟨g, 1, none⟩) hg _).setCell (p := ⟨g, 2, none⟩) hg _).setCell (p := ⟨g, 3, none⟩) hg _).setCell (p := ⟨g, 4, none⟩) hg _).setCell (p := ⟨g, 5, none⟩) hg _
theorem grown_set (w : World) (g j : Nat) (v : Value) : w.grownBy (w.setCell ⟨g, j, none⟩ v) (some g) := ⟨rfl, rfl, rfl, by simp, fun k _ hne => Below.heap_setCell _ _ _ _ (fun e => hne (by simp [e]))⟩
theorem own_set6 {B g : Nat} {e : TypeId} {size : Nat} {v : Value} {n : Nat} {xs : List Value} (h : w.ownsRow B e size v n xs) (hne : v.ownBlock = none ∨ v.ownBlock ≠ some g) (y0 y1 y2 y3 y4 y5 : Value) :
    ((((((w.setCell ⟨g, 0, none⟩ y0).setCell ⟨g, 1, none⟩ y1).setCell ⟨g, 2, none⟩ y2).setCell ⟨g, 3, none⟩ y3).setCell ⟨g, 4, none⟩ y4).setCell ⟨g, 5, none⟩ y5).ownsRow B e size v n xs :=
  (((((h.kept (grown_set _ g 0 _) hne).kept (grown_set _ g 1 _) hne).kept (grown_set _ g 2 _) hne).kept (grown_set _ g 3 _) hne).kept (grown_set _ g 4 _) hne).kept (grown_set _ g 5 _) hne

/-- what a block of six cells says to the walk -/
structure Six (g : Nat) (x0 x1 x2 x3 x4 x5 : Value) (w : World) : Prop where
  k0 : w.cell? ⟨g, 0, none⟩ = some x0
  k1 : w.cell? ⟨g, 1, none⟩ = some x1
  k2 : w.cell? ⟨g, 2, none⟩ = some x2
  k3 : w.cell? ⟨g, 3, none⟩ = some x3
  k4 : w.cell? ⟨g, 4, none⟩ = some x4
  k5 : w.cell? ⟨g, 5, none⟩ = some x5
  f0 : w.frozen? ⟨g, 0, none⟩ = false
  f1 : w.frozen? ⟨g, 1, none⟩ = false
  f2 : w.frozen? ⟨g, 2, none⟩ = false
  f3 : w.frozen? ⟨g, 3, none⟩ = false
  f4 : w.frozen? ⟨g, 4, none⟩ = false
  f5 : w.frozen? ⟨g, 5, none⟩ = false
theorem Bk.six {g : Nat} {t : TypeId} {x0 x1 x2 x3 x4 x5 : Value} (h : Bk g #[x0, x1, x2, x3, x4, x5] t w) : Six g x0 x1 x2 x3 x4 x5 w :=
  ⟨h.cell 0, h.cell 1, h.cell 2, h.cell 3, h.cell 4, h.cell 5, h.fr 0, h.fr 1, h.fr 2, h.fr 3, h.fr 4, h.fr 5⟩

set_option maxHeartbeats 8000000 in
set_option maxRecDepth 100000 in
theorem startTag_any (hs : Sl l a cap w) (hT : Tb w) (hlen : l.length ≤ 100000 - 1) (hb : bg (l.drop i) = 1) (hi : i < l.length) :
    Calls Tryd.prog 38 #[.slice a l.length cap, .int .i64 (i : Int)] w (TagPost l i w) := by
  have htw := tw_le (m := l.drop i) (by omega)
  simp only [List.length_drop] at htw
  have hon := On.start hs hT (by omega) (.cells zero29 28) ((i : Int) + 1) (i + 1) rfl (by omega)
  have cN := name_on [47, 62] pTag cr2 pTag_st hon
  have e1 := tn_at l i 1 hb (by omega)
  rw [e1.1, e1.2] at cN
  have bT : Bk w.heap.size zero29 28 ((w.alloc (.cells zero29 28)).alloc (.cells #[.slice a l.length cap, .int .i64 ((i : Int) + 1)] 89)) := (bk_new w zero29 28).alloc _
  have hb0 : Below w.heap.size w ((w.alloc (.cells zero29 28)).alloc (.cells #[.slice a l.length cap, .int .i64 ((i : Int) + 1)] 89)) := hon.base
  have HB0 := Lib.hid hb0
  have HT := Lib.hid bT
  have HTR := Lib.hid (tr_at l i)
  have HBG := Lib.hid hb
  clear hon e1 hs hT hb bT hb0
  unfold zero29 at HB0 HT cN
  obtain ⟨N, hN⟩ : ∃ N, tn (l.drop i) = N := ⟨_, rfl⟩
  rw [hN] at cN
  have HN := Lib.hid hN
  clear hN
  go_enter Tryd.func38, Tryd.ntmps38
  go_wp2_with fail
  refine cN.mono ?_
  rintro e w1 ⟨rfl, h1, hk1⟩
  have cA := attrs_on h1
  have b1 := HT.out.kp hk1 (by omega)
  have HB1 := Lib.hid (below_kp HB0.out hk1 (by omega))
  clear cN h1 hk1
  go_wp2_with fail
  refine cA.mono ?_
  intro e w2 hp
  unfold AtsPost at hp
  cases ha : ats (l.drop (i + tw (l.drop i))) with
  | none =>
    rw [ha] at hp
    obtain ⟨rfl, hk2⟩ := hp
    have b2 := b1.kp hk2 (by omega)
    have HB2 := Lib.hid (below_kp HB1.out hk2 (by omega))
    have HTK := Lib.hid (tkIn_none (by rw [HTR.out, ha]; rfl))
    have cC := cutTag_any (a := a) (cap := cap) (i : Int) l.length w2
    clear ha hk2 cA b1
    go_wp2_with fail
    refine cC.mono ?_
    rintro e w3 ⟨rfl, hb3⟩
    have b3 := b2.below hb3
    have HB3 := Lib.hid (HB2.out.trans (hb3.mono HB2.out.size))
    obtain ⟨k0, k1, k2, k3, k4, k5, f0, f1, f2, f3, f4, f5⟩ := b3.six
    have HBK := Lib.hid b3
    clear b2 b3 hb3 cC
    go_wp2
    (try simp only [Exit.inBlock, Exit.then])
    refine bodyPost_ret (results_cell_row rfl _ _ w.heap.size 28 #[.int .i64 0, .string ⟨#[]⟩, .slice none 0 0, .string ⟨#[]⟩, .int .i64 (i : Int), .int .i64 (l.length : Int)] (0, 0) _ rfl ?_ Tryd.underlying28 rfl info29) rfl ?_
    · exact (HBK.out.set6 _ _ _ _ _ _).blk
    · refine ⟨.slice none 0 0, ?_, ?_, ?_⟩
      · rw [HTK.out]; rfl
      · rw [HTK.out]; exact World.ownsRow_nil _ _ _ _
      · exact below_set6 HB3.out (Nat.le_refl _) _ _ _ _ _ _
  | some p =>
    obtain ⟨L, n⟩ := p
    rw [ha] at hp
    obtain ⟨v, rfl, hown, h2, hk2⟩ := hp
    have hbd := ats_bd _ _ (Nat.le_refl _) _ _ ha
    simp only [List.length_drop] at hbd
    have b2 := b1.kp hk2 (by omega)
    have hbw2 := below_kp HB1.out hk2 (by omega)
    have HTK := Lib.hid (tkIn_some (by rw [HTR.out, ha]; rfl))
    have hz2 := hbw2.size
    have hz1 : w.heap.size ≤ w1.heap.size := HB1.out.size
    have d1 := h2.c1
    have hY : i + tw (l.drop i) + n = i + (tw (l.drop i) + n) := by omega
    rw [hY] at d1
    have hR2 := h2.lt
    have hblkR := h2.blk
    rw [hY] at hblkR
    obtain ⟨E, hE⟩ : ∃ E, tw (l.drop i) + n = E := ⟨_, rfl⟩
    rw [hE] at d1 HTK hblkR
    obtain ⟨Y, hYY⟩ : ∃ Y : Nat, i + E = Y := ⟨_, rfl⟩
    rw [hYY] at d1 hblkR
    have HY := Lib.hid hYY
    -- what Keep does, in whatever world that has the same memory
    have hKX : ∀ X : World, X.heap = ((w2.alloc (.map #[] 0)).alloc (.cells #[.map (some w2.heap.size)] 106)).heap → X.os = w2.os → X.tape = w2.tape → X.output = w2.output →
        Calls Tryd.prog 51 #[v, .func (.func 72) #[] #[.pointer (some ⟨w2.heap.size + 1, 0, none⟩)]] X fun e w4 => ∃ v', e = .returned v' ∧ w4.ownsRow (w.heap.size + 1) 63 2 v' (ads L).length (cellsA (ads L)) ∧ Below w.heap.size w w4 ∧ Bk w.heap.size #[.int .i64 0, .string ⟨#[]⟩, .slice none 0 0, .string ⟨#[]⟩, .int .i64 0, .int .i64 0] 28 w4 ∧ w4.cell? ⟨w.heap.size + 1, 1, none⟩ = some (.int .i64 (Y : Int)) := by
      intro X hX ho ht hp
      have hU : w2.grownBy ((w2.alloc (.map #[] 0)).alloc (.cells #[.map (some w2.heap.size)] 106)) none := World.grownBy.trans (World.grownBy_alloc _ _ _) (World.grownBy_alloc _ _ _)
      have hUX : w2.grownBy X none := ⟨ho, ht, hp, by rw [hX]; exact hU.size, fun k hk hne => by rw [hX]; exact hU.block k hk hne⟩
      have hXs : X.heap.size = w2.heap.size + 2 := by rw [hX]; simp
      have hownX : X.ownsRow w1.heap.size 63 2 v L.length (cellsA L) := hown.kept hUX (by cases v.ownBlock <;> simp)
      have hmX : X.heap[w2.heap.size]? = some (.map #[] 0) := by
        rw [hX, Lib.alloc_old (w2.alloc (.map #[] 0)) _ w2.heap.size (by simp)]
        exact heap_alloc_new w2 _
      have hgX : X.heap[w2.heap.size + 1]? = some (.cells #[.map (some w2.heap.size)] 106 (0, 0)) := by
        have := heap_alloc_new (w2.alloc (.map #[] 0)) (.cells #[.map (some w2.heap.size)] 106)
        rw [hX]
        simpa using this
      have hSX : Seen [] w2.heap.size 0 X := seen_block (At.seen_made w2) (by rw [hmX]; exact (heap_alloc_new w2 _).symm)
      refine (keepU_any L v w1.heap.size w2.heap.size (w2.heap.size + 1) X hownX (by omega) (fun x hx => by have := hbd.2.2 x hx; omega) ?_ hSX hgX).mono ?_
      · cases hv : v.ownBlock with
        | none => exact Or.inl rfl
        | some q =>
          right
          have := (hown.lt q hv).2
          simp
          omega
      · rintro e w4 ⟨v', rfl, ho4, hg4⟩
        refine ⟨v', rfl, At.ownsRow_base ho4 (by omega), ?_, ?_, ?_⟩
        · have hbX : Below w.heap.size w X := hbw2.grown hUX hz2 (fun k hk => by cases hk)
          exact hbX.grown hg4 hbX.size (fun k hk => by injection hk with hk; omega)
        · exact (b2.grown hUX (by simp)).grown hg4 (by simp; omega)
        · have : w4.heap[w.heap.size + 1]? = some (.cells #[.slice a l.length cap, .int .i64 (Y : Int)] 89 (0, 0)) := by
            rw [hg4.block _ (by omega) (by simp; omega), hUX.block _ hR2 (by simp)]
            exact hblkR
          rw [Lib.cell_of_heap this]
          rfl
    have HKX := Lib.hid (hKX ((w2.alloc (.map #[] 0)).alloc (.cells #[.map (some w2.heap.size)] 106)).drew rfl rfl rfl rfl)
    have dU : ((w2.alloc (.map #[] 0)).alloc (.cells #[.map (some w2.heap.size)] 106)).cell? ⟨w.heap.size + 1, 1, none⟩ = some (.int .i64 (Y : Int)) := by
      have : ((w2.alloc (.map #[] 0)).alloc (.cells #[.map (some w2.heap.size)] 106)).heap[w.heap.size + 1]? = some (.cells #[.slice a l.length cap, .int .i64 (Y : Int)] 89 (0, 0)) := by
        rw [Lib.alloc_old _ _ _ (by simp; omega), Lib.alloc_old _ _ _ hR2]
        exact hblkR
      rw [Lib.cell_of_heap this]
      rfl
    clear ha hk2 cA b1 b2 h2 hown hY hKX hblkR hbw2 hE hYY
    go_wp2_with fail
    go_region_with (first
      | (go_at_call 52; refine (unseen_any _).mono ?_; rintro e w3 ⟨rfl, rfl⟩)
      | (go_at_call 51; refine HKX.out.mono ?_; rintro e w4 ⟨v', rfl, ho4, hb4, bk4, dd4⟩; obtain ⟨a5, cap5, rfl, -⟩ := At.sl_own ho4; obtain ⟨k0, k1, k2, k3, k4, k5, f0, f1, f2, f3, f4, f5⟩ := bk4.six; have HO4 := Lib.hid ho4; have HB4 := Lib.hid hb4; have HK4 := Lib.hid bk4; clear ho4 hb4 bk4))
    all_goals (try go_wp2)
    all_goals
      (try simp only [Exit.inBlock, Exit.then])
      refine bodyPost_ret (results_cell_row rfl _ _ w.heap.size 28 #[.int .i64 2, .string ⟨N.toArray⟩, .slice a5 (ads L).length cap5, .string ⟨#[]⟩, .int .i64 (i : Int), .int .i64 (Y : Int)] (0, 0) _ rfl ?_ Tryd.underlying28 rfl info29) rfl ?_
    all_goals first
      | exact (HK4.out.set6 _ _ _ _ _ _).blk
      | (refine ⟨.slice a5 (ads L).length cap5, ?_, ?_, ?_⟩
         · rw [HTK.out, HBG.out, HN.out]
           unfold tokV
           simp only
           rw [← HY.out, Int.natCast_add]
           rfl
         · rw [HTK.out, HBG.out]
           exact own_set6 (At.ownsRow_base HO4.out (by omega)) (by
             cases hv : (Value.slice a5 (ads L).length cap5).ownBlock with
             | none => exact Or.inl rfl
             | some q => have := (HO4.out.lt q hv).1; exact Or.inr (by simp; omega)) _ _ _ _ _ _
         · exact below_set6 HB4.out (Nat.le_refl _) _ _ _ _ _ _)
end Go.Proofs.YtndcmapifihgeaaDoor.Tg
