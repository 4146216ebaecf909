/- The program's cutTag, endTag, startTag and Read, walked. -/
import Derived.Test.YtndcmapifihgeaaGreatDoorTgUn
import Derived.Deep.RegionWith
import Derived.Lib.SmallJoins
import Derived.Laws.ResultCell
namespace Go.Proofs.YtndcmapifihgeaaGreatDoor.Tg
open Go.RowKit Go.Lib
open Ch (at0 nx nx_width nx_range at0_lt at0_drop enc_len Sl Sl.below Cells ret_str good nx_good ret_bool)
open Kl (blankN greatN letterZ letter_any)
open At (cellsA names ads Seen kept)

variable {l : List UInt8} {a : Option Addr} {cap R i : Nat} {W w w' : World}

/-- a block of cells -/
structure Bk (g : Nat) (cs : Array Value) (t : TypeId) (w : World) : Prop where
  blk : w.heap[g]? = some (.cells cs t (0, 0))
variable {g : Nat} {cs : Array Value} {t : TypeId}
theorem Bk.lt (h : Bk g cs t w) : g < w.heap.size := lt_of_heap h.blk
theorem Bk.kp (h : Bk g cs t w) (hk : Kp R w w') (hne : g ≠ R) : Bk g cs t w' := ⟨(hk.block g h.lt (by simp; exact hne)).trans h.blk⟩
theorem Bk.below (h : Bk g cs t w) (hb : Below w.heap.size w w') : Bk g cs t w' := ⟨(hb.block g h.lt).trans h.blk⟩
theorem Bk.grown {r : Option Nat} (h : Bk g cs t w) (hg : w.grownBy w' r) (hne : some g ≠ r) : Bk g cs t w' := ⟨(hg.block g h.lt hne).trans h.blk⟩
theorem Bk.alloc (h : Bk g cs t w) (o : Obj) : Bk g cs t (w.alloc o) := ⟨(Lib.alloc_old w o g h.lt).trans h.blk⟩
theorem bk_new (w : World) (cs : Array Value) (t : TypeId) : Bk w.heap.size cs t (w.alloc (.cells cs t)) := ⟨heap_alloc_new w _⟩
theorem Bk.cell (h : Bk g cs t w) (j : Nat) : w.cell? ⟨g, j, none⟩ = cs[j]? := Lib.cell_of_heap h.blk j
theorem Bk.fr (h : Bk g cs t w) (j : Nat) : w.frozen? ⟨g, j, none⟩ = false := Lib.frozen_of_heap h.blk j
theorem Bk.set (h : Bk g cs t w) (j : Nat) (v : Value) : Bk g (cs.setIfInBounds j v) t (w.setCell ⟨g, j, none⟩ v) := ⟨by simp [World.setCell, Array.getElem?_modify, h.blk]⟩
theorem Bk.drew (h : Bk g cs t w) : Bk g cs t w.drew := ⟨h.blk⟩

def zero29 : Array Value := #[.int .i64 0, .string ⟨#[]⟩, .slice none 0 0, .string ⟨#[]⟩, .int .i64 0, .int .i64 0]
theorem info29 : (Tryz.prog.info? 26).map (·.size) = some 6 := by kernel_rfl
/-- a token's cells -/
def tokV (t : Tk) (s : Value) : Value := .agg #[.int .i64 (t.kind : Int), .string ⟨t.name.toArray⟩, s, .string ⟨#[]⟩, .int .i64 t.frm, .int .i64 t.upto]

set_option maxHeartbeats 1000000 in
set_option maxRecDepth 100000 in
theorem cutTag_any (x : Int) (n : Nat) (w : World) :
    Calls Tryz.prog 77 #[.slice a n cap, .int .i64 x] w fun e w' => e = .returned (.agg #[.int .i64 0, .string ⟨#[]⟩, .slice none 0 0, .string ⟨#[]⟩, .int .i64 x, .int .i64 (n : Int)]) ∧ Below w.heap.size w w' := by
  go_enter Tryz.func77, Tryz.ntmps77
  go_wp2
  (try simp only [Exit.inBlock, Exit.then])
  refine bodyPost_ret (results_cell_row rfl _ _ w.heap.size 26 #[.int .i64 0, .string ⟨#[]⟩, .slice none 0 0, .string ⟨#[]⟩, .int .i64 x, .int .i64 (n : Int)] (0, 0) _ rfl ?_ Tryz.underlying26 rfl info29) rfl ?_
  · first
      | exact heap_alloc_new w _
      | exact (((((((bk_new w zero29 26).set 0 _).set 1 _).set 2 _).set 3 _).set 4 _).set 5 _).blk

  · exact ⟨rfl, by first | exact (Below.refl _ w).alloc (Nat.le_refl _) _⟩

theorem tn_at (l : List UInt8) (i k : Nat) (hk : bg (l.drop i) = k) (h0 : k ≠ 0) : encodeRune ((lowN (hd (l.drop (i + k))) : Nat) : Int) ++ lw pTag (l.drop (i + k + wd (l.drop (i + k)))) = tn (l.drop i) ∧
    i + k + wd (l.drop (i + k)) + ov pTag (l.drop (i + k + wd (l.drop (i + k)))) = i + tw (l.drop i) := by
  subst hk
  have hh := bg_head h0
  have e := tn_eq h0
  rw [List.drop_drop] at hh e
  rw [e.1, e.2, hd_ne hh.1, wd_ne hh.1, List.drop_drop]
  exact ⟨rfl, by omega⟩

theorem On.start (hs : Sl l a cap w) (hT : Tb w) (hlen : l.length ≤ 1000000) (o : Obj) (x : Int) (j : Nat) (hx : x = (j : Int)) (hj : j ≤ l.length) : On l a cap (w.heap.size + 1) j w ((w.alloc o).alloc (.cells #[.slice a l.length cap, .int .i64 x] 105)) := by
  subst hx
  refine ⟨hs, hT, hlen, by omega, ((Below.refl _ w).alloc (Nat.le_refl _) _).alloc (by simp) _, ?_, hj⟩
  have := heap_alloc_new (w.alloc o) (.cells #[.slice a l.length cap, .int .i64 (j : Int)] 105)
  simpa using this

/-- what startTag and endTag answer -/
def TagPost (l : List UInt8) (i : Nat) (w : World) (e : Ending) (w' : World) : Prop :=
  ∃ s, e = .returned (tokV (tkIn l i) s) ∧ w'.ownsRow w.heap.size 75 2 s (tkIn l i).attrs.length (cellsA (tkIn l i).attrs) ∧ Below w.heap.size w w'

theorem tkIn_none (h : tr (l.drop i) = none) : tkIn l i = ⟨0, [], [], (i : Int), (l.length : Int)⟩ := by unfold tkIn; rw [h]
theorem tkIn_some {L : List At.At} {e : Nat} (h : tr (l.drop i) = some (L, e)) : tkIn l i = ⟨bg (l.drop i) + 1, tn (l.drop i), if bg (l.drop i) = 1 then ads L else [], (i : Int), (i : Int) + (e : Int)⟩ := by unfold tkIn; rw [h]
theorem tr_at (l : List UInt8) (i : Nat) : tr (l.drop i) = (ats (l.drop (i + tw (l.drop i)))).map fun p => (p.1, tw (l.drop i) + p.2) := by unfold tr; rw [List.drop_drop]

theorem below_kp {w0 w1 : World} (hb : Below w0.heap.size w0 w) (hk : Kp R w w1) (hR : w0.heap.size ≤ R) : Below w0.heap.size w0 w1 := hb.grown hk hb.size (fun k e => by injection e with e; omega)

set_option maxHeartbeats 4000000 in
set_option maxRecDepth 100000 in
theorem endTag_any (hs : Sl l a cap w) (hT : Tb w) (hlen : l.length ≤ 100000) (hb : bg (l.drop i) = 2) (hi : i < l.length) :
    Calls Tryz.prog 53 #[.slice a l.length cap, .int .i64 (i : Int)] w (TagPost l i w) := by
  have htw := tw_le (m := l.drop i) (by omega)
  simp only [List.length_drop] at htw
  have hon := On.start hs hT (by omega) (.cells zero29 26) ((i : Int) + 2) (i + 2) rfl (by omega)
  have cN := name_on [47, 62] pTag cr2 pTag_st hon
  have e1 := tn_at l i 2 hb (by omega)
  rw [e1.1, e1.2] at cN
  have bT : Bk w.heap.size zero29 26 ((w.alloc (.cells zero29 26)).alloc (.cells #[.slice a l.length cap, .int .i64 ((i : Int) + 2)] 105)) := (bk_new w zero29 26).alloc _
  have hb0 : Below w.heap.size w ((w.alloc (.cells zero29 26)).alloc (.cells #[.slice a l.length cap, .int .i64 ((i : Int) + 2)] 105)) := hon.base
  have HB0 := Lib.hid hb0
  have HT := Lib.hid bT
  have HTR := Lib.hid (tr_at l i)
  have HBG := Lib.hid hb
  clear hon e1 hs hT hb bT hb0
  unfold zero29 at HB0 HT cN
  obtain ⟨N, hN⟩ : ∃ N, tn (l.drop i) = N := ⟨_, rfl⟩
  rw [hN] at cN
  have HN := Lib.hid hN
  clear hN
  go_enter Tryz.func53, Tryz.ntmps53
  go_wp2_with fail
  refine cN.mono ?_
  rintro e w1 ⟨rfl, h1, hk1⟩
  have cA := attrs_on h1
  have b1 := HT.out.kp hk1 (by omega)
  have HB1 := Lib.hid (below_kp HB0.out hk1 (by omega))
  clear cN h1 hk1
  go_wp2_with fail
  refine cA.mono ?_
  intro e w2 hp
  unfold AtsPost at hp
  cases ha : ats (l.drop (i + tw (l.drop i))) with
  | none =>
    rw [ha] at hp
    obtain ⟨rfl, hk2⟩ := hp
    have b2 := b1.kp hk2 (by omega)
    have HB2 := Lib.hid (below_kp HB1.out hk2 (by omega))
    have HTK := Lib.hid (tkIn_none (by rw [HTR.out, ha]; rfl))
    have cC := cutTag_any (a := a) (cap := cap) (i : Int) l.length w2
    clear ha hk2 cA b1
    go_wp2_with fail
    refine cC.mono ?_
    rintro e w3 ⟨rfl, hb3⟩
    have b3 := b2.below hb3
    have HB3 := Lib.hid (HB2.out.trans (hb3.mono HB2.out.size))
    have k0 := b3.cell 0
    have k1 := b3.cell 1
    have k2 := b3.cell 2
    have k3 := b3.cell 3
    have k4 := b3.cell 4
    have k5 := b3.cell 5
    have f0 := b3.fr 0
    have f1 := b3.fr 1
    have f2 := b3.fr 2
    have f3 := b3.fr 3
    have f4 := b3.fr 4
    have f5 := b3.fr 5
    have HBK := Lib.hid b3
    clear b2 b3 hb3 cC
    go_wp2
    (try simp only [Exit.inBlock, Exit.then])
    refine bodyPost_ret (results_cell_row rfl _ _ w.heap.size 26 #[.int .i64 0, .string ⟨#[]⟩, .slice none 0 0, .string ⟨#[]⟩, .int .i64 (i : Int), .int .i64 (l.length : Int)] (0, 0) _ rfl ?_ Tryz.underlying26 rfl info29) rfl ?_
    · exact ((((((HBK.out.set 0 _).set 1 _).set 2 _).set 3 _).set 4 _).set 5 _).blk
    · refine ⟨.slice none 0 0, ?_, ?_, ?_⟩
      · rw [HTK.out]; rfl
      · rw [HTK.out]; exact World.ownsRow_nil _ _ _ _
      · exact (((((HB3.out.setCell (p := ⟨w.heap.size, 0, none⟩) (Nat.le_refl _) _).setCell (p := ⟨w.heap.size, 1, none⟩) (Nat.le_refl _) _).setCell (p := ⟨w.heap.size, 2, none⟩) (Nat.le_refl _) _).setCell (p := ⟨w.heap.size, 3, none⟩) (Nat.le_refl _) _).setCell (p := ⟨w.heap.size, 4, none⟩) (Nat.le_refl _) _).setCell (p := ⟨w.heap.size, 5, none⟩) (Nat.le_refl _) _
  | some p =>
    obtain ⟨L, n⟩ := p
    rw [ha] at hp
    obtain ⟨v, rfl, hown, h2, hk2⟩ := hp
    have b2 := b1.kp hk2 (by omega)
    have HB2 := Lib.hid (below_kp HB1.out hk2 (by omega))
    have HTK := Lib.hid (tkIn_some (by rw [HTR.out, ha]; rfl))
    have d1 := h2.c1
    have hY : i + tw (l.drop i) + n = i + (tw (l.drop i) + n) := by omega
    rw [hY] at d1
    have k0 := b2.cell 0
    have k1 := b2.cell 1
    have k2 := b2.cell 2
    have k3 := b2.cell 3
    have k4 := b2.cell 4
    have k5 := b2.cell 5
    have f0 := b2.fr 0
    have f1 := b2.fr 1
    have f2 := b2.fr 2
    have f3 := b2.fr 3
    have f4 := b2.fr 4
    have f5 := b2.fr 5
    have HBK := Lib.hid b2
    clear ha hk2 cA b1 b2 h2 hown hY
    generalize tw (l.drop i) + n = E at d1 HTK
    obtain ⟨Y, hY⟩ : ∃ Y : Nat, i + E = Y := ⟨_, rfl⟩
    rw [hY] at d1
    go_wp2
    (try simp only [Exit.inBlock, Exit.then])
    refine bodyPost_ret (results_cell_row rfl _ _ w.heap.size 26 #[.int .i64 3, .string ⟨N.toArray⟩, .slice none 0 0, .string ⟨#[]⟩, .int .i64 (i : Int), .int .i64 (Y : Int)] (0, 0) _ rfl ?_ Tryz.underlying26 rfl info29) rfl ?_
    · exact ((((((HBK.out.set 0 _).set 1 _).set 2 _).set 3 _).set 4 _).set 5 _).blk
    · refine ⟨.slice none 0 0, ?_, ?_, ?_⟩
      · rw [HTK.out, HBG.out, HN.out]
        unfold tokV
        simp only
        rw [← hY, Int.natCast_add]
        rfl
      · rw [HTK.out, HBG.out]; exact World.ownsRow_nil _ _ _ _
      · exact (((((HB2.out.setCell (p := ⟨w.heap.size, 0, none⟩) (Nat.le_refl _) _).setCell (p := ⟨w.heap.size, 1, none⟩) (Nat.le_refl _) _).setCell (p := ⟨w.heap.size, 2, none⟩) (Nat.le_refl _) _).setCell (p := ⟨w.heap.size, 3, none⟩) (Nat.le_refl _) _).setCell (p := ⟨w.heap.size, 4, none⟩) (Nat.le_refl _) _).setCell (p := ⟨w.heap.size, 5, none⟩) (Nat.le_refl _) _
end Go.Proofs.YtndcmapifihgeaaGreatDoor.Tg

/- The program's startTag and Read, walked. -/
namespace Go.Proofs.YtndcmapifihgeaaGreatDoor.Tg
open Go.RowKit Go.Lib
open Ch (at0 nx nx_width nx_range at0_lt at0_drop enc_len Sl Sl.below Cells ret_str good nx_good ret_bool)
open Kl (blankN greatN letterZ letter_any)
open At (cellsA names ads Seen kept)

variable {l : List UInt8} {a : Option Addr} {cap R i : Nat} {W w w' : World}

/-- six cells of a token stored -/
theorem Bk.set6 {g : Nat} {t : TypeId} {x0 x1 x2 x3 x4 x5 : Value} (h : Bk g #[x0, x1, x2, x3, x4, x5] t w) (y0 y1 y2 y3 y4 y5 : Value) :
    Bk g #[y0, y1, y2, y3, y4, y5] t ((((((w.setCell ⟨g, 0, none⟩ y0).setCell ⟨g, 1, none⟩ y1).setCell ⟨g, 2, none⟩ y2).setCell ⟨g, 3, none⟩ y3).setCell ⟨g, 4, none⟩ y4).setCell ⟨g, 5, none⟩ y5) :=
  ⟨((((((h.set 0 y0).set 1 y1).set 2 y2).set 3 y3).set 4 y4).set 5 y5).blk⟩
theorem below_set6 {B g : Nat} (h : Below B w w') (hg : B ≤ g) (y0 y1 y2 y3 y4 y5 : Value) :
    Below B w ((((((w'.setCell ⟨g, 0, none⟩ y0).setCell ⟨g, 1, none⟩ y1).setCell ⟨g, 2, none⟩ y2).setCell ⟨g, 3, none⟩ y3).setCell ⟨g, 4, none⟩ y4).setCell ⟨g, 5, none⟩ y5) :=
  (((((h.setCell (p := ⟨g, 0, none⟩) hg _).setCell (p := ⟨g, 1, none⟩) hg _).setCell (p := ⟨g, 2, none⟩) hg _).setCell (p := ⟨g, 3, none⟩) hg _).setCell (p := ⟨g, 4, none⟩) hg _).setCell (p := ⟨g, 5, none⟩) hg _
theorem grown_set (w : World) (g j : Nat) (v : Value) : w.grownBy (w.setCell ⟨g, j, none⟩ v) (some g) := ⟨rfl, rfl, rfl, by simp, fun k _ hne => Below.heap_setCell _ _ _ _ (fun e => hne (by simp [e]))⟩
theorem own_set6 {B g : Nat} {e : TypeId} {size : Nat} {v : Value} {n : Nat} {xs : List Value} (h : w.ownsRow B e size v n xs) (hne : v.ownBlock = none ∨ v.ownBlock ≠ some g) (y0 y1 y2 y3 y4 y5 : Value) :
    ((((((w.setCell ⟨g, 0, none⟩ y0).setCell ⟨g, 1, none⟩ y1).setCell ⟨g, 2, none⟩ y2).setCell ⟨g, 3, none⟩ y3).setCell ⟨g, 4, none⟩ y4).setCell ⟨g, 5, none⟩ y5).ownsRow B e size v n xs :=
  (((((h.kept (grown_set _ g 0 _) hne).kept (grown_set _ g 1 _) hne).kept (grown_set _ g 2 _) hne).kept (grown_set _ g 3 _) hne).kept (grown_set _ g 4 _) hne).kept (grown_set _ g 5 _) hne

/-- what a block of six cells says to the walk -/
structure Six (g : Nat) (x0 x1 x2 x3 x4 x5 : Value) (w : World) : Prop where
  k0 : w.cell? ⟨g, 0, none⟩ = some x0
  k1 : w.cell? ⟨g, 1, none⟩ = some x1
  k2 : w.cell? ⟨g, 2, none⟩ = some x2
  k3 : w.cell? ⟨g, 3, none⟩ = some x3
  k4 : w.cell? ⟨g, 4, none⟩ = some x4
  k5 : w.cell? ⟨g, 5, none⟩ = some x5
  f0 : w.frozen? ⟨g, 0, none⟩ = false
  f1 : w.frozen? ⟨g, 1, none⟩ = false
  f2 : w.frozen? ⟨g, 2, none⟩ = false
  f3 : w.frozen? ⟨g, 3, none⟩ = false
  f4 : w.frozen? ⟨g, 4, none⟩ = false
  f5 : w.frozen? ⟨g, 5, none⟩ = false
theorem Bk.six {g : Nat} {t : TypeId} {x0 x1 x2 x3 x4 x5 : Value} (h : Bk g #[x0, x1, x2, x3, x4, x5] t w) : Six g x0 x1 x2 x3 x4 x5 w :=
  ⟨h.cell 0, h.cell 1, h.cell 2, h.cell 3, h.cell 4, h.cell 5, h.fr 0, h.fr 1, h.fr 2, h.fr 3, h.fr 4, h.fr 5⟩

set_option maxHeartbeats 8000000 in
set_option maxRecDepth 100000 in
theorem startTag_any (hs : Sl l a cap w) (hT : Tb w) (hlen : l.length ≤ 100000 - 1) (hb : bg (l.drop i) = 1) (hi : i < l.length) :
    Calls Tryz.prog 54 #[.slice a l.length cap, .int .i64 (i : Int)] w (TagPost l i w) := by
  have htw := tw_le (m := l.drop i) (by omega)
  simp only [List.length_drop] at htw
  have hon := On.start hs hT (by omega) (.cells zero29 26) ((i : Int) + 1) (i + 1) rfl (by omega)
  have cN := name_on [47, 62] pTag cr2 pTag_st hon
  have e1 := tn_at l i 1 hb (by omega)
  rw [e1.1, e1.2] at cN
  have bT : Bk w.heap.size zero29 26 ((w.alloc (.cells zero29 26)).alloc (.cells #[.slice a l.length cap, .int .i64 ((i : Int) + 1)] 105)) := (bk_new w zero29 26).alloc _
  have hb0 : Below w.heap.size w ((w.alloc (.cells zero29 26)).alloc (.cells #[.slice a l.length cap, .int .i64 ((i : Int) + 1)] 105)) := hon.base
  have HB0 := Lib.hid hb0
  have HT := Lib.hid bT
  have HTR := Lib.hid (tr_at l i)
  have HBG := Lib.hid hb
  clear hon e1 hs hT hb bT hb0
  unfold zero29 at HB0 HT cN
  obtain ⟨N, hN⟩ : ∃ N, tn (l.drop i) = N := ⟨_, rfl⟩
  rw [hN] at cN
  have HN := Lib.hid hN
  clear hN
  go_enter Tryz.func54, Tryz.ntmps54
  go_wp2_with fail
  refine cN.mono ?_
  rintro e w1 ⟨rfl, h1, hk1⟩
  have cA := attrs_on h1
  have b1 := HT.out.kp hk1 (by omega)
  have HB1 := Lib.hid (below_kp HB0.out hk1 (by omega))
  clear cN h1 hk1
  go_wp2_with fail
  refine cA.mono ?_
  intro e w2 hp
  unfold AtsPost at hp
  cases ha : ats (l.drop (i + tw (l.drop i))) with
  | none =>
    rw [ha] at hp
    obtain ⟨rfl, hk2⟩ := hp
    have b2 := b1.kp hk2 (by omega)
    have HB2 := Lib.hid (below_kp HB1.out hk2 (by omega))
    have HTK := Lib.hid (tkIn_none (by rw [HTR.out, ha]; rfl))
    have cC := cutTag_any (a := a) (cap := cap) (i : Int) l.length w2
    clear ha hk2 cA b1
    go_wp2_with fail
    refine cC.mono ?_
    rintro e w3 ⟨rfl, hb3⟩
    have b3 := b2.below hb3
    have HB3 := Lib.hid (HB2.out.trans (hb3.mono HB2.out.size))
    obtain ⟨k0, k1, k2, k3, k4, k5, f0, f1, f2, f3, f4, f5⟩ := b3.six
    have HBK := Lib.hid b3
    clear b2 b3 hb3 cC
    go_wp2
    (try simp only [Exit.inBlock, Exit.then])
    refine bodyPost_ret (results_cell_row rfl _ _ w.heap.size 26 #[.int .i64 0, .string ⟨#[]⟩, .slice none 0 0, .string ⟨#[]⟩, .int .i64 (i : Int), .int .i64 (l.length : Int)] (0, 0) _ rfl ?_ Tryz.underlying26 rfl info29) rfl ?_
    · exact (HBK.out.set6 _ _ _ _ _ _).blk
    · refine ⟨.slice none 0 0, ?_, ?_, ?_⟩
      · rw [HTK.out]; rfl
      · rw [HTK.out]; exact World.ownsRow_nil _ _ _ _
      · exact below_set6 HB3.out (Nat.le_refl _) _ _ _ _ _ _
  | some p =>
    obtain ⟨L, n⟩ := p
    rw [ha] at hp
    obtain ⟨v, rfl, hown, h2, hk2⟩ := hp
    have hbd := ats_bd _ _ (Nat.le_refl _) _ _ ha
    simp only [List.length_drop] at hbd
    have b2 := b1.kp hk2 (by omega)
    have hbw2 := below_kp HB1.out hk2 (by omega)
    have HTK := Lib.hid (tkIn_some (by rw [HTR.out, ha]; rfl))
    have hz2 := hbw2.size
    have hz1 : w.heap.size ≤ w1.heap.size := HB1.out.size
    have d1 := h2.c1
    have hY : i + tw (l.drop i) + n = i + (tw (l.drop i) + n) := by omega
    rw [hY] at d1
    have hR2 := h2.lt
    have hblkR := h2.blk
    rw [hY] at hblkR
    obtain ⟨E, hE⟩ : ∃ E, tw (l.drop i) + n = E := ⟨_, rfl⟩
    rw [hE] at d1 HTK hblkR
    obtain ⟨Y, hYY⟩ : ∃ Y : Nat, i + E = Y := ⟨_, rfl⟩
    rw [hYY] at d1 hblkR
    have HY := Lib.hid hYY
    -- what Keep does, in whatever world that has the same memory
    have hKX : ∀ X : World, X.heap = ((w2.alloc (.map #[] 0)).alloc (.cells #[.map (some w2.heap.size)] 129)).heap → X.os = w2.os → X.tape = w2.tape → X.output = w2.output →
        Calls Tryz.prog 78 #[v, .func (.func 108) #[] #[.pointer (some ⟨w2.heap.size + 1, 0, none⟩)]] X fun e w4 => ∃ v', e = .returned v' ∧ w4.ownsRow (w.heap.size + 1) 75 2 v' (ads L).length (cellsA (ads L)) ∧ Below w.heap.size w w4 ∧ Bk w.heap.size #[.int .i64 0, .string ⟨#[]⟩, .slice none 0 0, .string ⟨#[]⟩, .int .i64 0, .int .i64 0] 26 w4 ∧ w4.cell? ⟨w.heap.size + 1, 1, none⟩ = some (.int .i64 (Y : Int)) := by
      intro X hX ho ht hp
      have hU : w2.grownBy ((w2.alloc (.map #[] 0)).alloc (.cells #[.map (some w2.heap.size)] 129)) none := World.grownBy.trans (World.grownBy_alloc _ _ _) (World.grownBy_alloc _ _ _)
      have hUX : w2.grownBy X none := ⟨ho, ht, hp, by rw [hX]; exact hU.size, fun k hk hne => by rw [hX]; exact hU.block k hk hne⟩
      have hXs : X.heap.size = w2.heap.size + 2 := by rw [hX]; simp
      have hownX : X.ownsRow w1.heap.size 75 2 v L.length (cellsA L) := hown.kept hUX (by cases v.ownBlock <;> simp)
      have hmX : X.heap[w2.heap.size]? = some (.map #[] 0) := by
        rw [hX, Lib.alloc_old (w2.alloc (.map #[] 0)) _ w2.heap.size (by simp)]
        exact heap_alloc_new w2 _
      have hgX : X.heap[w2.heap.size + 1]? = some (.cells #[.map (some w2.heap.size)] 129 (0, 0)) := by
        have := heap_alloc_new (w2.alloc (.map #[] 0)) (.cells #[.map (some w2.heap.size)] 129)
        rw [hX]
        simpa using this
      have hSX : Seen [] w2.heap.size 0 X := seen_block (At.seen_made w2) (by rw [hmX]; exact (heap_alloc_new w2 _).symm)
      refine (keepU_any L v w1.heap.size w2.heap.size (w2.heap.size + 1) X hownX (by omega) (fun x hx => by have := hbd.2.2 x hx; omega) ?_ hSX hgX).mono ?_
      · cases hv : v.ownBlock with
        | none => exact Or.inl rfl
        | some q =>
          right
          have := (hown.lt q hv).2
          simp
          omega
      · rintro e w4 ⟨v', rfl, ho4, hg4⟩
        refine ⟨v', rfl, At.ownsRow_base ho4 (by omega), ?_, ?_, ?_⟩
        · have hbX : Below w.heap.size w X := hbw2.grown hUX hz2 (fun k hk => by cases hk)
          exact hbX.grown hg4 hbX.size (fun k hk => by injection hk with hk; omega)
        · exact (b2.grown hUX (by simp)).grown hg4 (by simp; omega)
        · have : w4.heap[w.heap.size + 1]? = some (.cells #[.slice a l.length cap, .int .i64 (Y : Int)] 105 (0, 0)) := by
            rw [hg4.block _ (by omega) (by simp; omega), hUX.block _ hR2 (by simp)]
            exact hblkR
          rw [Lib.cell_of_heap this]
          rfl
    have HKX := Lib.hid (hKX ((w2.alloc (.map #[] 0)).alloc (.cells #[.map (some w2.heap.size)] 129)).drew rfl rfl rfl rfl)
    have dU : ((w2.alloc (.map #[] 0)).alloc (.cells #[.map (some w2.heap.size)] 129)).cell? ⟨w.heap.size + 1, 1, none⟩ = some (.int .i64 (Y : Int)) := by
      have : ((w2.alloc (.map #[] 0)).alloc (.cells #[.map (some w2.heap.size)] 129)).heap[w.heap.size + 1]? = some (.cells #[.slice a l.length cap, .int .i64 (Y : Int)] 105 (0, 0)) := by
        rw [Lib.alloc_old _ _ _ (by simp; omega), Lib.alloc_old _ _ _ hR2]
        exact hblkR
      rw [Lib.cell_of_heap this]
      rfl
    clear ha hk2 cA b1 b2 h2 hown hY hKX hblkR hbw2 hE hYY
    go_wp2_with fail
    go_region_with (first
      | (go_at_call 79; refine (unseen_any _).mono ?_; rintro e w3 ⟨rfl, rfl⟩)
      | (go_at_call 78; refine HKX.out.mono ?_; rintro e w4 ⟨v', rfl, ho4, hb4, bk4, dd4⟩; obtain ⟨a5, cap5, rfl, -⟩ := At.sl_own ho4; obtain ⟨k0, k1, k2, k3, k4, k5, f0, f1, f2, f3, f4, f5⟩ := bk4.six; have HO4 := Lib.hid ho4; have HB4 := Lib.hid hb4; have HK4 := Lib.hid bk4; clear ho4 hb4 bk4))
    all_goals (try go_wp2)
    all_goals
      (try simp only [Exit.inBlock, Exit.then])
      refine bodyPost_ret (results_cell_row rfl _ _ w.heap.size 26 #[.int .i64 2, .string ⟨N.toArray⟩, .slice a5 (ads L).length cap5, .string ⟨#[]⟩, .int .i64 (i : Int), .int .i64 (Y : Int)] (0, 0) _ rfl ?_ Tryz.underlying26 rfl info29) rfl ?_
    all_goals first
      | exact (HK4.out.set6 _ _ _ _ _ _).blk
      | (refine ⟨.slice a5 (ads L).length cap5, ?_, ?_, ?_⟩
         · rw [HTK.out, HBG.out, HN.out]
           unfold tokV
           simp only
           rw [← HY.out, Int.natCast_add]
           rfl
         · rw [HTK.out, HBG.out]
           exact own_set6 (At.ownsRow_base HO4.out (by omega)) (by
             cases hv : (Value.slice a5 (ads L).length cap5).ownBlock with
             | none => exact Or.inl rfl
             | some q => have := (HO4.out.lt q hv).1; exact Or.inr (by simp; omega)) _ _ _ _ _ _
         · exact below_set6 HB4.out (Nat.le_refl _) _ _ _ _ _ _)
end Go.Proofs.YtndcmapifihgeaaGreatDoor.Tg

/- The program's Read, the law's To and the reference's Same, walked. -/
namespace Go.Proofs.YtndcmapifihgeaaGreatDoor.Tg
open Go.RowKit Go.Lib
open Ch (at0 nx nx_width nx_range at0_lt at0_drop enc_len Sl Sl.below Cells ret_str good nx_good ret_bool)
open At (cellsA ads)

variable {l : List UInt8} {a : Option Addr} {cap R i : Nat} {W w w' : World}

theorem results_row_tmp {P : Program} {fn : Func} {p u : Tmp} {ty : TypeId} (h : fn.results = #[.cell p ty, .tmp u]) (tmps : Array Value) (w : World) (g : Nat) (t : TypeId) (cs : Array Value) (fr : Nat × Nat) (d : TypeDesc)
    (hp : tmps.getD p undef = .pointer (some ⟨g, 0, none⟩)) (hg : w.heap[g]? = some (.cells cs t fr))
    (hu : P.underlying ty = some d) (hd : (match d with | .struct _ | .array _ _ => true | _ => false) = true) (hi : (P.info? ty).map (·.size) = some cs.size) :
    (results fn tmps).run P w = .ok (.tuple #[.agg cs, tmps.getD u undef]) w := by
  rw [results_cell_tmp h]
  have e1 : (asAddr (tmps.getD p undef)).run P w = .ok ⟨g, 0, none⟩ w := by rw [hp]; simp [asAddr]
  rw [e1]
  simp only [Result.andThen]
  rw [run_loadVar_row w g t ty cs fr d hg hu hd hi]

/-- what Read answers -/
def ReadPost (l : List UInt8) (x : Int) (w : World) (e : Ending) (w' : World) : Prop :=
  ∃ s, e = .returned (.tuple #[tokV (tkAt l x) s, .bool (decide (bgAt l x ≠ 0))]) ∧ w'.ownsRow w.heap.size 75 2 s (tkAt l x).attrs.length (cellsA (tkAt l x).attrs) ∧ Below w.heap.size w w'

set_option maxHeartbeats 4000000 in
set_option maxRecDepth 100000 in
theorem read_on (x : Int) (hs : Sl l a cap w) (hT : Tb w) (hlen : l.length ≤ 100000 - 1) :
    Calls Tryz.prog 30 #[.slice a l.length cap, .int .i64 x] w (ReadPost l x w) := by
  have hbA : Below w.heap.size w (w.alloc (.cells zero29 26)) := (Below.refl _ w).alloc (Nat.le_refl _) _
  have cB := begins_any x (w.alloc (.cells zero29 26)) (hs.below hbA) (by omega)
  have hb2 : bgAt l x ≤ 2 := by unfold bgAt; split; exact bg_le _; omega
  have bT := bk_new w zero29 26
  by_cases h0 : bgAt l x = 0
  · rw [h0] at cB
    have HTK := Lib.hid (show tkAt l x = ⟨0, [], [], 0, 0⟩ by unfold tkAt; rw [if_pos h0])
    have H0 := Lib.hid h0
    unfold zero29 at cB bT
    obtain ⟨k0, k1, k2, k3, k4, k5, f0, f1, f2, f3, f4, f5⟩ := bT.six
    have HBT := Lib.hid bT
    clear h0 hbA bT
    go_enter Tryz.func30, Tryz.ntmps30
    go_wp2_with fail
    refine cB.mono ?_
    rintro e w1 ⟨rfl, rfl⟩
    go_wp2
    (try simp only [Exit.inBlock, Exit.then])
    refine bodyPost_ret (results_row_tmp rfl _ _ w.heap.size 26 #[.int .i64 0, .string ⟨#[]⟩, .slice none 0 0, .string ⟨#[]⟩, .int .i64 0, .int .i64 0] (0, 0) _ rfl ?_ Tryz.underlying26 rfl info29) rfl ?_
    · first | exact HBT.out.blk | exact (HBT.out.set6 _ _ _ _ _ _).blk
    · refine ⟨.slice none 0 0, ?_, ?_, ?_⟩
      · rw [HTK.out, H0.out]; rfl
      · rw [HTK.out]; exact World.ownsRow_nil _ _ _ _
      · first | exact (Below.refl _ w).alloc (Nat.le_refl _) _ | exact below_set6 ((Below.refl _ w).alloc (Nat.le_refl _) _) (Nat.le_refl _) _ _ _ _ _ _
  · have hin : 0 ≤ x ∧ x < (l.length : Int) := by
      unfold bgAt at h0
      split at h0
      · assumption
      · exact absurd rfl h0
    obtain ⟨i, rfl⟩ : ∃ i : Nat, x = i := ⟨x.toNat, by omega⟩
    have hbg : bgAt l (i : Int) = bg (l.drop i) := if_pos hin
    have HTK := Lib.hid (show tkAt l (i : Int) = tkIn l i by unfold tkAt; rw [if_neg h0]; rfl)
    have hd1 : decide (bgAt l (i : Int) ≠ 0) = true := decide_eq_true h0
    have HD1 := Lib.hid hd1
    rcases (by omega : bgAt l (i : Int) = 1 ∨ bgAt l (i : Int) = 2) with h1 | h1
    · rw [h1] at cB
      have cS := startTag_any (hs.below hbA) (hT.below hbA) hlen (by rw [← hbg]; exact h1) (by omega)
      have HBA := Lib.hid hbA
      have HBT := Lib.hid bT
      clear hbA bT h0 hd1 hbg h1
      unfold zero29 at cB cS HBA HBT
      go_enter Tryz.func30, Tryz.ntmps30
      go_wp2_with fail
      refine cB.mono ?_
      rintro e w1 ⟨rfl, rfl⟩
      go_wp2_with fail
      refine cS.mono ?_
      rintro e w2 ⟨s, rfl, ho, hb⟩
      obtain ⟨a5, cap5, rfl, -⟩ := At.sl_own ho
      have b2 := HBT.out.below hb
      obtain ⟨k0, k1, k2, k3, k4, k5, f0, f1, f2, f3, f4, f5⟩ := b2.six
      have HB2 := Lib.hid b2
      have HBW := Lib.hid (HBA.out.trans (hb.mono HBA.out.size))
      have HO := Lib.hid ho
      generalize tkIn l i = T at HTK HO ⊢
      obtain ⟨tk, tnm, tat, tfr, tup⟩ := T
      unfold tokV
      simp only at HO ⊢
      clear hb b2 ho cB cS
      go_wp2
      (try simp only [Exit.inBlock, Exit.then])
      refine bodyPost_ret (results_row_tmp rfl _ _ w.heap.size 26 #[.int .i64 (tk : Int), .string ⟨tnm.toArray⟩, .slice a5 tat.length cap5, .string ⟨#[]⟩, .int .i64 tfr, .int .i64 tup] (0, 0) _ rfl ?_ Tryz.underlying26 rfl info29) rfl ?_
      · exact (HB2.out.set6 _ _ _ _ _ _).blk
      · refine ⟨.slice a5 tat.length cap5, ?_, ?_, ?_⟩
        · rw [HTK.out, HD1.out]; rfl
        · rw [HTK.out]
          exact own_set6 (At.ownsRow_base HO.out (by simp)) (by
             cases hv : (Value.slice a5 tat.length cap5).ownBlock with
             | none => exact Or.inl rfl
             | some q => have := (HO.out.lt q hv).1; exact Or.inr (by simp at this ⊢; omega)) _ _ _ _ _ _
        · exact below_set6 HBW.out (Nat.le_refl _) _ _ _ _ _ _
    · rw [h1] at cB
      have cS := endTag_any (hs.below hbA) (hT.below hbA) (by omega) (by rw [← hbg]; exact h1) (by omega)
      have HBA := Lib.hid hbA
      have HBT := Lib.hid bT
      clear hbA bT h0 hd1 hbg h1
      unfold zero29 at cB cS HBA HBT
      go_enter Tryz.func30, Tryz.ntmps30
      go_wp2_with fail
      refine cB.mono ?_
      rintro e w1 ⟨rfl, rfl⟩
      go_wp2_with fail
      refine cS.mono ?_
      rintro e w2 ⟨s, rfl, ho, hb⟩
      obtain ⟨a5, cap5, rfl, -⟩ := At.sl_own ho
      have b2 := HBT.out.below hb
      obtain ⟨k0, k1, k2, k3, k4, k5, f0, f1, f2, f3, f4, f5⟩ := b2.six
      have HB2 := Lib.hid b2
      have HBW := Lib.hid (HBA.out.trans (hb.mono HBA.out.size))
      have HO := Lib.hid ho
      generalize tkIn l i = T at HTK HO ⊢
      obtain ⟨tk, tnm, tat, tfr, tup⟩ := T
      unfold tokV
      simp only at HO ⊢
      clear hb b2 ho cB cS
      go_wp2
      (try simp only [Exit.inBlock, Exit.then])
      refine bodyPost_ret (results_row_tmp rfl _ _ w.heap.size 26 #[.int .i64 (tk : Int), .string ⟨tnm.toArray⟩, .slice a5 tat.length cap5, .string ⟨#[]⟩, .int .i64 tfr, .int .i64 tup] (0, 0) _ rfl ?_ Tryz.underlying26 rfl info29) rfl ?_
      · exact (HB2.out.set6 _ _ _ _ _ _).blk
      · refine ⟨.slice a5 tat.length cap5, ?_, ?_, ?_⟩
        · rw [HTK.out, HD1.out]; rfl
        · rw [HTK.out]
          exact own_set6 (At.ownsRow_base HO.out (by simp)) (by
             cases hv : (Value.slice a5 tat.length cap5).ownBlock with
             | none => exact Or.inl rfl
             | some q => have := (HO.out.lt q hv).1; exact Or.inr (by simp at this ⊢; omega)) _ _ _ _ _ _
        · exact below_set6 HBW.out (Nat.le_refl _) _ _ _ _ _ _

def zero34 : Array Value := #[.int .i64 0, .string ⟨#[]⟩, .slice none 0 0, .string ⟨#[]⟩, .int .i64 0, .int .i64 0]
theorem info34 : (Tryz.prog.info? 31).map (·.size) = some 6 := by kernel_rfl

set_option maxHeartbeats 4000000 in
set_option maxRecDepth 100000 in
/-- the same token, with lists that read alike: Same says yes -/
theorem same_tok (k : Int) (n : At.Str) (L : List At.At) (f u : Int) (a5 : Option Addr) (cap5 : Nat) (a6 : Option Addr) (cap6 : Nat) (w : World) (hs : At.Sl L a5 cap5 w) (hs2 : At.Sl L a6 cap6 w) (hl : L.length ≤ 100000) :
    Calls Tryz.prog 8 #[.agg #[.int .i64 k, .string ⟨n.toArray⟩, .slice a5 L.length cap5, .string ⟨#[]⟩, .int .i64 f, .int .i64 u], .agg #[.int .i64 k, .string ⟨n.toArray⟩, .slice a6 L.length cap6, .string ⟨#[]⟩, .int .i64 f, .int .i64 u]] w fun e w' => e = .returned (.bool true) ∧ Below w.heap.size w w' := by
  obtain ⟨W2, hW2⟩ : ∃ W2, (w.alloc (.cells #[.int .i64 k, .string ⟨n.toArray⟩, .slice a5 L.length cap5, .string ⟨#[]⟩, .int .i64 f, .int .i64 u] 31)).alloc (.cells #[.int .i64 k, .string ⟨n.toArray⟩, .slice a6 L.length cap6, .string ⟨#[]⟩, .int .i64 f, .int .i64 u] 31) = W2 := ⟨_, rfl⟩
  have hb2 : Below w.heap.size w W2 := by rw [← hW2]; exact ((Below.refl _ w).alloc (Nat.le_refl _) _).alloc (by simp) _
  have b1 : Bk w.heap.size #[.int .i64 k, .string ⟨n.toArray⟩, .slice a5 L.length cap5, .string ⟨#[]⟩, .int .i64 f, .int .i64 u] 31 W2 := by rw [← hW2]; exact (bk_new w _ 31).alloc _
  have b2 : Bk (w.heap.size + 1) #[.int .i64 k, .string ⟨n.toArray⟩, .slice a6 L.length cap6, .string ⟨#[]⟩, .int .i64 f, .int .i64 u] 31 W2 := by
    rw [← hW2]
    have := bk_new (w.alloc (.cells #[.int .i64 k, .string ⟨n.toArray⟩, .slice a5 L.length cap5, .string ⟨#[]⟩, .int .i64 f, .int .i64 u] 31)) #[.int .i64 k, .string ⟨n.toArray⟩, .slice a6 L.length cap6, .string ⟨#[]⟩, .int .i64 f, .int .i64 u] 31
    simpa using this
  have cA := At.alike_any L a5 cap5 L a6 cap6 W2 (hs.below hb2) (hs2.below hb2) (by omega)
  rw [show At.alike L L = true from decide_eq_true rfl] at cA
  obtain ⟨k0, k1, k2, k3, k4, k5, -, -, -, -, -, -⟩ := b1.six
  obtain ⟨q0, q1, q2, q3, q4, q5, -, -, -, -, -, -⟩ := b2.six
  have HB := Lib.hid hb2
  clear hb2 b1 b2 hs hs2
  go_enter Tryz.func8, Tryz.ntmps8
  go_wp2_with fail
  refine cA.mono ?_
  rintro e w3 ⟨rfl, hb3⟩
  go_wp2
  go_ret
  exact ⟨rfl, HB.out.trans (hb3.mono HB.out.size)⟩
end Go.Proofs.YtndcmapifihgeaaGreatDoor.Tg

/- The law's To, walked. -/
namespace Go.Proofs.YtndcmapifihgeaaGreatDoor.Tg
open Go.RowKit Go.Lib
open Ch (at0 nx nx_width nx_range at0_lt at0_drop enc_len Sl Sl.below Cells ret_str good nx_good ret_bool)
open At (cellsA ads)

variable {l : List UInt8} {a : Option Addr} {cap R i : Nat} {W w w' : World}

theorem cell_set6 {g g' j : Nat} (hne : g' ≠ g) {y0 y1 y2 y3 y4 y5 : Value} :
    ((((((w.setCell ⟨g, 0, none⟩ y0).setCell ⟨g, 1, none⟩ y1).setCell ⟨g, 2, none⟩ y2).setCell ⟨g, 3, none⟩ y3).setCell ⟨g, 4, none⟩ y4).setCell ⟨g, 5, none⟩ y5).cell? ⟨g', j, none⟩ = w.cell? ⟨g', j, none⟩ := by
  have step : ∀ (w : World) (i : Nat) (y : Value), (w.setCell ⟨g, i, none⟩ y).cell? ⟨g', j, none⟩ = w.cell? ⟨g', j, none⟩ := fun w i y => World.cell?_of_block (Below.heap_setCell _ _ _ _ hne)
  rw [step, step, step, step, step, step]

set_option maxHeartbeats 4000000 in
set_option maxRecDepth 100000 in
theorem to_tok (k : Int) (n : At.Str) (L : List At.At) (f u : Int) (a5 : Option Addr) (cap5 : Nat) (w : World) (hs : At.Sl L a5 cap5 w) (hl : L.length ≤ 100000) :
    Calls Tryz.prog 9 #[.agg #[.int .i64 k, .string ⟨n.toArray⟩, .slice a5 L.length cap5, .string ⟨#[]⟩, .int .i64 f, .int .i64 u]] w fun e w' => ∃ a6 cap6, e = .returned (.agg #[.int .i64 k, .string ⟨n.toArray⟩, .slice a6 L.length cap6, .string ⟨#[]⟩, .int .i64 f, .int .i64 u]) ∧ w'.ownsRow w.heap.size 69 2 (.slice a6 L.length cap6) L.length (cellsA L) ∧ Below w.heap.size w w' := by
  obtain ⟨W2, hW2⟩ : ∃ W2, (w.alloc (.cells #[.int .i64 k, .string ⟨n.toArray⟩, .slice a5 L.length cap5, .string ⟨#[]⟩, .int .i64 f, .int .i64 u] 26)).alloc (.cells zero34 31) = W2 := ⟨_, rfl⟩
  have hb2 : Below w.heap.size w W2 := by rw [← hW2]; exact ((Below.refl _ w).alloc (Nat.le_refl _) _).alloc (by simp) _
  have b1 : Bk w.heap.size #[.int .i64 k, .string ⟨n.toArray⟩, .slice a5 L.length cap5, .string ⟨#[]⟩, .int .i64 f, .int .i64 u] 26 W2 := by rw [← hW2]; exact (bk_new w _ 26).alloc _
  have b2 : Bk (w.heap.size + 1) zero34 31 W2 := by
    rw [← hW2]
    have := bk_new (w.alloc (.cells #[.int .i64 k, .string ⟨n.toArray⟩, .slice a5 L.length cap5, .string ⟨#[]⟩, .int .i64 f, .int .i64 u] 26)) zero34 31
    simpa using this
  have hz : W2.heap.size = w.heap.size + 2 := by rw [← hW2]; simp
  have cT := At.to_any L a5 cap5 W2.drew ((hs.below hb2).below ⟨rfl, rfl, rfl, Nat.le_refl _, fun _ _ => rfl⟩) hl
  obtain ⟨k0, k1, k2, k3, k4, k5, f0, f1, f2, f3, f4, f5⟩ := b1.six
  have HZ := Lib.hid hz
  have HB := Lib.hid hb2
  have H1 := Lib.hid b1
  have H2 := Lib.hid b2
  clear hz hb2 b2 f0 f1 f2 f3 f4 f5
  unfold zero34 at hW2 H2
  have hgg : w.heap.size ≠ w.heap.size + 1 := by omega
  have d0 : W2.drew.cell? ⟨w.heap.size, 0, none⟩ = some (.int .i64 k) := k0
  have d1 : W2.drew.cell? ⟨w.heap.size, 1, none⟩ = some (.string ⟨n.toArray⟩) := k1
  have d2 : W2.drew.cell? ⟨w.heap.size, 2, none⟩ = some (.slice a5 L.length cap5) := k2
  have d3 : W2.drew.cell? ⟨w.heap.size, 3, none⟩ = some (.string ⟨#[]⟩) := k3
  have d4 : W2.drew.cell? ⟨w.heap.size, 4, none⟩ = some (.int .i64 f) := k4
  have d5 : W2.drew.cell? ⟨w.heap.size, 5, none⟩ = some (.int .i64 u) := k5
  go_enter Tryz.func9, Tryz.ntmps9
  go_wp2_with fail
  go_region_held3 (fun w' => w'.cell? ⟨w.heap.size, 0, none⟩ = some (.int .i64 k) ∧ w'.cell? ⟨w.heap.size, 1, none⟩ = some (.string ⟨n.toArray⟩) ∧ w'.cell? ⟨w.heap.size, 2, none⟩ = some (.slice a5 L.length cap5) ∧ w'.cell? ⟨w.heap.size, 3, none⟩ = some (.string ⟨#[]⟩) ∧ w'.cell? ⟨w.heap.size, 4, none⟩ = some (.int .i64 f) ∧ w'.cell? ⟨w.heap.size, 5, none⟩ = some (.int .i64 u)) (first | with_reducible exact ⟨q0, q1, q2, q3, q4, q5⟩ | with_reducible exact ⟨k0, k1, k2, k3, k4, k5⟩ | with_reducible exact ⟨d0, d1, d2, d3, d4, d5⟩ | with_reducible exact ⟨(cell_set6 hgg).trans q0, (cell_set6 hgg).trans q1, (cell_set6 hgg).trans q2, (cell_set6 hgg).trans q3, (cell_set6 hgg).trans q4, (cell_set6 hgg).trans q5⟩)
    (first
      | (go_at_call 24; refine cT.mono ?_; rintro e w3 ⟨s, rfl, ho3, hb3⟩; obtain ⟨a6, cap6, rfl, -⟩ := At.sl_own ho3; have hb3 := below_of_drew hb3; obtain ⟨q0, q1, q2, q3, q4, q5, -, -, -, -, -, -⟩ := (H1.out.below hb3).six; obtain ⟨r0, r1, r2, r3, r4, r5, g0, g1, g2, g3, g4, g5⟩ := (H2.out.below hb3).six; have HO3 := Lib.hid ho3; have HB3 := Lib.hid hb3; clear ho3 hb3))
  go_wp2
  (try simp only [Exit.inBlock, Exit.then])
  refine bodyPost_ret (results_cell_row rfl _ _ (w.heap.size + 1) 31 #[.int .i64 k, .string ⟨n.toArray⟩, .slice a6 L.length cap6, .string ⟨#[]⟩, .int .i64 f, .int .i64 u] (0, 0) _ rfl ?_ Tryz.underlying31 rfl info34) rfl ?_
  · exact ((H2.out.below HB3.out).set6 _ _ _ _ _ _).blk
  · refine ⟨a6, cap6, rfl, ?_, ?_⟩
    · exact own_set6 (At.ownsRow_base HO3.out (by have := HZ.out; simp at *; omega)) (by
        cases hv : (Value.slice a6 L.length cap6).ownBlock with
        | none => exact Or.inl rfl
        | some q => have := (HO3.out.lt q hv).1; have := HZ.out; exact Or.inr (by simp at *; omega)) _ _ _ _ _ _
    · exact below_set6 (HB.out.trans (HB3.out.mono HB.out.size)) (by omega) _ _ _ _ _ _
end Go.Proofs.YtndcmapifihgeaaGreatDoor.Tg
