/- The program's cutTag, endTag, startTag and Read, walked. -/
import Derived.Test.YtndcmapifihgeaaDoorTgUn
import Derived.Deep.RegionWith
import Derived.Lib.SmallJoins
namespace Go.Proofs.YtndcmapifihgeaaDoor.Tg
open Go.RowKit Go.Lib
open Ch (at0 nx nx_width nx_range at0_lt at0_drop enc_len Sl Sl.below Cells ret_str good nx_good ret_bool)
open Kl (blankN greatN letterZ letter_any)
open At (cellsA names ads Seen kept)

variable {l : List UInt8} {a : Option Addr} {cap R i : Nat} {W w w' : World}

/-- a block of cells -/
structure Bk (g : Nat) (cs : Array Value) (t : TypeId) (w : World) : Prop where
  blk : w.heap[g]? = some (.cells cs t (0, 0))
variable {g : Nat} {cs : Array Value} {t : TypeId}
theorem Bk.lt (h : Bk g cs t w) : g < w.heap.size := lt_of_heap h.blk
theorem Bk.kp (h : Bk g cs t w) (hk : Kp R w w') (hne : g ≠ R) : Bk g cs t w' := ⟨(hk.block g h.lt (by simp; exact hne)).trans h.blk⟩
theorem Bk.below (h : Bk g cs t w) (hb : Below w.heap.size w w') : Bk g cs t w' := ⟨(hb.block g h.lt).trans h.blk⟩
theorem Bk.grown {r : Option Nat} (h : Bk g cs t w) (hg : w.grownBy w' r) (hne : some g ≠ r) : Bk g cs t w' := ⟨(hg.block g h.lt hne).trans h.blk⟩
theorem Bk.alloc (h : Bk g cs t w) (o : Obj) : Bk g cs t (w.alloc o) := ⟨(Lib.alloc_old w o g h.lt).trans h.blk⟩
theorem bk_new (w : World) (cs : Array Value) (t : TypeId) : Bk w.heap.size cs t (w.alloc (.cells cs t)) := ⟨heap_alloc_new w _⟩
theorem Bk.cell (h : Bk g cs t w) (j : Nat) : w.cell? ⟨g, j, none⟩ = cs[j]? := Lib.cell_of_heap h.blk j
theorem Bk.fr (h : Bk g cs t w) (j : Nat) : w.frozen? ⟨g, j, none⟩ = false := Lib.frozen_of_heap h.blk j
theorem Bk.set (h : Bk g cs t w) (j : Nat) (v : Value) : Bk g (cs.setIfInBounds j v) t (w.setCell ⟨g, j, none⟩ v) := ⟨by simp [World.setCell, Array.getElem?_modify, h.blk]⟩
theorem Bk.drew (h : Bk g cs t w) : Bk g cs t w.drew := ⟨h.blk⟩

def zero29 : Array Value := #[.int .i64 0, .string ⟨#[]⟩, .slice none 0 0, .string ⟨#[]⟩, .int .i64 0, .int .i64 0]
theorem info29 : (Tryd.prog.info? 28).map (·.size) = some 6 := by kernel_rfl
/-- a token's cells -/
def tokV (t : Tk) (s : Value) : Value := .agg #[.int .i64 (t.kind : Int), .string ⟨t.name.toArray⟩, s, .string ⟨#[]⟩, .int .i64 t.frm, .int .i64 t.upto]

set_option maxHeartbeats 1000000 in
set_option maxRecDepth 100000 in
theorem cutTag_any (x : Int) (n : Nat) (w : World) :
    Calls Tryd.prog 50 #[.slice a n cap, .int .i64 x] w fun e w' => e = .returned (.agg #[.int .i64 0, .string ⟨#[]⟩, .slice none 0 0, .string ⟨#[]⟩, .int .i64 x, .int .i64 (n : Int)]) ∧ Below w.heap.size w w' := by
  go_enter Tryd.func50, Tryd.ntmps50
  go_wp2
  (try simp only [Exit.inBlock, Exit.then])
  refine bodyPost_ret (results_cell_row rfl _ _ w.heap.size 28 #[.int .i64 0, .string ⟨#[]⟩, .slice none 0 0, .string ⟨#[]⟩, .int .i64 x, .int .i64 (n : Int)] (0, 0) _ rfl ?_ Tryd.underlying28 rfl info29) rfl ?_
  · first
      | exact heap_alloc_new w _
      | exact (((((((bk_new w zero29 28).set 0 _).set 1 _).set 2 _).set 3 _).set 4 _).set 5 _).blk

  · exact ⟨rfl, by first | exact (Below.refl _ w).alloc (Nat.le_refl _) _⟩

theorem tn_at (l : List UInt8) (i k : Nat) (hk : bg (l.drop i) = k) (h0 : k ≠ 0) : encodeRune ((lowN (hd (l.drop (i + k))) : Nat) : Int) ++ lw pTag (l.drop (i + k + wd (l.drop (i + k)))) = tn (l.drop i) ∧
    i + k + wd (l.drop (i + k)) + ov pTag (l.drop (i + k + wd (l.drop (i + k)))) = i + tw (l.drop i) := by
  subst hk
  have hh := bg_head h0
  have e := tn_eq h0
  rw [List.drop_drop] at hh e
  rw [e.1, e.2, hd_ne hh.1, wd_ne hh.1, List.drop_drop]
  exact ⟨rfl, by omega⟩

theorem On.start (hs : Sl l a cap w) (hT : Tb w) (hlen : l.length ≤ 1000000) (o : Obj) (x : Int) (j : Nat) (hx : x = (j : Int)) (hj : j ≤ l.length) : On l a cap (w.heap.size + 1) j w ((w.alloc o).alloc (.cells #[.slice a l.length cap, .int .i64 x] 89)) := by
  subst hx
  refine ⟨hs, hT, hlen, by omega, ((Below.refl _ w).alloc (Nat.le_refl _) _).alloc (by simp) _, ?_, hj⟩
  have := heap_alloc_new (w.alloc o) (.cells #[.slice a l.length cap, .int .i64 (j : Int)] 89)
  simpa using this

/-- what startTag and endTag answer -/
def TagPost (l : List UInt8) (i : Nat) (w : World) (e : Ending) (w' : World) : Prop :=
  ∃ s, e = .returned (tokV (tkIn l i) s) ∧ w'.ownsRow w.heap.size 63 2 s (tkIn l i).attrs.length (cellsA (tkIn l i).attrs) ∧ Below w.heap.size w w'

theorem tkIn_none (h : tr (l.drop i) = none) : tkIn l i = ⟨0, [], [], (i : Int), (l.length : Int)⟩ := by unfold tkIn; rw [h]
theorem tkIn_some {L : List At.At} {e : Nat} (h : tr (l.drop i) = some (L, e)) : tkIn l i = ⟨bg (l.drop i) + 1, tn (l.drop i), if bg (l.drop i) = 1 then ads L else [], (i : Int), (i : Int) + (e : Int)⟩ := by unfold tkIn; rw [h]
theorem tr_at (l : List UInt8) (i : Nat) : tr (l.drop i) = (ats (l.drop (i + tw (l.drop i)))).map fun p => (p.1, tw (l.drop i) + p.2) := by unfold tr; rw [List.drop_drop]

theorem below_kp {w0 w1 : World} (hb : Below w0.heap.size w0 w) (hk : Kp R w w1) (hR : w0.heap.size ≤ R) : Below w0.heap.size w0 w1 := hb.grown hk hb.size (fun k e => by injection e with e; omega)

set_option maxHeartbeats 4000000 in
set_option maxRecDepth 100000 in
theorem endTag_any (hs : Sl l a cap w) (hT : Tb w) (hlen : l.length ≤ 100000) (hb : bg (l.drop i) = 2) (hi : i < l.length) :
    Calls Tryd.prog 37 #[.slice a l.length cap, .int .i64 (i : Int)] w (TagPost l i w) := by
  have htw := tw_le (m := l.drop i) (by omega)
  simp only [List.length_drop] at htw
  have hon := On.start hs hT (by omega) (.cells zero29 28) ((i : Int) + 2) (i + 2) rfl (by omega)
  have cN := name_on [47, 62] pTag cr2 pTag_st hon
  have e1 := tn_at l i 2 hb (by omega)
  rw [e1.1, e1.2] at cN
  have bT : Bk w.heap.size zero29 28 ((w.alloc (.cells zero29 28)).alloc (.cells #[.slice a l.length cap, .int .i64 ((i : Int) + 2)] 89)) := (bk_new w zero29 28).alloc _
  have hb0 : Below w.heap.size w ((w.alloc (.cells zero29 28)).alloc (.cells #[.slice a l.length cap, .int .i64 ((i : Int) + 2)] 89)) := hon.base
  have HB0 := Lib.hid hb0
  have HT := Lib.hid bT
  have HTR := Lib.hid (tr_at l i)
  have HBG := Lib.hid hb
  clear hon e1 hs hT hb bT hb0
  unfold zero29 at HB0 HT cN
  obtain ⟨N, hN⟩ : ∃ N, tn (l.drop i) = N := ⟨_, rfl⟩
  rw [hN] at cN
  have HN := Lib.hid hN
  clear hN
  go_enter Tryd.func37, Tryd.ntmps37
  go_wp2_with fail
  refine cN.mono ?_
  rintro e w1 ⟨rfl, h1, hk1⟩
  have cA := attrs_on h1
  have b1 := HT.out.kp hk1 (by omega)
  have HB1 := Lib.hid (below_kp HB0.out hk1 (by omega))
  clear cN h1 hk1
  go_wp2_with fail
  refine cA.mono ?_
  intro e w2 hp
  unfold AtsPost at hp
  cases ha : ats (l.drop (i + tw (l.drop i))) with
  | none =>
    rw [ha] at hp
    obtain ⟨rfl, hk2⟩ := hp
    have b2 := b1.kp hk2 (by omega)
    have HB2 := Lib.hid (below_kp HB1.out hk2 (by omega))
    have HTK := Lib.hid (tkIn_none (by rw [HTR.out, ha]; rfl))
    have cC := cutTag_any (a := a) (cap := cap) (i : Int) l.length w2
    clear ha hk2 cA b1
    go_wp2_with fail
    refine cC.mono ?_
    rintro e w3 ⟨rfl, hb3⟩
    have b3 := b2.below hb3
    have HB3 := Lib.hid (HB2.out.trans (hb3.mono HB2.out.size))
    have k0 := b3.cell 0
    have k1 := b3.cell 1
    have k2 := b3.cell 2
    have k3 := b3.cell 3
    have k4 := b3.cell 4
    have k5 := b3.cell 5
    have f0 := b3.fr 0
    have f1 := b3.fr 1
    have f2 := b3.fr 2
    have f3 := b3.fr 3
    have f4 := b3.fr 4
    have f5 := b3.fr 5
    have HBK := Lib.hid b3
    clear b2 b3 hb3 cC
    go_wp2
    (try simp only [Exit.inBlock, Exit.then])
    refine bodyPost_ret (results_cell_row rfl _ _ w.heap.size 28 #[.int .i64 0, .string ⟨#[]⟩, .slice none 0 0, .string ⟨#[]⟩, .int .i64 (i : Int), .int .i64 (l.length : Int)] (0, 0) _ rfl ?_ Tryd.underlying28 rfl info29) rfl ?_
    · exact ((((((HBK.out.set 0 _).set 1 _).set 2 _).set 3 _).set 4 _).set 5 _).blk
    · refine ⟨.slice none 0 0, ?_, ?_, ?_⟩
      · rw [HTK.out]; rfl
      · rw [HTK.out]; exact World.ownsRow_nil _ _ _ _
      · exact (((((HB3.out.setCell (p := ⟨w.heap.size, 0, none⟩) (Nat.le_refl _) _).setCell (p := ⟨w.heap.size, 1, none⟩) (Nat.le_refl _) _).setCell (p := ⟨w.heap.size, 2, none⟩) (Nat.le_refl _) _).setCell (p := ⟨w.heap.size, 3, none⟩) (Nat.le_refl _) _).setCell (p := ⟨w.heap.size, 4, none⟩) (Nat.le_refl _) _).setCell (p := ⟨w.heap.size, 5, none⟩) (Nat.le_refl _) _
  | some p =>
    obtain ⟨L, n⟩ := p
    rw [ha] at hp
    obtain ⟨v, rfl, hown, h2, hk2⟩ := hp
    have b2 := b1.kp hk2 (by omega)
    have HB2 := Lib.hid (below_kp HB1.out hk2 (by omega))
    have HTK := Lib.hid (tkIn_some (by rw [HTR.out, ha]; rfl))
    have d1 := h2.c1
    have hY : i + tw (l.drop i) + n = i + (tw (l.drop i) + n) := by omega
    rw [hY] at d1
    have k0 := b2.cell 0
    have k1 := b2.cell 1
    have k2 := b2.cell 2
    have k3 := b2.cell 3
    have k4 := b2.cell 4
    have k5 := b2.cell 5
    have f0 := b2.fr 0
    have f1 := b2.fr 1
    have f2 := b2.fr 2
    have f3 := b2.fr 3
    have f4 := b2.fr 4
    have f5 := b2.fr 5
    have HBK := Lib.hid b2
    clear ha hk2 cA b1 b2 h2 hown hY
    generalize tw (l.drop i) + n = E at d1 HTK
    obtain ⟨Y, hY⟩ : ∃ Y : Nat, i + E = Y := ⟨_, rfl⟩
    rw [hY] at d1
    go_wp2
    (try simp only [Exit.inBlock, Exit.then])
    refine bodyPost_ret (results_cell_row rfl _ _ w.heap.size 28 #[.int .i64 3, .string ⟨N.toArray⟩, .slice none 0 0, .string ⟨#[]⟩, .int .i64 (i : Int), .int .i64 (Y : Int)] (0, 0) _ rfl ?_ Tryd.underlying28 rfl info29) rfl ?_
    · exact ((((((HBK.out.set 0 _).set 1 _).set 2 _).set 3 _).set 4 _).set 5 _).blk
    · refine ⟨.slice none 0 0, ?_, ?_, ?_⟩
      · rw [HTK.out, HBG.out, HN.out]
        unfold tokV
        simp only
        rw [← hY, Int.natCast_add]
        rfl
      · rw [HTK.out, HBG.out]; exact World.ownsRow_nil _ _ _ _
      · exact (((((HB2.out.setCell (p := ⟨w.heap.size, 0, none⟩) (Nat.le_refl _) _).setCell (p := ⟨w.heap.size, 1, none⟩) (Nat.le_refl _) _).setCell (p := ⟨w.heap.size, 2, none⟩) (Nat.le_refl _) _).setCell (p := ⟨w.heap.size, 3, none⟩) (Nat.le_refl _) _).setCell (p := ⟨w.heap.size, 4, none⟩) (Nat.le_refl _) _).setCell (p := ⟨w.heap.size, 5, none⟩) (Nat.le_refl _) _
end Go.Proofs.YtndcmapifihgeaaDoor.Tg
