/- The reference's Next of layer 10, walked. -/
import Derived.Test.YtndcmapifihgeaaGreatDoorTkR8b
import Derived.Test.YtndcmapifihgeaaGreatDoorTkC
import Derived.Test.YtndcmapifihgeaaGreatDoorTgLRd
import Derived.Test.YtndcmapifihgeaaGreatDoorChRA2
import Derived.Test.YtndcmapifihgeaaGreatDoorRText
namespace Go.Proofs.YtndcmapifihgeaaGreatDoor.Tk
open Go.RowKit Go.Lib
open Ch (at0 nx nx_width at0_lt at0_drop Sl Sl.below Cells allN allFrom ret_bool)
open Tg (bg tr tn zero34 info34 Bk bk_new below_set6 own_set6 bgAt tkAt tkIn tokV)
open At (cellsA ads)

variable {l : List UInt8} {a : Option Addr} {cap i : Nat} {w w' : World}

theorem tok_at {L : List (Tok × Value)} {M : List Tok} (hL : L.map Prod.fst = M) (j : Nat) (t : Tok) (h : M[j]? = some t) : ∃ s : Value, L[j]? = some (t, s) := by
  rw [← hL, List.getElem?_map, Option.map_eq_some_iff] at h
  obtain ⟨⟨t', s⟩, h1, rfl⟩ := h
  exact ⟨s, h1⟩

theorem all_take {l : List UInt8} {i u : Nat} (hi : i < u) (hu : u ≤ l.length) : allFrom (l.take u) (i : Int) (u : Int) = all0 (sl l i u) := by
  have hl : (l.take u).length = u := by rw [List.length_take]; omega
  unfold allFrom
  rw [if_pos (by rw [hl]; omega), show (i : Int).toNat = i by omega, show ((u : Int) - (i : Int)).toNat = u - i by omega, List.drop_take]
  have hs : ((l.drop i).take (u - i)).length = u - i := by rw [List.length_take, List.length_drop]; omega
  show allN (sl l i u) (u - i) = allN (sl l i u) (sl l i u).length
  unfold sl
  rw [hs]

theorem slTake (h : Sl l a cap w) (u : Nat) (hu : u ≤ l.length) : Sl (l.take u) a cap w := by
  obtain ⟨h1, h2⟩ := h
  refine ⟨by rw [List.length_take]; omega, ?_⟩
  rcases h2 with rfl | ⟨b, off, rfl, hc⟩
  · left; simp
  · right
    refine ⟨b, off, rfl, fun j hj => ?_⟩
    rw [List.length_take] at hj
    rw [hc j (by omega)]
    unfold at0
    rw [List.getD_eq_getElem?_getD, List.getD_eq_getElem?_getD, List.getElem?_take, if_pos (by omega)]

/-- what the reference's Next answers -/
def RNPost (t : Tok) (w : World) (r : Ending) (w' : World) : Prop :=
  ∃ s, r = .returned (.tuple #[tkV t s, .bool true]) ∧ w'.ownsRow w.heap.size 69 2 s t.attrs.length (cellsA t.attrs) ∧ Below w.heap.size w w'

set_option maxHeartbeats 2000000 in
set_option maxRecDepth 100000 in
theorem rnext_out (n : List UInt8) (x : Int) (m : Nat) (w : World) (h : ¬ (0 ≤ x ∧ x < (m : Int))) :
    Calls Tryz.prog 7 #[.slice a m cap, .int .i64 x, .string ⟨n.toArray⟩] w fun r w' => r = .returned (.tuple #[.agg #[.int .i64 0, .string ⟨#[]⟩, .slice none 0 0, .string ⟨#[]⟩, .int .i64 0, .int .i64 0], .bool false]) ∧ Below w.heap.size w w' := by
  have bT := bk_new w zero34 31
  unfold zero34 at bT
  obtain ⟨k0, k1, k2, k3, k4, k5, f0, f1, f2, f3, f4, f5⟩ := bT.six
  have HBT := Lib.hid bT
  clear bT
  by_cases h1 : x < 0
  · skip
    clear h
    go_enter Tryz.func7, Tryz.ntmps7
    go_wp2
    (try simp only [Exit.inBlock, Exit.then])
    refine bodyPost_ret (Tg.results_row_tmp rfl _ _ w.heap.size 31 #[.int .i64 0, .string ⟨#[]⟩, .slice none 0 0, .string ⟨#[]⟩, .int .i64 0, .int .i64 0] (0, 0) _ rfl ?_ Tryz.underlying31 rfl info34) rfl ?_
    · first | exact HBT.out.blk | exact (HBT.out.set6 _ _ _ _ _ _).blk
    · exact ⟨rfl, by first | exact (Below.refl _ w).alloc (Nat.le_refl _) _ | exact below_set6 ((Below.refl _ w).alloc (Nat.le_refl _) _) (Nat.le_refl _) _ _ _ _ _ _⟩
  · have h2 : (m : Int) ≤ x := by omega
    clear h
    go_enter Tryz.func7, Tryz.ntmps7
    go_wp2
    (try simp only [Exit.inBlock, Exit.then])
    refine bodyPost_ret (Tg.results_row_tmp rfl _ _ w.heap.size 31 #[.int .i64 0, .string ⟨#[]⟩, .slice none 0 0, .string ⟨#[]⟩, .int .i64 0, .int .i64 0] (0, 0) _ rfl ?_ Tryz.underlying31 rfl info34) rfl ?_
    · first | exact HBT.out.blk | exact (HBT.out.set6 _ _ _ _ _ _).blk
    · exact ⟨rfl, by first | exact (Below.refl _ w).alloc (Nat.le_refl _) _ | exact below_set6 ((Below.refl _ w).alloc (Nat.le_refl _) _) (Nat.le_refl _) _ _ _ _ _ _⟩

theorem Bk.other {g g' : Nat} {t : TypeId} {cs : Array Value} (h : Bk g cs t w) (hne : g' ≠ g) (j : Nat) (v : Value) : Bk g cs t (w.setCell ⟨g', j, none⟩ v) := ⟨(Below.heap_setCell _ _ _ _ (fun e => hne e.symm)).trans h.blk⟩

theorem refTx_any (i e : Nat) (w : World) (hs : Sl l a cap w) (hl : l.length ≤ 100000) (hie : i ≤ e) (hin : e ≤ l.length) (hi : i < l.length) :
    Calls Tryz.prog 18 #[.slice a l.length cap, .int .i64 (i : Int), .int .i64 (e : Int), .bool false] w fun r w' => r = .returned (.string ⟨(txt false (sl l i e)).toArray⟩) ∧ Below w.heap.size w w' := by
  obtain ⟨hcap, hz | ⟨b, off, rfl, hc⟩⟩ := hs
  · subst hz; rw [List.length_nil] at hi; omega
  exact _root_.Go.Proofs.YtndcmapifihgeaaGreatDoor.refText_any l (some ⟨b, off, none⟩) cap i (e - i) (i : Int) (e : Int) false w ⟨hcap, Or.inr ⟨b, off, rfl, hc⟩⟩ (fun h => by cases h) (Or.inr ⟨b, off, rfl⟩) rfl (by omega) (by omega) (by omega)

theorem refAl_any (i e : Nat) (w : World) (hs : Sl l a cap w) (hl : l.length ≤ 100000) (hie : i < e) (hin : e ≤ l.length) :
    Calls Tryz.prog 19 #[.slice a e cap, .int .i64 (i : Int), .int .i64 (e : Int)] w fun r w' => r = .returned (.string ⟨(all0 (sl l i e)).toArray⟩) ∧ Below w.heap.size w w' := by
  have := Ch.refAll_any (l.take e) a cap (i : Int) (e : Int) w (slTake hs e hin) (by rw [List.length_take]; omega)
  rw [all_take hie hin, show (l.take e).length = e by rw [List.length_take]; omega] at this
  exact this

set_option maxHeartbeats 4000000 in
set_option maxRecDepth 100000 in
theorem rnext_raw (n : List UInt8) (i : Nat) (w : World) (hs : Sl l a cap w) (hl : l.length ≤ 100000 - 1) (hln : n.length ≤ 100000) (hi : i < l.length) (he : Rw.ed n l i ≠ i) :
    Calls Tryz.prog 7 #[.slice a l.length cap, .int .i64 (i : Int), .string ⟨n.toArray⟩] w (RNPost (nxT l n i) w) := by
  have hNX : nxT l n i = rwT l n i (Rw.ed n l i) := by unfold nxT; rw [if_pos he]
  rw [hNX]
  clear hNX
  obtain ⟨W1, hW1⟩ : ∃ W1, w.alloc (.cells zero34 31) = W1 := ⟨_, rfl⟩
  have hbA : Below w.heap.size w W1 := by rw [← hW1]; exact (Below.refl _ w).alloc (Nat.le_refl _) _
  have bT : Bk w.heap.size zero34 31 W1 := by rw [← hW1]; exact bk_new w zero34 31
  have cK := Rw.refKind_any n W1
  have cE := fun w hs => Rw.refEnd_any (l := l) (a := a) (cap := cap) n i w hs (by omega) (by omega) hln
  have g1 := ed_ge n l i (by omega)
  have g2 := Rw.ed_le (n := n) (l := l) (i := i) (by omega)
  have hk0 : Rw.kdN n ≠ 0 := by
    intro h
    apply he
    unfold Rw.ed
    rw [if_pos h]
  have cT := fun w hs => refTx_any (l := l) (a := a) (cap := cap) i (Rw.ed n l i) w hs (by omega) g1 g2 hi
  have cA := fun w hs => refAl_any (l := l) (a := a) (cap := cap) i (Rw.ed n l i) w hs (by omega) (by omega) g2
  unfold RNPost
  have hat : (rwT l n i (Rw.ed n l i)).attrs = [] := rfl
  have hV : ∀ s, tkV (rwT l n i (Rw.ed n l i)) s = .agg #[.int .i64 1, .string ⟨#[]⟩, s, .string ⟨(if Rw.kdN n = 1 then txt false (sl l i (Rw.ed n l i)) else all0 (sl l i (Rw.ed n l i))).toArray⟩, .int .i64 (i : Int), .int .i64 ((Rw.ed n l i : Nat) : Int)] := fun _ => rfl
  rw [hat]
  generalize rwT l n i (Rw.ed n l i) = rt at *
  generalize Rw.ed n l i = E at *
  generalize Rw.kdN n = K at *
  have HS := Lib.hid hs
  have HBT := Lib.hid bT
  have HB := Lib.hid hbA
  have CE := Lib.hid cE
  have CT := Lib.hid cT
  have CA := Lib.hid cA
  unfold zero34 at hW1 HBT
  have h1 : ¬ ((i : Int) < 0) := by omega
  have h2 : ¬ ((l.length : Int) ≤ (i : Int)) := by omega
  have h3 : (i : Int) < (E : Int) := by omega
  have h4 : (0 : Int) < (K : Int) := by omega
  have hEc : E ≤ cap := by have := hs.1; omega
  clear bT hbA hs cE cT cA hat he
  by_cases h1k : K = 1
  · skip
    have k1' : K = 1 := h1k
    subst k1'
    rw [if_pos rfl] at hV
    generalize txt false (sl l i E) = X at *
    simp only [hV]
    have HV := Lib.hid hV
    clear hV
    go_enter Tryz.func7, Tryz.ntmps7
    go_wp2_with fail
    refine cK.mono ?_
    rintro r w2 ⟨rfl, hb2⟩
    have hbw2 := HB.out.trans (hb2.mono HB.out.size)
    have bk2 := HBT.out.below hb2
    have cE2 := CE.out w2 (HS.out.below hbw2)
    have HB2 := Lib.hid hbw2
    have HK2 := Lib.hid bk2
    clear hb2 hbw2 bk2
    go_wp2_with fail
    refine cE2.mono ?_
    rintro r w3 ⟨rfl, hb3⟩
    have hbw3 := HB2.out.trans (hb3.mono HB2.out.size)
    have bk3 := HK2.out.below hb3
    have hg3 : w.heap.size < w3.heap.size := bk3.lt
    have hb4 : Below w3.heap.size w3 (w3.alloc (.cells #[.int .i64 1, .string ⟨#[]⟩, .slice none 0 0, .string ⟨#[]⟩, .int .i64 (i : Int), .int .i64 (E : Int)] 31)) := (Below.refl _ w3).alloc (Nat.le_refl _) _
    have hbw4 := hbw3.trans (hb4.mono hbw3.size)
    have bk4 := bk3.below hb4
    have bn4 := bk_new w3 #[.int .i64 1, .string ⟨#[]⟩, .slice none 0 0, .string ⟨#[]⟩, .int .i64 (i : Int), .int .i64 (E : Int)] 31
    have cX := CT.out _ (HS.out.below hbw4)
    have HB4 := Lib.hid hbw4
    have HK4 := Lib.hid bk4
    have HN4 := Lib.hid bn4
    clear hb3 hbw3 bk3 hb4 hbw4 bk4 bn4
    go_wp2_with fail
    refine cX.mono ?_
    rintro r w5 ⟨rfl, hb5⟩
    have bk5 := HK4.out.below hb5
    have bn5 := HN4.out.below hb5
    obtain ⟨k0, k1, k2, k3, k4, k5, f0, f1, f2, f3, f4, f5⟩ := bk5.six
    obtain ⟨q0, q1, q2, q3, q4, q5, t0, t1, t2, t3, t4, t5⟩ := bn5.six
    have hne : w.heap.size ≠ w3.heap.size := by omega
    have hne2 : w3.heap.size ≠ w.heap.size := by omega
    have HB5 := Lib.hid (HB4.out.trans (hb5.mono HB4.out.size))
    have HK5 := Lib.hid bk5
    have HN5 := Lib.hid bn5
    clear hb5 bk5 bn5
    go_wp2
    (try simp only [Exit.inBlock, Exit.then])
    refine bodyPost_ret (Tg.results_row_tmp rfl _ _ w.heap.size 31 #[.int .i64 1, .string ⟨#[]⟩, .slice none 0 0, .string ⟨X.toArray⟩, .int .i64 (i : Int), .int .i64 (E : Int)] (0, 0) _ rfl ?_ Tryz.underlying31 rfl info34) rfl ?_
    · exact (Bk.set6 (Bk.other HK5.out hne2 3 _) _ _ _ _ _ _).blk
    · exact ⟨.slice none 0 0, rfl, World.ownsRow_nil _ _ _ _, below_set6 (HB5.out.setCell (p := ⟨w3.heap.size, 3, none⟩) (by show w.heap.size ≤ w3.heap.size; omega) _) (Nat.le_refl _) _ _ _ _ _ _⟩
  · skip
    have k1' : ¬ ((K : Int) = 1) := by omega
    rw [if_neg h1k] at hV
    generalize all0 (sl l i E) = X at *
    simp only [hV]
    have HV := Lib.hid hV
    clear hV
    go_enter Tryz.func7, Tryz.ntmps7
    go_wp2_with fail
    refine cK.mono ?_
    rintro r w2 ⟨rfl, hb2⟩
    have hbw2 := HB.out.trans (hb2.mono HB.out.size)
    have bk2 := HBT.out.below hb2
    have cE2 := CE.out w2 (HS.out.below hbw2)
    have HB2 := Lib.hid hbw2
    have HK2 := Lib.hid bk2
    clear hb2 hbw2 bk2
    go_wp2_with fail
    refine cE2.mono ?_
    rintro r w3 ⟨rfl, hb3⟩
    have hbw3 := HB2.out.trans (hb3.mono HB2.out.size)
    have bk3 := HK2.out.below hb3
    have hg3 : w.heap.size < w3.heap.size := bk3.lt
    have hb4 : Below w3.heap.size w3 (w3.alloc (.cells #[.int .i64 1, .string ⟨#[]⟩, .slice none 0 0, .string ⟨#[]⟩, .int .i64 (i : Int), .int .i64 (E : Int)] 31)) := (Below.refl _ w3).alloc (Nat.le_refl _) _
    have hbw4 := hbw3.trans (hb4.mono hbw3.size)
    have bk4 := bk3.below hb4
    have bn4 := bk_new w3 #[.int .i64 1, .string ⟨#[]⟩, .slice none 0 0, .string ⟨#[]⟩, .int .i64 (i : Int), .int .i64 (E : Int)] 31
    have cX := CA.out _ (HS.out.below hbw4)
    have HB4 := Lib.hid hbw4
    have HK4 := Lib.hid bk4
    have HN4 := Lib.hid bn4
    clear hb3 hbw3 bk3 hb4 hbw4 bk4 bn4
    go_wp2_with fail
    refine cX.mono ?_
    rintro r w5 ⟨rfl, hb5⟩
    have bk5 := HK4.out.below hb5
    have bn5 := HN4.out.below hb5
    obtain ⟨k0, k1, k2, k3, k4, k5, f0, f1, f2, f3, f4, f5⟩ := bk5.six
    obtain ⟨q0, q1, q2, q3, q4, q5, t0, t1, t2, t3, t4, t5⟩ := bn5.six
    have hne : w.heap.size ≠ w3.heap.size := by omega
    have hne2 : w3.heap.size ≠ w.heap.size := by omega
    have HB5 := Lib.hid (HB4.out.trans (hb5.mono HB4.out.size))
    have HK5 := Lib.hid bk5
    have HN5 := Lib.hid bn5
    clear hb5 bk5 bn5
    go_wp2
    (try simp only [Exit.inBlock, Exit.then])
    refine bodyPost_ret (Tg.results_row_tmp rfl _ _ w.heap.size 31 #[.int .i64 1, .string ⟨#[]⟩, .slice none 0 0, .string ⟨X.toArray⟩, .int .i64 (i : Int), .int .i64 (E : Int)] (0, 0) _ rfl ?_ Tryz.underlying31 rfl info34) rfl ?_
    · exact (Bk.set6 (Bk.other HK5.out hne2 3 _) _ _ _ _ _ _).blk
    · exact ⟨.slice none 0 0, rfl, World.ownsRow_nil _ _ _ _, below_set6 (HB5.out.setCell (p := ⟨w3.heap.size, 3, none⟩) (by show w.heap.size ≤ w3.heap.size; omega) _) (Nat.le_refl _) _ _ _ _ _ _⟩
end Go.Proofs.YtndcmapifihgeaaGreatDoor.Tk

/- The reference's Next of layer 10 where tags are read, walked. -/
namespace Go.Proofs.YtndcmapifihgeaaGreatDoor.Tk
open Go.RowKit Go.Lib
open Ch (at0 nx nx_width at0_lt at0_drop Sl Sl.below Cells allN allFrom ret_bool)
open Tg (bg tr tn zero34 info34 Bk bk_new below_set6 own_set6 bgAt tkAt tkIn tokV)
open At (cellsA ads)

variable {l : List UInt8} {a : Option Addr} {cap i : Nat} {w w' : World}

theorem rAns_kd (l : List UInt8) (i : Nat) : rAns l i = .tuple #[.int .i64 ((Mk.kd (l.drop i) : Nat) : Int), .int .i64 ((if Mk.kd (l.drop i) = 0 then 0 else i + Mk.ln (l.drop i) (Mk.kd (l.drop i)) : Nat) : Int)] := by
  unfold rAns
  rw [rk_eq]
  simp only
  by_cases h : Mk.kd (l.drop i) = 0
  · rw [if_pos h, if_pos h]
  · rw [if_neg h, if_neg h, if_neg h]

set_option maxHeartbeats 8000000 in
set_option maxRecDepth 100000 in
theorem rnext_tag (n : List UInt8) (i : Nat) (w : World) (hs : Sl l a cap w) (hl : l.length ≤ 100000 - 1) (hln : n.length ≤ 100000) (hi : i < l.length) (he : Rw.ed n l i = i) :
    Calls Tryz.prog 7 #[.slice a l.length cap, .int .i64 (i : Int), .string ⟨n.toArray⟩] w (RNPost (nxT l n i) w) := by
  have hNX : nxT l n i = tdT l i := by unfold nxT; rw [if_neg (by simpa using he)]
  rw [hNX]
  clear hNX
  obtain ⟨W1, hW1⟩ : ∃ W1, w.alloc (.cells zero34 31) = W1 := ⟨_, rfl⟩
  have hbA : Below w.heap.size w W1 := by rw [← hW1]; exact (Below.refl _ w).alloc (Nat.le_refl _) _
  have bT : Bk w.heap.size zero34 31 W1 := by rw [← hW1]; exact bk_new w zero34 31
  have cK := Rw.refKind_any n W1
  have cE := fun w hs => Rw.refEnd_any (l := l) (a := a) (cap := cap) n i w hs (by omega) (by omega) hln
  rw [he] at cE
  have cR := fun w hs => Tg.rread_any (l := l) (a := a) (cap := cap) (w := w) (i : Int) hs hl
  have cM := fun w hs => rread8_any (l := l) (a := a) (cap := cap) i w hs hi (by omega)
  have cM2 := fun j w hs hj => rread8_any (l := l) (a := a) (cap := cap) j w hs hj (by omega)
  simp only [rAns_kd] at cM cM2
  have hbg : bgAt l (i : Int) = bg (l.drop i) := by unfold bgAt; rw [if_pos (by omega)]; rfl
  have HS := Lib.hid hs
  have HBT := Lib.hid bT
  have HB := Lib.hid hbA
  have CE := Lib.hid cE
  have CM2 := Lib.hid cM2
  unfold zero34 at hW1 HBT
  have h1 : ¬ ((i : Int) < 0) := by omega
  have h2 : ¬ ((l.length : Int) ≤ (i : Int)) := by omega
  generalize Rw.kdN n = K at *
  clear bT hbA hs cE cM2 he
  unfold Tg.RReadPost at cR
  by_cases h0 : bg (l.drop i) ≠ 0
  · have htk : tkAt l (i : Int) = tkIn l i := by unfold tkAt; rw [hbg, if_neg h0]; rfl
    have HTG := Lib.hid (tok_tg l i)
    have hD : decide (bgAt l (i : Int) ≠ 0) = true := by rw [hbg]; exact decide_eq_true h0
    rw [show tdT l i = tgT l i by unfold tdT; rw [if_pos h0]]
    have cR : ∀ w, Sl l a cap w → Calls Tryz.prog 20 #[.slice a l.length cap, .int .i64 (i : Int)] w (fun r w' => ∃ s, r = .returned (.tuple #[tkV (tgT l i) s, .bool true]) ∧ w'.ownsRow w.heap.size 69 2 s (tgT l i).attrs.length (cellsA (tgT l i).attrs) ∧ Below w.heap.size w w') := fun w hs => (cR w hs).mono (by
      rintro r w2 ⟨s, rfl, ho2, hb2⟩
      rw [htk, (HTG.out s).2] at ho2
      exact ⟨s, by rw [hD, htk, (HTG.out s).1], ho2, hb2⟩)
    unfold RNPost
    unfold tkV at cR ⊢
    clear HTG hD htk hbg h0 cM CM2
    generalize (tgT l i).kind = tk at *
    generalize (tgT l i).name = tnm at *
    generalize (tgT l i).text = ttx at *
    generalize (tgT l i).frm = tfr at *
    generalize (tgT l i).upto = tup at *
    generalize (tgT l i).attrs = tat at *
    have CR := Lib.hid cR
    clear cR
    by_cases hK : K = 0
    · subst hK
      go_enter Tryz.func7, Tryz.ntmps7
      go_wp2_with fail
      refine cK.mono ?_
      rintro r w2 ⟨rfl, hb2⟩
      have hbw2 := HB.out.trans (hb2.mono HB.out.size)
      have bk2 := HBT.out.below hb2
      have cE2 := CE.out w2 (HS.out.below hbw2)
      have HB2 := Lib.hid hbw2
      have HK2 := Lib.hid bk2
      clear hb2 hbw2 bk2
      go_wp2_with fail
      refine cE2.mono ?_
      rintro r w3 ⟨rfl, hb3⟩
      have hbw3 := HB2.out.trans (hb3.mono HB2.out.size)
      have bk3 := HK2.out.below hb3
      have cR3 := CR.out w3 (HS.out.below hbw3)
      have HB3 := Lib.hid hbw3
      have HK3 := Lib.hid bk3
      clear hb3 hbw3 bk3
      go_wp2_with fail
      refine cR3.mono ?_
      rintro r w4 ⟨s, rfl, ho4, hb4⟩
      obtain ⟨a5, cap5, rfl, -⟩ := At.sl_own ho4
      have hbw4 := HB3.out.trans (hb4.mono HB3.out.size)
      have bk4 := HK3.out.below hb4
      obtain ⟨W5, hW5⟩ : ∃ W5, w4.alloc (.cells #[.int .i64 (tk : Int), .string ⟨tnm.toArray⟩, .slice a5 tat.length cap5, .string ⟨ttx.toArray⟩, .int .i64 (tfr : Int), .int .i64 (tup : Int)] 31) = W5 := ⟨_, rfl⟩
      have hbw5 : Below w.heap.size w W5 := by rw [← hW5]; exact hbw4.alloc hbw4.size _
      have bk5 : Bk w.heap.size #[.int .i64 0, .string ⟨#[]⟩, .slice none 0 0, .string ⟨#[]⟩, .int .i64 0, .int .i64 0] 31 W5 := by rw [← hW5]; exact bk4.alloc _
      have bn5 : Bk w4.heap.size #[.int .i64 (tk : Int), .string ⟨tnm.toArray⟩, .slice a5 tat.length cap5, .string ⟨ttx.toArray⟩, .int .i64 (tfr : Int), .int .i64 (tup : Int)] 31 W5 := by rw [← hW5]; exact bk_new w4 _ 31
      have ho5 : W5.ownsRow w3.heap.size 69 2 (.slice a5 tat.length cap5) tat.length (cellsA tat) := by rw [← hW5]; exact ho4.alloc _
      have hg3 : w.heap.size < w3.heap.size := HK3.out.lt
      obtain ⟨k0, k1, k2, k3, k4, k5, f0, f1, f2, f3, f4, f5⟩ := bk5.six
      obtain ⟨q0, q1, q2, q3, q4, q5, -, -, -, -, -, -⟩ := bn5.six
      have HO5 := Lib.hid ho5
      have HB5 := Lib.hid hbw5
      have HK5 := Lib.hid bk5
      clear ho4 hb4 ho5 hbw4 hbw5 bk4 bk5 bn5
      go_wp2
      (try simp only [Exit.inBlock, Exit.then])
      refine bodyPost_ret (Tg.results_row_tmp rfl _ _ w.heap.size 31 #[.int .i64 (tk : Int), .string ⟨tnm.toArray⟩, .slice a5 tat.length cap5, .string ⟨ttx.toArray⟩, .int .i64 (tfr : Int), .int .i64 (tup : Int)] (0, 0) _ rfl ?_ Tryz.underlying31 rfl info34) rfl ?_
      · exact (HK5.out.set6 _ _ _ _ _ _).blk
      · refine ⟨_, rfl, ?_, ?_⟩
        · exact own_set6 (At.ownsRow_base HO5.out (by omega)) (own_apart HO5.out hg3) _ _ _ _ _ _
        · exact below_set6 HB5.out (Nat.le_refl _) _ _ _ _ _ _
    · have hK2 : (0 : Int) < (K : Int) := by omega
      go_enter Tryz.func7, Tryz.ntmps7
      go_wp2_with fail
      refine cK.mono ?_
      rintro r w2 ⟨rfl, hb2⟩
      have hbw2 := HB.out.trans (hb2.mono HB.out.size)
      have bk2 := HBT.out.below hb2
      have cE2 := CE.out w2 (HS.out.below hbw2)
      have HB2 := Lib.hid hbw2
      have HK2 := Lib.hid bk2
      clear hb2 hbw2 bk2
      go_wp2_with fail
      refine cE2.mono ?_
      rintro r w3 ⟨rfl, hb3⟩
      have hbw3 := HB2.out.trans (hb3.mono HB2.out.size)
      have bk3 := HK2.out.below hb3
      have cR3 := CR.out w3 (HS.out.below hbw3)
      have HB3 := Lib.hid hbw3
      have HK3 := Lib.hid bk3
      clear hb3 hbw3 bk3
      go_wp2_with fail
      refine cR3.mono ?_
      rintro r w4 ⟨s, rfl, ho4, hb4⟩
      obtain ⟨a5, cap5, rfl, -⟩ := At.sl_own ho4
      have hbw4 := HB3.out.trans (hb4.mono HB3.out.size)
      have bk4 := HK3.out.below hb4
      obtain ⟨W5, hW5⟩ : ∃ W5, w4.alloc (.cells #[.int .i64 (tk : Int), .string ⟨tnm.toArray⟩, .slice a5 tat.length cap5, .string ⟨ttx.toArray⟩, .int .i64 (tfr : Int), .int .i64 (tup : Int)] 31) = W5 := ⟨_, rfl⟩
      have hbw5 : Below w.heap.size w W5 := by rw [← hW5]; exact hbw4.alloc hbw4.size _
      have bk5 : Bk w.heap.size #[.int .i64 0, .string ⟨#[]⟩, .slice none 0 0, .string ⟨#[]⟩, .int .i64 0, .int .i64 0] 31 W5 := by rw [← hW5]; exact bk4.alloc _
      have bn5 : Bk w4.heap.size #[.int .i64 (tk : Int), .string ⟨tnm.toArray⟩, .slice a5 tat.length cap5, .string ⟨ttx.toArray⟩, .int .i64 (tfr : Int), .int .i64 (tup : Int)] 31 W5 := by rw [← hW5]; exact bk_new w4 _ 31
      have ho5 : W5.ownsRow w3.heap.size 69 2 (.slice a5 tat.length cap5) tat.length (cellsA tat) := by rw [← hW5]; exact ho4.alloc _
      have hg3 : w.heap.size < w3.heap.size := HK3.out.lt
      obtain ⟨k0, k1, k2, k3, k4, k5, f0, f1, f2, f3, f4, f5⟩ := bk5.six
      obtain ⟨q0, q1, q2, q3, q4, q5, -, -, -, -, -, -⟩ := bn5.six
      have HO5 := Lib.hid ho5
      have HB5 := Lib.hid hbw5
      have HK5 := Lib.hid bk5
      clear ho4 hb4 ho5 hbw4 hbw5 bk4 bk5 bn5
      go_wp2
      (try simp only [Exit.inBlock, Exit.then])
      refine bodyPost_ret (Tg.results_row_tmp rfl _ _ w.heap.size 31 #[.int .i64 (tk : Int), .string ⟨tnm.toArray⟩, .slice a5 tat.length cap5, .string ⟨ttx.toArray⟩, .int .i64 (tfr : Int), .int .i64 (tup : Int)] (0, 0) _ rfl ?_ Tryz.underlying31 rfl info34) rfl ?_
      · exact (HK5.out.set6 _ _ _ _ _ _).blk
      · refine ⟨_, rfl, ?_, ?_⟩
        · exact own_set6 (At.ownsRow_base HO5.out (by omega)) (own_apart HO5.out hg3) _ _ _ _ _ _
        · exact below_set6 HB5.out (Nat.le_refl _) _ _ _ _ _ _
  · have h0' : bg (l.drop i) = 0 := by simpa using h0
    have htk : tkAt l (i : Int) = ⟨0, [], [], 0, 0⟩ := by unfold tkAt; rw [hbg, if_pos h0']
    simp only [htk, hbg, h0'] at cR
    unfold tokV at cR
    simp only [ne_eq, not_true_eq_false, decide_false] at cR
    have hTD : tdT l i = if Mk.kd (l.drop i) ≠ 0 then ⟨0, [], [], [], i, i + Mk.ln (l.drop i) (Mk.kd (l.drop i))⟩ else ⟨1, [], [], txt false (sl l i (te l i)), i, te l i⟩ := by unfold tdT; rw [if_neg h0]
    rw [hTD]
    have CR := Lib.hid cR
    clear cR htk hbg h0 h0' hTD
    by_cases hk : Mk.kd (l.drop i) ≠ 0
    · rw [if_pos hk]
      have hln := (Mk.mark_is hk).2.2.2.2.1
      rw [List.length_drop] at hln
      simp only [if_neg hk] at cM
      have hkk : (0 : Int) < ((Mk.kd (l.drop i) : Nat) : Int) := by omega
      obtain ⟨U, hU⟩ : ∃ U, i + Mk.ln (l.drop i) (Mk.kd (l.drop i)) = U := ⟨_, rfl⟩
      rw [hU] at cM ⊢
      clear hU hln hk CM2
      generalize Mk.kd (l.drop i) = KD at *
      have CM := Lib.hid cM
      clear cM
      by_cases hK : K = 0
      · subst hK
        go_enter Tryz.func7, Tryz.ntmps7
        go_wp2_with fail
        refine cK.mono ?_
        rintro r w2 ⟨rfl, hb2⟩
        have hbw2 := HB.out.trans (hb2.mono HB.out.size)
        have bk2 := HBT.out.below hb2
        have cE2 := CE.out w2 (HS.out.below hbw2)
        have HB2 := Lib.hid hbw2
        have HK2 := Lib.hid bk2
        clear hb2 hbw2 bk2
        go_wp2_with fail
        refine cE2.mono ?_
        rintro r w3 ⟨rfl, hb3⟩
        have hbw3 := HB2.out.trans (hb3.mono HB2.out.size)
        have bk3 := HK2.out.below hb3
        have cR3 := CR.out w3 (HS.out.below hbw3)
        have HB3 := Lib.hid hbw3
        have HK3 := Lib.hid bk3
        clear hb3 hbw3 bk3
        go_wp2_with fail
        refine cR3.mono ?_
        rintro r w4 ⟨s, rfl, ho4, hb4⟩
        obtain ⟨a5, cap5, rfl, -⟩ := At.sl_own ho4
        have hbw4 := HB3.out.trans (hb4.mono HB3.out.size)
        have bk4 := HK3.out.below hb4
        simp only [List.length_nil]
        have hbw5 : Below w.heap.size w (w4.alloc (.cells #[.int .i64 0, .string ⟨#[]⟩, .slice a5 0 cap5, .string ⟨#[]⟩, .int .i64 0, .int .i64 0] 31)) := hbw4.alloc hbw4.size _
        have bk5 : Bk w.heap.size #[.int .i64 0, .string ⟨#[]⟩, .slice none 0 0, .string ⟨#[]⟩, .int .i64 0, .int .i64 0] 31 (w4.alloc (.cells #[.int .i64 0, .string ⟨#[]⟩, .slice a5 0 cap5, .string ⟨#[]⟩, .int .i64 0, .int .i64 0] 31)) := bk4.alloc _
        have cM := CM.out (w4.alloc (.cells #[.int .i64 0, .string ⟨#[]⟩, .slice a5 0 cap5, .string ⟨#[]⟩, .int .i64 0, .int .i64 0] 31)) (HS.out.below hbw5)
        have HB5 := Lib.hid hbw5
        have HK5 := Lib.hid bk5
        clear ho4 hb4 hbw4 bk4 hbw5 bk5
        go_wp2_with fail
        refine cM.mono ?_
        rintro r w6 ⟨rfl, hb6⟩
        have hbw6 := HB5.out.trans (hb6.mono HB5.out.size)
        have bk6 := HK5.out.below hb6
        obtain ⟨k0, k1, k2, k3, k4, k5, f0, f1, f2, f3, f4, f5⟩ := bk6.six
        have HB6 := Lib.hid hbw6
        have HK6 := Lib.hid bk6
        clear hb6 hbw6 bk6
        go_wp2
        (try simp only [Exit.inBlock, Exit.then])
        refine bodyPost_ret (Tg.results_row_tmp rfl _ _ w.heap.size 31 #[.int .i64 0, .string ⟨#[]⟩, .slice none 0 0, .string ⟨#[]⟩, .int .i64 (i : Int), .int .i64 (U : Int)] (0, 0) _ rfl ?_ Tryz.underlying31 rfl info34) rfl ?_
        · exact (HK6.out.set6 _ _ _ _ _ _).blk
        · exact ⟨.slice none 0 0, rfl, World.ownsRow_nil _ _ _ _, below_set6 HB6.out (Nat.le_refl _) _ _ _ _ _ _⟩
      · have hK2 : (0 : Int) < (K : Int) := by omega
        go_enter Tryz.func7, Tryz.ntmps7
        go_wp2_with fail
        refine cK.mono ?_
        rintro r w2 ⟨rfl, hb2⟩
        have hbw2 := HB.out.trans (hb2.mono HB.out.size)
        have bk2 := HBT.out.below hb2
        have cE2 := CE.out w2 (HS.out.below hbw2)
        have HB2 := Lib.hid hbw2
        have HK2 := Lib.hid bk2
        clear hb2 hbw2 bk2
        go_wp2_with fail
        refine cE2.mono ?_
        rintro r w3 ⟨rfl, hb3⟩
        have hbw3 := HB2.out.trans (hb3.mono HB2.out.size)
        have bk3 := HK2.out.below hb3
        have cR3 := CR.out w3 (HS.out.below hbw3)
        have HB3 := Lib.hid hbw3
        have HK3 := Lib.hid bk3
        clear hb3 hbw3 bk3
        go_wp2_with fail
        refine cR3.mono ?_
        rintro r w4 ⟨s, rfl, ho4, hb4⟩
        obtain ⟨a5, cap5, rfl, -⟩ := At.sl_own ho4
        have hbw4 := HB3.out.trans (hb4.mono HB3.out.size)
        have bk4 := HK3.out.below hb4
        simp only [List.length_nil]
        have hbw5 : Below w.heap.size w (w4.alloc (.cells #[.int .i64 0, .string ⟨#[]⟩, .slice a5 0 cap5, .string ⟨#[]⟩, .int .i64 0, .int .i64 0] 31)) := hbw4.alloc hbw4.size _
        have bk5 : Bk w.heap.size #[.int .i64 0, .string ⟨#[]⟩, .slice none 0 0, .string ⟨#[]⟩, .int .i64 0, .int .i64 0] 31 (w4.alloc (.cells #[.int .i64 0, .string ⟨#[]⟩, .slice a5 0 cap5, .string ⟨#[]⟩, .int .i64 0, .int .i64 0] 31)) := bk4.alloc _
        have cM := CM.out (w4.alloc (.cells #[.int .i64 0, .string ⟨#[]⟩, .slice a5 0 cap5, .string ⟨#[]⟩, .int .i64 0, .int .i64 0] 31)) (HS.out.below hbw5)
        have HB5 := Lib.hid hbw5
        have HK5 := Lib.hid bk5
        clear ho4 hb4 hbw4 bk4 hbw5 bk5
        go_wp2_with fail
        refine cM.mono ?_
        rintro r w6 ⟨rfl, hb6⟩
        have hbw6 := HB5.out.trans (hb6.mono HB5.out.size)
        have bk6 := HK5.out.below hb6
        obtain ⟨k0, k1, k2, k3, k4, k5, f0, f1, f2, f3, f4, f5⟩ := bk6.six
        have HB6 := Lib.hid hbw6
        have HK6 := Lib.hid bk6
        clear hb6 hbw6 bk6
        go_wp2
        (try simp only [Exit.inBlock, Exit.then])
        refine bodyPost_ret (Tg.results_row_tmp rfl _ _ w.heap.size 31 #[.int .i64 0, .string ⟨#[]⟩, .slice none 0 0, .string ⟨#[]⟩, .int .i64 (i : Int), .int .i64 (U : Int)] (0, 0) _ rfl ?_ Tryz.underlying31 rfl info34) rfl ?_
        · exact (HK6.out.set6 _ _ _ _ _ _).blk
        · exact ⟨.slice none 0 0, rfl, World.ownsRow_nil _ _ _ _, below_set6 HB6.out (Nat.le_refl _) _ _ _ _ _ _⟩
    · rw [if_neg hk]
      have hk0 : Mk.kd (l.drop i) = 0 := by simpa using hk
      simp only [hk0, if_true] at cM
      have hte := te_le hi
      have cX := fun w hs => refTx_any (l := l) (a := a) (cap := cap) i (te l i) w hs (by omega) (by omega) hte.1 hi
      have hU : i + 1 + tx (l.drop (i + 1)) = te l i := rfl
      generalize txt false (sl l i (te l i)) = X at cX ⊢
      generalize te l i = U at *
      have CM := Lib.hid cM
      have CX := Lib.hid cX
      have HU := Lib.hid hU
      clear cM cX hU hk hk0
      by_cases hK : K = 0
      · subst hK
        go_enter Tryz.func7, Tryz.ntmps7
        go_wp2_with fail
        refine cK.mono ?_
        rintro r w2 ⟨rfl, hb2⟩
        have hbw2 := HB.out.trans (hb2.mono HB.out.size)
        have bk2 := HBT.out.below hb2
        have cE2 := CE.out w2 (HS.out.below hbw2)
        have HB2 := Lib.hid hbw2
        have HK2 := Lib.hid bk2
        clear hb2 hbw2 bk2
        go_wp2_with fail
        refine cE2.mono ?_
        rintro r w3 ⟨rfl, hb3⟩
        have hbw3 := HB2.out.trans (hb3.mono HB2.out.size)
        have bk3 := HK2.out.below hb3
        have cR3 := CR.out w3 (HS.out.below hbw3)
        have HB3 := Lib.hid hbw3
        have HK3 := Lib.hid bk3
        clear hb3 hbw3 bk3
        go_wp2_with fail
        refine cR3.mono ?_
        rintro r w4 ⟨s, rfl, ho4, hb4⟩
        obtain ⟨a5, cap5, rfl, -⟩ := At.sl_own ho4
        have hbw4 := HB3.out.trans (hb4.mono HB3.out.size)
        have bk4 := HK3.out.below hb4
        simp only [List.length_nil]
        have hbw5 : Below w.heap.size w (w4.alloc (.cells #[.int .i64 0, .string ⟨#[]⟩, .slice a5 0 cap5, .string ⟨#[]⟩, .int .i64 0, .int .i64 0] 31)) := hbw4.alloc hbw4.size _
        have bk5 : Bk w.heap.size #[.int .i64 0, .string ⟨#[]⟩, .slice none 0 0, .string ⟨#[]⟩, .int .i64 0, .int .i64 0] 31 (w4.alloc (.cells #[.int .i64 0, .string ⟨#[]⟩, .slice a5 0 cap5, .string ⟨#[]⟩, .int .i64 0, .int .i64 0] 31)) := bk4.alloc _
        have cM := CM.out (w4.alloc (.cells #[.int .i64 0, .string ⟨#[]⟩, .slice a5 0 cap5, .string ⟨#[]⟩, .int .i64 0, .int .i64 0] 31)) (HS.out.below hbw5)
        have HB5 := Lib.hid hbw5
        have HK5 := Lib.hid bk5
        clear ho4 hb4 hbw4 bk4 hbw5 bk5
        go_wp2_with fail
        refine cM.mono ?_
        rintro r w6 ⟨rfl, hb6⟩
        have hbw6 := HB5.out.trans (hb6.mono HB5.out.size)
        have bk6 := HK5.out.below hb6
        have HB6 := Lib.hid hbw6
        have HK6 := Lib.hid bk6
        clear hb6 hbw6 bk6
        go_wp2
        go_loopw [15] (fun v wr => ∃ j : Nat, v = .int .i64 (j : Int) ∧ i + 1 ≤ j ∧ j ≤ l.length ∧ j + tx (l.drop j) = U ∧ Below w.heap.size w wr ∧ Bk w.heap.size #[.int .i64 0, .string ⟨#[]⟩, .slice none 0 0, .string ⟨#[]⟩, .int .i64 0, .int .i64 0] 31 wr) (fun v _ => l.length - (RowKit.intOf v).toNat)
        case atStart => exact ⟨i + 1, by go_num, by omega, by omega, HU.out, HB6.out, HK6.out⟩
        case round =>
          obtain ⟨j, rfl, hj1, hj2, hJ, hbr, hkr⟩ := hrel
          by_cases hlt : j < l.length
          · have hlt1 : (j : Int) < (l.length : Int) := by omega
            have htx := tx_at hlt
            have cM2 := CM2.out j wr (HS.out.below hbr) hlt
            have hbrk : brk (l.drop j) = (decide (bg (l.drop j) ≠ 0) || decide (Mk.kd (l.drop j) ≠ 0)) := rfl
            by_cases hk2 : Mk.kd (l.drop j) ≠ 0
            · have hkk : (0 : Int) < ((Mk.kd (l.drop j) : Nat) : Int) := by omega
              rw [hbrk, decide_eq_true hk2, Bool.or_true, if_pos rfl] at htx
              obtain rfl : j = U := by omega
              generalize Mk.kd (l.drop j) = K2 at *
              generalize (if K2 = 0 then 0 else j + Mk.ln (l.drop j) K2) = V2 at *
              have HBR := Lib.hid hbr
              have HKR := Lib.hid hkr
              clear hJ hbr hkr htx hbrk hk2
              go_wp2_with fail
              refine cM2.mono ?_
              rintro r w7 ⟨rfl, hb7⟩
              have hbr := HBR.out.trans (hb7.mono HBR.out.size)
              have hkr := HKR.out.below hb7
              have cX := CX.out w7 (HS.out.below hbr)
              have HBR := Lib.hid hbr
              have HKR := Lib.hid hkr
              clear hbr hkr hb7
              go_wp2_with fail
              refine cX.mono ?_
              rintro r w8 ⟨rfl, hb8⟩
              obtain ⟨k0, k1, k2, k3, k4, k5, f0, f1, f2, f3, f4, f5⟩ := (HKR.out.below hb8).six
              have HB8 := Lib.hid hb8
              clear hb8
              go_wp2
              (try simp only [Exit.inBlock, Exit.then])
              refine bodyPost_ret (Tg.results_row_tmp rfl _ _ w.heap.size 31 #[.int .i64 1, .string ⟨#[]⟩, .slice none 0 0, .string ⟨X.toArray⟩, .int .i64 (i : Int), .int .i64 (j : Int)] (0, 0) _ rfl ?_ Tryz.underlying31 rfl info34) rfl ?_
              · exact ((HKR.out.below HB8.out).set6 _ _ _ _ _ _).blk
              · exact ⟨.slice none 0 0, rfl, World.ownsRow_nil _ _ _ _, below_set6 (HBR.out.trans (HB8.out.mono HBR.out.size)) (Nat.le_refl _) _ _ _ _ _ _⟩
            · have hk0 : Mk.kd (l.drop j) = 0 := by simpa using hk2
              rw [hbrk, decide_eq_false hk2, Bool.or_false] at htx
              rw [hk0, if_pos rfl] at cM2
              have hbg : bgAt l (j : Int) = bg (l.drop j) := by unfold bgAt; rw [if_pos (by omega)]; rfl
              have HBR := Lib.hid hbr
              have HKR := Lib.hid hkr
              clear hbr hkr hbrk hk2 hk0
              by_cases hg : bg (l.drop j) ≠ 0
              · rw [decide_eq_true hg, if_pos rfl] at htx
                obtain rfl : j = U := by omega
                have hgg : (0 : Int) < ((bg (l.drop j) : Nat) : Int) := by omega
                have HBG := Lib.hid hbg
                generalize hG : bg (l.drop j) = G at *
                clear hJ htx hg hbg hG
                go_wp2_with fail
                refine cM2.mono ?_
                rintro r w7 ⟨rfl, hb7⟩
                have hbr := HBR.out.trans (hb7.mono HBR.out.size)
                have hkr := HKR.out.below hb7
                have cBg := Tg.rbegins_any (j : Int) w7 (HS.out.below hbr) (by omega)
                rw [HBG.out] at cBg
                have cX := CX.out w7 (HS.out.below hbr)
                have HBR := Lib.hid hbr
                have HKR := Lib.hid hkr
                clear hbr hkr hb7
                go_wp2_with fail
                refine cBg.mono ?_
                rintro r w9 ⟨rfl, rfl⟩
                go_wp2_with fail
                refine cX.mono ?_
                rintro r w8 ⟨rfl, hb8⟩
                obtain ⟨k0, k1, k2, k3, k4, k5, f0, f1, f2, f3, f4, f5⟩ := (HKR.out.below hb8).six
                have HB8 := Lib.hid hb8
                clear hb8
                go_wp2
                (try simp only [Exit.inBlock, Exit.then])
                refine bodyPost_ret (Tg.results_row_tmp rfl _ _ w.heap.size 31 #[.int .i64 1, .string ⟨#[]⟩, .slice none 0 0, .string ⟨X.toArray⟩, .int .i64 (i : Int), .int .i64 (j : Int)] (0, 0) _ rfl ?_ Tryz.underlying31 rfl info34) rfl ?_
                · exact ((HKR.out.below HB8.out).set6 _ _ _ _ _ _).blk
                · exact ⟨.slice none 0 0, rfl, World.ownsRow_nil _ _ _ _, below_set6 (HBR.out.trans (HB8.out.mono HBR.out.size)) (Nat.le_refl _) _ _ _ _ _ _⟩
              · rw [decide_eq_false hg, if_neg (by decide)] at htx
                have hg0 : bg (l.drop j) = 0 := by simpa using hg
                rw [hg0] at hbg
                have HBG := Lib.hid hbg
                have HJ := Lib.hid (show j + 1 + tx (l.drop (j + 1)) = U by omega)
                clear hJ htx hg hg0 hbg
                go_wp2_with fail
                refine cM2.mono ?_
                rintro r w7 ⟨rfl, hb7⟩
                have hbr := HBR.out.trans (hb7.mono HBR.out.size)
                have hkr := HKR.out.below hb7
                have cBg := Tg.rbegins_any (j : Int) w7 (HS.out.below hbr) (by omega)
                rw [HBG.out] at cBg
                have HBR := Lib.hid hbr
                have HKR := Lib.hid hkr
                clear hbr hkr hb7
                go_wp2_with fail
                refine cBg.mono ?_
                rintro r w9 ⟨rfl, rfl⟩
                go_wp2
                go_roundw
                case rel => exact ⟨j + 1, by go_num, by omega, by omega, HJ.out, HBR.out, HKR.out⟩
                case measure => simp [RowKit.intOf]; omega
          · have hlt1 : ¬ ((j : Int) < (l.length : Int)) := by omega
            obtain rfl : j = U := by
              have e : j = l.length := by omega
              rw [e, List.drop_length] at hJ
              have : tx [] = 0 := rfl
              omega
            have cX := CX.out wr (HS.out.below hbr)
            have HBR := Lib.hid hbr
            have HKR := Lib.hid hkr
            clear hJ hbr hkr
            go_wp2_with fail
            refine cX.mono ?_
            rintro r w8 ⟨rfl, hb8⟩
            obtain ⟨k0, k1, k2, k3, k4, k5, f0, f1, f2, f3, f4, f5⟩ := (HKR.out.below hb8).six
            have HB8 := Lib.hid hb8
            clear hb8
            go_wp2
            (try simp only [Exit.inBlock, Exit.then])
            refine bodyPost_ret (Tg.results_row_tmp rfl _ _ w.heap.size 31 #[.int .i64 1, .string ⟨#[]⟩, .slice none 0 0, .string ⟨X.toArray⟩, .int .i64 (i : Int), .int .i64 (j : Int)] (0, 0) _ rfl ?_ Tryz.underlying31 rfl info34) rfl ?_
            · exact ((HKR.out.below HB8.out).set6 _ _ _ _ _ _).blk
            · exact ⟨.slice none 0 0, rfl, World.ownsRow_nil _ _ _ _, below_set6 (HBR.out.trans (HB8.out.mono HBR.out.size)) (Nat.le_refl _) _ _ _ _ _ _⟩
      · have hK2 : (0 : Int) < (K : Int) := by omega
        go_enter Tryz.func7, Tryz.ntmps7
        go_wp2_with fail
        refine cK.mono ?_
        rintro r w2 ⟨rfl, hb2⟩
        have hbw2 := HB.out.trans (hb2.mono HB.out.size)
        have bk2 := HBT.out.below hb2
        have cE2 := CE.out w2 (HS.out.below hbw2)
        have HB2 := Lib.hid hbw2
        have HK2 := Lib.hid bk2
        clear hb2 hbw2 bk2
        go_wp2_with fail
        refine cE2.mono ?_
        rintro r w3 ⟨rfl, hb3⟩
        have hbw3 := HB2.out.trans (hb3.mono HB2.out.size)
        have bk3 := HK2.out.below hb3
        have cR3 := CR.out w3 (HS.out.below hbw3)
        have HB3 := Lib.hid hbw3
        have HK3 := Lib.hid bk3
        clear hb3 hbw3 bk3
        go_wp2_with fail
        refine cR3.mono ?_
        rintro r w4 ⟨s, rfl, ho4, hb4⟩
        obtain ⟨a5, cap5, rfl, -⟩ := At.sl_own ho4
        have hbw4 := HB3.out.trans (hb4.mono HB3.out.size)
        have bk4 := HK3.out.below hb4
        simp only [List.length_nil]
        have hbw5 : Below w.heap.size w (w4.alloc (.cells #[.int .i64 0, .string ⟨#[]⟩, .slice a5 0 cap5, .string ⟨#[]⟩, .int .i64 0, .int .i64 0] 31)) := hbw4.alloc hbw4.size _
        have bk5 : Bk w.heap.size #[.int .i64 0, .string ⟨#[]⟩, .slice none 0 0, .string ⟨#[]⟩, .int .i64 0, .int .i64 0] 31 (w4.alloc (.cells #[.int .i64 0, .string ⟨#[]⟩, .slice a5 0 cap5, .string ⟨#[]⟩, .int .i64 0, .int .i64 0] 31)) := bk4.alloc _
        have cM := CM.out (w4.alloc (.cells #[.int .i64 0, .string ⟨#[]⟩, .slice a5 0 cap5, .string ⟨#[]⟩, .int .i64 0, .int .i64 0] 31)) (HS.out.below hbw5)
        have HB5 := Lib.hid hbw5
        have HK5 := Lib.hid bk5
        clear ho4 hb4 hbw4 bk4 hbw5 bk5
        go_wp2_with fail
        refine cM.mono ?_
        rintro r w6 ⟨rfl, hb6⟩
        have hbw6 := HB5.out.trans (hb6.mono HB5.out.size)
        have bk6 := HK5.out.below hb6
        have HB6 := Lib.hid hbw6
        have HK6 := Lib.hid bk6
        clear hb6 hbw6 bk6
        go_wp2
        go_loopw [15] (fun v wr => ∃ j : Nat, v = .int .i64 (j : Int) ∧ i + 1 ≤ j ∧ j ≤ l.length ∧ j + tx (l.drop j) = U ∧ Below w.heap.size w wr ∧ Bk w.heap.size #[.int .i64 0, .string ⟨#[]⟩, .slice none 0 0, .string ⟨#[]⟩, .int .i64 0, .int .i64 0] 31 wr) (fun v _ => l.length - (RowKit.intOf v).toNat)
        case atStart => exact ⟨i + 1, by go_num, by omega, by omega, HU.out, HB6.out, HK6.out⟩
        case round =>
          obtain ⟨j, rfl, hj1, hj2, hJ, hbr, hkr⟩ := hrel
          by_cases hlt : j < l.length
          · have hlt1 : (j : Int) < (l.length : Int) := by omega
            have htx := tx_at hlt
            have cM2 := CM2.out j wr (HS.out.below hbr) hlt
            have hbrk : brk (l.drop j) = (decide (bg (l.drop j) ≠ 0) || decide (Mk.kd (l.drop j) ≠ 0)) := rfl
            by_cases hk2 : Mk.kd (l.drop j) ≠ 0
            · have hkk : (0 : Int) < ((Mk.kd (l.drop j) : Nat) : Int) := by omega
              rw [hbrk, decide_eq_true hk2, Bool.or_true, if_pos rfl] at htx
              obtain rfl : j = U := by omega
              generalize Mk.kd (l.drop j) = K2 at *
              generalize (if K2 = 0 then 0 else j + Mk.ln (l.drop j) K2) = V2 at *
              have HBR := Lib.hid hbr
              have HKR := Lib.hid hkr
              clear hJ hbr hkr htx hbrk hk2
              go_wp2_with fail
              refine cM2.mono ?_
              rintro r w7 ⟨rfl, hb7⟩
              have hbr := HBR.out.trans (hb7.mono HBR.out.size)
              have hkr := HKR.out.below hb7
              have cX := CX.out w7 (HS.out.below hbr)
              have HBR := Lib.hid hbr
              have HKR := Lib.hid hkr
              clear hbr hkr hb7
              go_wp2_with fail
              refine cX.mono ?_
              rintro r w8 ⟨rfl, hb8⟩
              obtain ⟨k0, k1, k2, k3, k4, k5, f0, f1, f2, f3, f4, f5⟩ := (HKR.out.below hb8).six
              have HB8 := Lib.hid hb8
              clear hb8
              go_wp2
              (try simp only [Exit.inBlock, Exit.then])
              refine bodyPost_ret (Tg.results_row_tmp rfl _ _ w.heap.size 31 #[.int .i64 1, .string ⟨#[]⟩, .slice none 0 0, .string ⟨X.toArray⟩, .int .i64 (i : Int), .int .i64 (j : Int)] (0, 0) _ rfl ?_ Tryz.underlying31 rfl info34) rfl ?_
              · exact ((HKR.out.below HB8.out).set6 _ _ _ _ _ _).blk
              · exact ⟨.slice none 0 0, rfl, World.ownsRow_nil _ _ _ _, below_set6 (HBR.out.trans (HB8.out.mono HBR.out.size)) (Nat.le_refl _) _ _ _ _ _ _⟩
            · have hk0 : Mk.kd (l.drop j) = 0 := by simpa using hk2
              rw [hbrk, decide_eq_false hk2, Bool.or_false] at htx
              rw [hk0, if_pos rfl] at cM2
              have hbg : bgAt l (j : Int) = bg (l.drop j) := by unfold bgAt; rw [if_pos (by omega)]; rfl
              have HBR := Lib.hid hbr
              have HKR := Lib.hid hkr
              clear hbr hkr hbrk hk2 hk0
              by_cases hg : bg (l.drop j) ≠ 0
              · rw [decide_eq_true hg, if_pos rfl] at htx
                obtain rfl : j = U := by omega
                have hgg : (0 : Int) < ((bg (l.drop j) : Nat) : Int) := by omega
                have HBG := Lib.hid hbg
                generalize hG : bg (l.drop j) = G at *
                clear hJ htx hg hbg hG
                go_wp2_with fail
                refine cM2.mono ?_
                rintro r w7 ⟨rfl, hb7⟩
                have hbr := HBR.out.trans (hb7.mono HBR.out.size)
                have hkr := HKR.out.below hb7
                have cBg := Tg.rbegins_any (j : Int) w7 (HS.out.below hbr) (by omega)
                rw [HBG.out] at cBg
                have cX := CX.out w7 (HS.out.below hbr)
                have HBR := Lib.hid hbr
                have HKR := Lib.hid hkr
                clear hbr hkr hb7
                go_wp2_with fail
                refine cBg.mono ?_
                rintro r w9 ⟨rfl, rfl⟩
                go_wp2_with fail
                refine cX.mono ?_
                rintro r w8 ⟨rfl, hb8⟩
                obtain ⟨k0, k1, k2, k3, k4, k5, f0, f1, f2, f3, f4, f5⟩ := (HKR.out.below hb8).six
                have HB8 := Lib.hid hb8
                clear hb8
                go_wp2
                (try simp only [Exit.inBlock, Exit.then])
                refine bodyPost_ret (Tg.results_row_tmp rfl _ _ w.heap.size 31 #[.int .i64 1, .string ⟨#[]⟩, .slice none 0 0, .string ⟨X.toArray⟩, .int .i64 (i : Int), .int .i64 (j : Int)] (0, 0) _ rfl ?_ Tryz.underlying31 rfl info34) rfl ?_
                · exact ((HKR.out.below HB8.out).set6 _ _ _ _ _ _).blk
                · exact ⟨.slice none 0 0, rfl, World.ownsRow_nil _ _ _ _, below_set6 (HBR.out.trans (HB8.out.mono HBR.out.size)) (Nat.le_refl _) _ _ _ _ _ _⟩
              · rw [decide_eq_false hg, if_neg (by decide)] at htx
                have hg0 : bg (l.drop j) = 0 := by simpa using hg
                rw [hg0] at hbg
                have HBG := Lib.hid hbg
                have HJ := Lib.hid (show j + 1 + tx (l.drop (j + 1)) = U by omega)
                clear hJ htx hg hg0 hbg
                go_wp2_with fail
                refine cM2.mono ?_
                rintro r w7 ⟨rfl, hb7⟩
                have hbr := HBR.out.trans (hb7.mono HBR.out.size)
                have hkr := HKR.out.below hb7
                have cBg := Tg.rbegins_any (j : Int) w7 (HS.out.below hbr) (by omega)
                rw [HBG.out] at cBg
                have HBR := Lib.hid hbr
                have HKR := Lib.hid hkr
                clear hbr hkr hb7
                go_wp2_with fail
                refine cBg.mono ?_
                rintro r w9 ⟨rfl, rfl⟩
                go_wp2
                go_roundw
                case rel => exact ⟨j + 1, by go_num, by omega, by omega, HJ.out, HBR.out, HKR.out⟩
                case measure => simp [RowKit.intOf]; omega
          · have hlt1 : ¬ ((j : Int) < (l.length : Int)) := by omega
            obtain rfl : j = U := by
              have e : j = l.length := by omega
              rw [e, List.drop_length] at hJ
              have : tx [] = 0 := rfl
              omega
            have cX := CX.out wr (HS.out.below hbr)
            have HBR := Lib.hid hbr
            have HKR := Lib.hid hkr
            clear hJ hbr hkr
            go_wp2_with fail
            refine cX.mono ?_
            rintro r w8 ⟨rfl, hb8⟩
            obtain ⟨k0, k1, k2, k3, k4, k5, f0, f1, f2, f3, f4, f5⟩ := (HKR.out.below hb8).six
            have HB8 := Lib.hid hb8
            clear hb8
            go_wp2
            (try simp only [Exit.inBlock, Exit.then])
            refine bodyPost_ret (Tg.results_row_tmp rfl _ _ w.heap.size 31 #[.int .i64 1, .string ⟨#[]⟩, .slice none 0 0, .string ⟨X.toArray⟩, .int .i64 (i : Int), .int .i64 (j : Int)] (0, 0) _ rfl ?_ Tryz.underlying31 rfl info34) rfl ?_
            · exact ((HKR.out.below HB8.out).set6 _ _ _ _ _ _).blk
            · exact ⟨.slice none 0 0, rfl, World.ownsRow_nil _ _ _ _, below_set6 (HBR.out.trans (HB8.out.mono HBR.out.size)) (Nat.le_refl _) _ _ _ _ _ _⟩

theorem rnext_in (n : List UInt8) (i : Nat) (w : World) (hs : Sl l a cap w) (hl : l.length ≤ 100000 - 1) (hln : n.length ≤ 100000) (hi : i < l.length) :
    Calls Tryz.prog 7 #[.slice a l.length cap, .int .i64 (i : Int), .string ⟨n.toArray⟩] w (RNPost (nxT l n i) w) := by
  by_cases he : Rw.ed n l i = i
  · exact rnext_tag n i w hs hl hln hi he
  · exact rnext_raw n i w hs hl hln hi he
end Go.Proofs.YtndcmapifihgeaaGreatDoor.Tk
