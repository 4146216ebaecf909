/- The law TokenCovers, walked. -/
import Derived.Test.YtndcmapifihgeaaDoorTkSpk
import Derived.Deep.RegionHeld3
import Derived.Laws.OwnMore
import Derived.Deep.RegionWith
import Derived.BigQuiet
import Derived.Deep.QuietTactic
namespace Go.Proofs.YtndcmapifihgeaaDoor.Tk
open Go.RowKit Go.Lib
open Ch (at0 nx nx_width at0_lt at0_drop Sl Sl.below Cells allN allFrom ret_bool)
open Tg (bg tr tn zero29 info29 Bk bk_new below_set6 own_set6 bgAt tkAt tkIn tokV below_of_drew)
open At (cellsA ads below_trans)

variable {l : List UInt8} {a : Option Addr} {cap i : Nat} {w w' : World}

theorem tok_at {L : List (Tok × Value)} {M : List Tok} (hL : L.map Prod.fst = M) (j : Nat) (t : Tok) (h : M[j]? = some t) : ∃ s : Value, L[j]? = some (t, s) := by
  rw [← hL, List.getElem?_map, Option.map_eq_some_iff] at h
  obtain ⟨⟨t', s⟩, h1, rfl⟩ := h
  exact ⟨s, h1⟩

theorem all_take {l : List UInt8} {i u : Nat} (hi : i < u) (hu : u ≤ l.length) : allFrom (l.take u) (i : Int) (u : Int) = all0 (sl l i u) := by
  have hl : (l.take u).length = u := by rw [List.length_take]; omega
  unfold allFrom
  rw [if_pos (by rw [hl]; omega), show (i : Int).toNat = i by omega, show ((u : Int) - (i : Int)).toNat = u - i by omega, List.drop_take]
  have hs : ((l.drop i).take (u - i)).length = u - i := by rw [List.length_take, List.length_drop]; omega
  show allN (sl l i u) (u - i) = allN (sl l i u) (sl l i u).length
  unfold sl
  rw [hs]

theorem Sl.take (h : Sl l a cap w) (u : Nat) (hu : u ≤ l.length) : Sl (l.take u) a cap w := by
  obtain ⟨h1, h2⟩ := h
  refine ⟨by rw [List.length_take]; omega, ?_⟩
  rcases h2 with rfl | ⟨b, off, rfl, hc⟩
  · left; simp
  · right
    refine ⟨b, off, rfl, fun j hj => ?_⟩
    rw [List.length_take] at hj
    rw [hc j (by omega)]
    unfold at0
    rw [List.getD_eq_getElem?_getD, List.getD_eq_getElem?_getD, List.getElem?_take, if_pos (by omega)]

set_option maxHeartbeats 1000000 in
set_option maxRecDepth 100000 in
theorem covers_long (n : Nat) (a : Option Addr) (cap : Nat) (w : World) (hT : Tb w) (h : 400 < n) :
    Calls Tryd.prog 3 #[.slice a n cap] w fun e w' => e = .returned (.bool true) ∧ Below w.heap.size w w' := by
  have h1 : (400 : Int) < (n : Int) := by omega
  go_enter Tryd.func3, Tryd.ntmps3
  go_wp2_with fail
  refine (kspeaks_any w hT).mono ?_
  rintro e w1 ⟨rfl, hb1⟩
  go_wp2_with fail
  refine (kspeaks_any w1 (hT.below hb1)).mono ?_
  rintro e w2 ⟨rfl, hb2⟩
  go_wp2
  go_ret
  exact ⟨rfl, below_trans hb1 hb2⟩

def CvRel (l : List UInt8) (M : List Tok) (w w2 : World) (v3 v20 : Value) (wr : World) : Prop :=
  ∃ (j i : Nat) (n : List UInt8), v3 = .int .i64 (i : Int) ∧ v20 = .int .i64 (j : Int) ∧ j ≤ M.length ∧ i ≤ l.length ∧ M.drop j = al l n i ∧ Below w.heap.size w wr ∧ Below w2.heap.size w2 wr

set_option maxHeartbeats 1000000 in
set_option maxRecDepth 100000 in
theorem covers_nil (a : Option Addr) (cap : Nat) (w : World) (hs : Sl [] a cap w) (hT : Tb w) :
    Calls Tryd.prog 3 #[.slice a 0 cap] w fun e w' => e = .returned (.bool true) ∧ Below w.heap.size w w' := by
  go_enter Tryd.func3, Tryd.ntmps3
  go_wp2_with fail
  refine (kspeaks_any w hT).mono ?_
  rintro e w1 ⟨rfl, hb1⟩
  have cA := all_any w1 (hs.below hb1) (hT.below hb1) (by simp)
  simp only [List.length_nil] at cA
  go_wp2_with fail
  refine cA.mono ?_
  rintro e w2 ⟨L, v, rfl, ho, hh, hb2, hL⟩
  rw [al_end (by simp)] at hL
  obtain rfl : L = [] := by simpa using hL
  have hv : ∃ a2 c2, v = .slice a2 0 c2 := by
    rcases ho.2 with ⟨rfl, -⟩ | ⟨g, c, cur, rfl, -⟩
    · exact ⟨_, _, rfl⟩
    · exact ⟨_, _, rfl⟩
  obtain ⟨a2, c2, rfl⟩ := hv
  have HB := Lib.hid (below_trans hb1 hb2)
  clear ho hh hb1 hb2 hL
  go_wp2
  go_loopw [3, 20] (fun u v wr => u = .int .i64 0 ∧ v = .int .i64 0 ∧ wr = w2) (fun _ _ _ => 0)
  case atStart => exact ⟨rfl, rfl, rfl⟩
  case round =>
    obtain ⟨rfl, rfl, rfl⟩ := hrel
    go_wp2
    go_ret
    exact ⟨rfl, HB.out⟩

theorem any_step {m : List UInt8} {k : Nat} (h : k < m.length) : (m.take (k + 1)).any (· == 38) = ((m.take k).any (· == 38) || decide (at0 m k = 38)) := by
  rw [List.take_succ_eq_append_getElem h, List.any_append]
  congr 1
  simp only [List.any_cons, List.any_nil, Bool.or_false]
  rw [Bool.eq_iff_iff]
  simp only [beq_iff_eq, decide_eq_true_eq]
  unfold at0
  rw [List.getD_eq_getElem?_getD, List.getElem?_eq_getElem h]
  exact ⟨fun e => by rw [Option.getD_some, e]; rfl, fun e => UInt8.toNat_inj.1 e⟩

set_option maxHeartbeats 8000000 in
set_option maxRecDepth 100000 in
theorem covers_walk (l : List UInt8) (a : Option Addr) (cap : Nat) (w : World) (hs : Sl l a cap w) (hT : Tb w) (hl : l.length ≤ 400) (hne : l ≠ []) :
    Calls Tryd.prog 3 #[.slice a l.length cap] w fun e w' => e = .returned (.bool true) ∧ Below w.heap.size w w' := by
  obtain ⟨hcap, hz | ⟨b, off, rfl, hc⟩⟩ := hs
  · exact absurd hz hne
  have hs : Sl l (some ⟨b, off, none⟩) cap w := ⟨hcap, Or.inr ⟨b, off, rfl, hc⟩⟩
  have h400 : ¬ ((400 : Int) < (l.length : Int)) := by omega
  have HS := Lib.hid hs
  have HT := Lib.hid hT
  have HC := Lib.hid hc
  clear hs hT hc
  go_enter Tryd.func3, Tryd.ntmps3
  go_wp2_with fail
  refine (kspeaks_any w HT.out).mono ?_
  rintro e w1 ⟨rfl, hb1⟩
  have cA := all_any w1 (HS.out.below hb1) (HT.out.below hb1) (by omega)
  go_wp2_with fail
  refine cA.mono ?_
  rintro e w2 ⟨L, v, rfl, ho, hh, hb2, hL⟩
  have hlen0 := al_step (l := l) (n := []) (i := 0) (List.length_pos_iff.2 hne)
  have hLne : L ≠ [] := by rintro rfl; rw [hlen0] at hL; simp at hL
  obtain ⟨g, c, rfl, hg1, hg2, hcell⟩ := rowT_cells ho hLne
  have hML : (al l [] 0).length = L.length := by rw [← hL, List.length_map]
  have hLl : L.length ≤ 400 := by have := al_len l.length l [] 0 (by omega); omega
  have HB2 := Lib.hid (below_trans hb1 hb2)
  have HCE := Lib.hid hcell
  have HL := Lib.hid hL
  have HH := Lib.hid hh
  have HML := Lib.hid hML
  clear hcell hL hh hb1 hb2 ho hlen0 hML cA
  go_wp2
  go_loopw [3, 20] (fun v3 v20 wr => CvRel l (al l [] 0) w w2 v3 v20 wr) (fun _ v20 _ => L.length - (RowKit.intOf v20).toNat)
  case atStart => exact ⟨0, 0, [], rfl, rfl, by omega, by omega, rfl, HB2.out, Below.refl _ _⟩
  case round =>
    obtain ⟨j, i, n, rfl, rfl, hj, hi, hdr, hbw, hbw2⟩ := hrel
    rw [HML.out] at hj
    by_cases hlt : j < L.length
    · have hlt1 : (j : Int) < (L.length : Int) := by omega
      have hil : i < l.length := by
        rcases Nat.lt_or_ge i l.length with k | k
        · exact k
        · rw [al_end k] at hdr
          have := congrArg List.length hdr
          simp only [List.length_drop, List.length_nil, HML.out] at this
          omega
      have hp := nxT_is (n := n) hil
      rw [al_step hil] at hdr
      generalize nxT l n i = t at *
      have hMj : (al l [] 0)[j]? = some t := by
        have := congrArg (fun q => q[0]?) hdr
        simp only [List.getElem?_drop, Nat.add_zero, List.getElem?_cons_zero] at this
        exact this
      have hdr2 : (al l [] 0).drop (j + 1) = al l (wi n t) t.upto := by
        have := congrArg (fun q => q.drop 1) hdr
        simp only [List.drop_drop, List.drop_succ_cons, List.drop_zero] at this
        exact this
      obtain ⟨s, hLj⟩ := tok_at HL.out j t hMj
      have hcs := fun k hk => (hbw2.cell (p := ⟨g, j * 6 + k, none⟩) hg2).trans (HCE.out j t s hLj k hk)
      have c0 : wr.cell? ⟨g, j * 6, none⟩ = some (.int .i64 (t.kind : Int)) := hcs 0 (by decide)
      have c1 : wr.cell? ⟨g, j * 6 + 1, none⟩ = some (.string ⟨t.name.toArray⟩) := hcs 1 (by decide)
      have c2 : wr.cell? ⟨g, j * 6 + 2, none⟩ = some s := hcs 2 (by decide)
      have c3 : wr.cell? ⟨g, j * 6 + 3, none⟩ = some (.string ⟨t.text.toArray⟩) := hcs 3 (by decide)
      have c4 : wr.cell? ⟨g, j * 6 + 4, none⟩ = some (.int .i64 (t.frm : Int)) := hcs 4 (by decide)
      have c5 : wr.cell? ⟨g, j * 6 + 5, none⟩ = some (.int .i64 (t.upto : Int)) := hcs 5 (by decide)
      have hfrm := hp.1
      rw [hfrm] at c4
      obtain ⟨a5, cap5, hs5, -⟩ := At.sl_own (show w2.ownsRow 0 63 2 s t.attrs.length (cellsA t.attrs) from HH.out (t, s) (List.mem_of_getElem? hLj))
      subst hs5
      have hsz := hbw2.size
      have HD2 := Lib.hid hdr2
      have HBW := Lib.hid hbw
      have HBW2 := Lib.hid hbw2
      have HP := Lib.hid hp
      have h2 := hp.2.1
      have h3 := hp.2.2.1
      have h4 := hp.2.2.2.1
      have hg3 : g < wr.heap.size := by omega
      clear hcs hdr hdr2 hbw hbw2 hp hMj hLj hfrm
      have g1 : ¬ ((t.upto : Int) ≤ (i : Int)) := by omega
      have g2 : ¬ ((l.length : Int) < (t.upto : Int)) := by omega
      have g3 : ¬ ((t.kind : Int) < 0) := by omega
      have g4 : ¬ ((3 : Int) < (t.kind : Int)) := by omega
      by_cases hk1 : t.kind = 1
      · obtain ⟨e1, e2, e3⟩ := HP.out.2.2.2.2.2.2 hk1
        rw [hk1] at c0
        rw [e1] at c1
        rw [e2] at c2
        simp only [List.length_nil] at c2
        change wr.cell? ⟨g, j * 6 + 1, none⟩ = some (.string ⟨#[]⟩) at c1
        change wr.cell? ⟨g, j * 6, none⟩ = some (.int .i64 1) at c0
        clear g3 g4 h4
        have HE := Lib.hid e3
        have HU := Lib.hid (show (al l [] 0).drop (j + 1) = al l (wi n t) t.upto from HD2.out)
        clear e1 e2 e3 hk1 HD2 HP
        generalize hW : wi n t = n2 at HU
        clear hW
        generalize t.text = X at *
        generalize t.upto = U at *
        clear t
        obtain ⟨WO, hWO⟩ : ∃ WO, WO = wr := ⟨_, rfl⟩
        subst hWO
        obtain ⟨WA, hWA⟩ : ∃ WA, WO.alloc (.cells #[.int .i64 1, .string ⟨#[]⟩, .slice a5 0 cap5, .string ⟨X.toArray⟩, .int .i64 (i : Int), .int .i64 (U : Int)] 28) = WA := ⟨_, rfl⟩
        have bA : Bk WO.heap.size #[.int .i64 1, .string ⟨#[]⟩, .slice a5 0 cap5, .string ⟨X.toArray⟩, .int .i64 (i : Int), .int .i64 (U : Int)] 28 WA := by rw [← hWA]; exact bk_new WO _ 28
        have hbA : Below WO.heap.size WO WA := by rw [← hWA]; exact (Below.refl _ WO).alloc (Nat.le_refl _) _
        obtain ⟨q0, q1, q2, q3, q4, q5, -, -, -, -, -, -⟩ := bA.six
        have hUc : U ≤ cap := by omega
        have HCW := Lib.hid (HC.out.below (HBW.out.trans (hbA.mono HBW.out.size)))
        have HBA := Lib.hid hbA
        have HKA := Lib.hid bA
        clear hbA bA
        have hiU : i ≤ U := by omega
        have hic : i < cap := by omega
        go_wp2
        go_loopw [6, 66] (fun v6 v66 wz => ∃ k : Nat, v66 = .int .i64 (k : Int) ∧ k ≤ U - i ∧ v6 = .bool (((sl l i U).take k).any (· == 38)) ∧ wz = WA) (fun _ v66 _ => (U - i) - (RowKit.intOf v66).toNat)
        case atStart => exact ⟨0, rfl, by omega, rfl, rfl⟩
        case round =>
          obtain ⟨k, rfl, hk, rfl, rfl⟩ := hrel
          by_cases hklt : k < U - i
          · have hlt2 : (k : Int) < ((U - i : Nat) : Int) := by omega
            have hlt3 : (k : Int) < (U : Int) - (i : Int) := by omega
            have hcell : wr.cell? ⟨b, off + i + k, none⟩ = some (.int .u8 ((at0 l (i + k) : Nat) : Int)) := by
              rw [Nat.add_assoc]; exact HCW.out (i + k) (by omega)
            have hsl : (sl l i U).length = U - i := by unfold sl; rw [List.length_take, List.length_drop]; omega
            have hat : at0 (sl l i U) k = at0 l (i + k) := by
              unfold sl
              rw [← at0_drop]
              unfold at0
              rw [List.getD_eq_getElem?_getD, List.getD_eq_getElem?_getD, List.getElem?_take, if_pos hklt]
            have hst := any_step (m := sl l i U) (k := k) (by omega)
            rw [hat] at hst
            have HST := Lib.hid hst
            clear hst hat
            generalize at0 l (i + k) = A at *
            cases hA : ((sl l i U).take k).any (· == 38) with
            | true =>
              rw [hA, Bool.true_or] at HST
              go_wp2
              go_roundw
              case rel => exact ⟨k + 1, by go_num, by omega, by rw [HST.out]; try (simp; omega), by first | trivial | rfl⟩
              case measure => simp [RowKit.intOf]; omega
            | false =>
              rw [hA, Bool.false_or] at HST
              by_cases h38 : A = 38
              · have h39 : ((A : Nat) : Int) = 38 := by omega
                rw [decide_eq_true h38] at HST
                clear h38
                go_wp2
                go_roundw
                case rel => exact ⟨k + 1, by go_num, by omega, by rw [HST.out]; try (simp; omega), by first | trivial | rfl⟩
                case measure => simp [RowKit.intOf]; omega
              · have h39 : ¬ (((A : Nat) : Int) = 38) := by omega
                rw [decide_eq_false h38] at HST
                clear h38
                go_wp2
                go_roundw
                case rel => exact ⟨k + 1, by go_num, by omega, by rw [HST.out]; try (simp; omega), by first | trivial | rfl⟩
                case measure => simp [RowKit.intOf]; omega
          · have hlt2 : ¬ ((k : Int) < ((U - i : Nat) : Int)) := by omega
            have hlt3 : ¬ ((k : Int) < (U : Int) - (i : Int)) := by omega
            have hsl : (sl l i U).length = U - i := by unfold sl; rw [List.length_take, List.length_drop]; omega
            have hfull : (sl l i U).take k = sl l i U := List.take_of_length_le (by omega)
            rw [hfull]
            have d0 : wr.drew.cell? ⟨WO.heap.size, 0, none⟩ = some (.int .i64 1) := q0
            have d1 : wr.drew.cell? ⟨WO.heap.size, 1, none⟩ = some (.string ⟨#[]⟩) := q1
            have d2 : wr.drew.cell? ⟨WO.heap.size, 2, none⟩ = some (.slice a5 0 cap5) := q2
            have d3 : wr.drew.cell? ⟨WO.heap.size, 3, none⟩ = some (.string ⟨X.toArray⟩) := q3
            have d4 : wr.drew.cell? ⟨WO.heap.size, 4, none⟩ = some (.int .i64 (i : Int)) := q4
            have d5 : wr.drew.cell? ⟨WO.heap.size, 5, none⟩ = some (.int .i64 (U : Int)) := q5
            have hbwA := HBW.out.trans (HBA.out.mono HBW.out.size)
            have hbw2A := HBW2.out.trans (HBA.out.mono HBW2.out.size)
            have HBWA := Lib.hid hbwA
            have HBW2A := Lib.hid hbw2A
            cases hA : (sl l i U).any (· == 38) with
            | true =>
              clear hfull hsl hbwA hbw2A d0 d1 d2 d3 d4 d5
              go_wp2_with fail
              go_quiet (fail)
              go_wp2
              go_roundw
              case rel => exact ⟨j + 1, U, n2, rfl, by go_num, by rw [HML.out]; omega, h3, HU.out, At.below_drewN HBWA.out _, At.below_drewN HBW2A.out _⟩
              case measure => simp [RowKit.intOf]; omega
            | false =>
              have hX : X = all0 (sl l i U) := HE.out (fun z hz h => by
                have := List.any_eq_false.1 hA z hz
                rw [h] at this
                exact this (by decide))
              have dr : Below wr.heap.size wr wr.drew := ⟨rfl, rfl, rfl, Nat.le_refl _, fun _ _ => rfl⟩
              have cC := Ch.all_any (l.take U) (some ⟨b, off, none⟩) cap (i : Int) (U : Int) wr.drew (Sl.take ((HS.out.below hbwA).below dr) U (by omega)) (((HT.out.below hbwA).below dr).1) (by rw [List.length_take]; omega)
              rw [all_take (by omega) (by omega), show (l.take U).length = U by rw [List.length_take]; omega, ← hX] at cC
              have HKO := Lib.hid HKA.out
              clear hfull hsl hX hA dr hbwA hbw2A
              go_wp2_with fail
              go_region_held3 (fun w' => w'.cell? ⟨WO.heap.size, 0, none⟩ = some (.int .i64 1) ∧ w'.cell? ⟨WO.heap.size, 1, none⟩ = some (.string ⟨#[]⟩) ∧ w'.cell? ⟨WO.heap.size, 2, none⟩ = some (.slice a5 0 cap5) ∧ w'.cell? ⟨WO.heap.size, 3, none⟩ = some (.string ⟨X.toArray⟩) ∧ w'.cell? ⟨WO.heap.size, 4, none⟩ = some (.int .i64 (i : Int)) ∧ w'.cell? ⟨WO.heap.size, 5, none⟩ = some (.int .i64 (U : Int))) (first | with_reducible exact ⟨p0, p1, p2, p3, p4, p5⟩ | with_reducible exact ⟨q0, q1, q2, q3, q4, q5⟩ | with_reducible exact ⟨d0, d1, d2, d3, d4, d5⟩)
                (first
                | (go_at_call 8; with_reducible refine cC.mono ?_; rintro e w7 ⟨rfl, hb7⟩; have hb7 := below_of_drew hb7; obtain ⟨p0, p1, p2, p3, p4, p5, -, -, -, -, -, -⟩ := (HKO.out.below hb7).six; have HB7 := Lib.hid hb7; clear hb7))
              all_goals (try go_wp2)
              all_goals go_roundw
              case rel => exact ⟨j + 1, U, n2, rfl, by go_num, by rw [HML.out]; omega, h3, HU.out, HBWA.out.trans (HB7.out.mono HBWA.out.size), HBW2A.out.trans (HB7.out.mono HBW2A.out.size)⟩
              case measure => simp [RowKit.intOf]; omega
      · have htx := HP.out.2.2.2.2.2.1 hk1
        rw [htx] at c3
        change wr.cell? ⟨g, j * 6 + 3, none⟩ = some (.string ⟨#[]⟩) at c3
        have hk2 : ¬ ((t.kind : Int) = 1) := by omega
        clear HP htx hk1
        obtain ⟨WA, hWA⟩ : ∃ WA, wr.alloc (.cells #[.int .i64 (t.kind : Int), .string ⟨t.name.toArray⟩, .slice a5 t.attrs.length cap5, .string ⟨#[]⟩, .int .i64 (i : Int), .int .i64 (t.upto : Int)] 28) = WA := ⟨_, rfl⟩
        have bA : Bk wr.heap.size #[.int .i64 (t.kind : Int), .string ⟨t.name.toArray⟩, .slice a5 t.attrs.length cap5, .string ⟨#[]⟩, .int .i64 (i : Int), .int .i64 (t.upto : Int)] 28 WA := by rw [← hWA]; exact bk_new wr _ 28
        have hbA : Below wr.heap.size wr WA := by rw [← hWA]; exact (Below.refl _ wr).alloc (Nat.le_refl _) _
        obtain ⟨q0, q1, q2, q3, q4, q5, -, -, -, -, -, -⟩ := bA.six
        have HBA := Lib.hid hbA
        clear hbA bA
        go_wp2
        go_roundw
        case rel => exact ⟨j + 1, t.upto, wi n t, rfl, by go_num, by rw [HML.out]; omega, h3, HD2.out, HBW.out.trans (HBA.out.mono HBW.out.size), HBW2.out.trans (HBA.out.mono HBW2.out.size)⟩
        case measure => simp [RowKit.intOf]; omega
    · have hlt1 : ¬ ((j : Int) < (L.length : Int)) := by omega
      have hjl : i = l.length := by
        rcases Nat.lt_or_ge i l.length with k | k
        · rw [al_step k] at hdr
          have := congrArg List.length hdr
          simp only [List.length_drop, List.length_cons, HML.out] at this
          omega
        · omega
      subst hjl
      have HBW := Lib.hid hbw
      clear hbw hbw2 hdr
      go_wp2
      go_ret
      exact ⟨rfl, HBW.out⟩
end Go.Proofs.YtndcmapifihgeaaDoor.Tk
