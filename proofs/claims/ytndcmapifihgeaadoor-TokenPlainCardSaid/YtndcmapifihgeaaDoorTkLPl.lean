/- The law TokenPlain, walked. -/
import Derived.Test.YtndcmapifihgeaaDoorTkLFr
import Derived.Test.YtndcmapifihgeaaDoorTkPlM
namespace Go.Proofs.YtndcmapifihgeaaDoor.Tk
open Go.RowKit Go.Lib
open Ch (at0 nx nx_width at0_lt at0_drop Sl Sl.below Cells allN allFrom ret_bool info5)
open Tg (bg tr tn zero29 info29 Bk bk_new below_set6 own_set6 bgAt tkAt tkIn tokV below_of_drew)
open At (cellsA ads below_trans)
open Rw (Mine)

variable {l : List UInt8} {a : Option Addr} {cap i : Nat} {w w' : World}

set_option maxHeartbeats 1000000 in
set_option maxRecDepth 100000 in
theorem plain_long (n : Nat) (x : Int) (a : Option Addr) (cap : Nat) (w : World) (hT : Tb w) (h : 200 < n) :
    Calls Tryd.prog 5 #[.slice a n cap, .int .u8 x] w fun e w' => e = .returned (.bool true) ∧ Below w.heap.size w w' := by
  have h1 : (200 : Int) < (n : Int) := by omega
  go_enter Tryd.func5, Tryd.ntmps5
  go_wp2_with fail
  refine (kspeaks_any w hT).mono ?_
  rintro e w1 ⟨rfl, hb1⟩
  go_wp2_with fail
  refine (kspeaks_any w1 (hT.below hb1)).mono ?_
  rintro e w2 ⟨rfl, hb2⟩
  go_wp2
  go_ret
  exact ⟨rfl, below_trans hb1 hb2⟩

/-- one byte behind a row of one's own: it is laid in a block first -/
theorem app_byte {s : List UInt8} {v : Value} {w0 w : World} (h : Mine s w0.heap.size v w) (hb : Below w0.heap.size w0 w) (c : UInt8) (hlen : s.length + 1 ≤ 100000) :
    ∃ v' w', (Builtin.append_ #[22, 22] 22 #[v, .slice (some ⟨w.heap.size, 0, none⟩) 1 1]).run Tryd.prog (w.alloc (.cells #[.int .u8 (c.toNat : Int)] 5)) = .ok v' w' ∧ Mine (s ++ [c]) w0.heap.size v' w' ∧ Below w0.heap.size w0 w' := by
  have hA : Below w.heap.size w (w.alloc (.cells #[.int .u8 (c.toNat : Int)] 5)) := (Below.refl _ w).alloc (Nat.le_refl _) _
  have hk := bk_new w #[.int .u8 (c.toNat : Int)] 5
  exact (h.below hA).slice (hb.alloc hb.size _) w.heap.size 0 1 (t := [c]) (by simp) (fun j hj => by
    obtain rfl : j = 0 := by simp at hj; omega
    exact hk.cell 0) (by simpa using hlen)

def P1 (l : List UInt8) (w1 : World) (v5 v24 : Value) (wr : World) : Prop :=
  ∃ k : Nat, v24 = .int .i64 (k : Int) ∧ k ≤ l.length ∧ Mine (fl (l.take k)) w1.heap.size v5 wr ∧ Below w1.heap.size w1 wr

def P2 (F : List UInt8) (N : Nat) (w2 : World) (v9 v73 : Value) (wr : World) : Prop :=
  ∃ k : Nat, v73 = .int .i64 (k : Int) ∧ k ≤ N ∧ Mine (pg F k) w2.heap.size v9 wr ∧ Below w2.heap.size w2 wr
def P3 (n : Nat) (w w5 : World) (v89 : Value) (wr : World) : Prop :=
  ∃ j : Nat, v89 = .int .i64 (j : Int) ∧ j ≤ n ∧ Below w.heap.size w wr ∧ Below w5.heap.size w5 wr

set_option maxHeartbeats 8000000 in
set_option maxRecDepth 100000 in
theorem plain_some (l : List UInt8) (a : Option Addr) (cap N : Nat) (x : Int) (hx : 0 ≤ x ∧ x < 256) (hN : x % 8 = (N : Int)) (w : World) (hs : Sl l a cap w) (hT : Tb w) (hl : l.length ≤ 200) (hne : l ≠ []) :
    Calls Tryd.prog 5 #[.slice a l.length cap, .int .u8 x] w fun e w' => e = .returned (.bool true) ∧ Below w.heap.size w w' := by
  have hN8 : N < 8 := by omega
  obtain ⟨hcap, hz | ⟨b, off, rfl, hc⟩⟩ := hs
  · exact absurd hz hne
  have h200 : ¬ ((200 : Int) < (l.length : Int)) := by omega
  have HT := Lib.hid hT
  have HC := Lib.hid hc
  clear hT hc
  go_enter Tryd.func5, Tryd.ntmps5
  go_wp2_with fail
  refine (kspeaks_any w HT.out).mono ?_
  rintro e w1 ⟨rfl, hb1⟩
  have HB1 := Lib.hid hb1
  clear hb1
  go_wp2
  go_loopw [5, 24] (fun v5 v24 wr => P1 l w1 v5 v24 wr) (fun _ v24 _ => l.length - (RowKit.intOf v24).toNat)
  case atStart => exact ⟨0, rfl, by omega, Or.inl (World.ownsRow_nil _ _ _ _), Below.refl _ _⟩
  case round =>
    obtain ⟨k, rfl, hk, hmine, hbw⟩ := hrel
    have hbww := HB1.out.trans (hbw.mono HB1.out.size)
    by_cases hlt : k < l.length
    · have hlt1 : (k : Int) < (l.length : Int) := by omega
      have hcell : wr.cell? ⟨b, off + k, none⟩ = some (.int .u8 ((at0 l k : Nat) : Int)) := (HC.out.below hbww) k hlt
      have hst := fl_take hlt
      have hfl := fl_len (l.take k)
      have hfl2 : (l.take k).length ≤ 200 := by rw [List.length_take]; omega
      have hk8 : at0 l k = l[k].toNat := by
        unfold at0
        rw [List.getD_eq_getElem?_getD, List.getElem?_eq_getElem hlt]
        rfl
      by_cases h60 : at0 l k = 60
      · rw [if_pos h60] at hst
        have h61 : ((at0 l k : Nat) : Int) = 60 := by omega
        have HM := Lib.hid (show Mine (fl (l.take (k + 1))) w1.heap.size u5 wr by rw [hst]; exact hmine)
        have HBW := Lib.hid hbw
        clear hst hmine hbw hbww h60 hfl hfl2 hk8
        generalize at0 l k = A at *
        go_wp2
        go_roundw
        case rel => exact ⟨k + 1, by go_num, by omega, HM.out, HBW.out⟩
        case measure => simp [RowKit.intOf]; omega
      · rw [if_neg h60] at hst
        have h61 : ¬ (((at0 l k : Nat) : Int) = 60) := by omega
        obtain ⟨v', w3, hr, hm3, hb3⟩ := app_byte hmine hbw l[k] (by omega)
        rw [← hk8] at hr
        have HR := Lib.hid hr
        have HM := Lib.hid (show Mine (fl (l.take (k + 1))) w1.heap.size v' w3 by rw [hst]; exact hm3)
        have HB3 := Lib.hid hb3
        clear hst hmine hbw hbww h60 hfl hfl2 hk8 hr hm3 hb3
        generalize at0 l k = A at *
        go_wp2_with (at_builtin; refine Lib.wpList_append_run _ rfl (.tmp 30) (.tmp 32) 22 22 rfl _ _ rfl rfl v' w3 HR.out ?_)
        go_roundw
        case rel => exact ⟨k + 1, by go_num, by omega, HM.out, HB3.out⟩
        case measure => simp [RowKit.intOf]; omega
    · have hlt1 : ¬ ((k : Int) < (l.length : Int)) := by omega
      rw [List.take_of_length_le (by omega)] at hmine
      have hflne := fl_ne l
      have hfl := fl_len l
      obtain ⟨F, hF⟩ : ∃ F, fl l = F := ⟨_, rfl⟩
      rw [hF] at hmine hflne hfl
      obtain ⟨a5, cp5, rfl, hs5⟩ := hmine.sl
      have cA := all_any (l := F) (a := a5) (cap := cp5) wr hs5 (HT.out.below hbww) (by omega)
      by_cases hF0 : F = []
      · subst hF0
        simp only [List.length_nil] at *
        have HB := Lib.hid hbww
        clear hmine hbw hbww hs5
        go_wp2_with fail
        refine cA.mono ?_
        rintro e w2 ⟨L, v, rfl, ho, hh, hb2, hL⟩
        rw [al_end (by simp)] at hL
        obtain rfl : L = [] := by simpa using hL
        have hv : ∃ a2 c2, v = .slice a2 0 c2 := by
          rcases ho.2 with ⟨rfl, -⟩ | ⟨g, c, cur, rfl, -⟩
          · exact ⟨_, _, rfl⟩
          · exact ⟨_, _, rfl⟩
        obtain ⟨a2, c2, rfl⟩ := hv
        have HB2 := Lib.hid (HB.out.trans (hb2.mono HB.out.size))
        clear ho hh hb2 hL
        go_wp2
        go_ret
        exact ⟨rfl, HB2.out⟩
      · obtain ⟨WO, hWO⟩ : ∃ WO, WO = wr := ⟨_, rfl⟩
        subst hWO
        obtain ⟨hc5, hz | ⟨b5, o5, rfl, hcF⟩⟩ := hs5
        · exact absurd hz hF0
        have hal := al_plain hflne hF0
        have hFpos := List.length_pos_iff.2 hF0
        have hFi : ((F.length : Int) == 0) = false := beq_eq_false_iff_ne.2 (by omega)
        have HB := Lib.hid hbww
        have HCF := Lib.hid hcF
        have HFN := Lib.hid hflne
        have HAL := Lib.hid hal
        obtain ⟨X, hX⟩ : ∃ X, txt false F = X := ⟨_, rfl⟩
        have HX := Lib.hid hX
        clear hmine hbw hbww hcF hal hflne hX hF
        go_wp2_with fail
        refine cA.mono ?_
        rintro e w2 ⟨L, v, rfl, ho, hh, hb2, hL⟩
        rw [HAL.out, HX.out] at hL
        have hl1 : L.length = 1 := by have := congrArg List.length hL; simpa using this
        obtain ⟨g, c, rfl, -, hg2, hcell⟩ := rowT_cells ho (by rintro rfl; simp at hl1)
        obtain ⟨s0, hL0⟩ := tok_at hL 0 _ rfl
        have c0 : w2.cell? ⟨g, 0, none⟩ = some (.int .i64 1) := hcell 0 _ _ hL0 0 (by decide)
        have c4 : w2.cell? ⟨g, 4, none⟩ = some (.int .i64 0) := hcell 0 _ _ hL0 4 (by decide)
        have c5 : w2.cell? ⟨g, 5, none⟩ = some (.int .i64 (F.length : Int)) := hcell 0 _ _ hL0 5 (by decide)
        have c3 : w2.cell? ⟨g, 3, none⟩ = some (.string ⟨X.toArray⟩) := hcell 0 _ _ hL0 3 (by decide)
        rw [hl1]
        have hbw2 := HB.out.trans (hb2.mono HB.out.size)
        have HB2 := Lib.hid hbw2
        have HCF2 := Lib.hid (HCF.out.below hb2)
        have hFl : F.length ≤ 200 := by omega
        clear cA ho hh hb2 hL hL0 hcell hl1 hbw2
        go_wp2
        have HF0 := Lib.hid hF0
        have HFP := Lib.hid hFpos
        clear hN hx hFi hF0 hFpos
        go_loopw [9, 73] (fun v9 v73 wr => P2 F N w2 v9 v73 wr) (fun _ v73 _ => N - (RowKit.intOf v73).toNat)
        case atStart => exact ⟨0, rfl, by omega, Or.inl (World.ownsRow_nil _ _ _ _), Below.refl _ _⟩
        case round =>
          obtain ⟨k, rfl, hk, hmine, hbw⟩ := hrel
          have hpl : (pg F k).length ≤ 2000 := by
            rw [pg_len]
            have : k * (F.length + 3) ≤ 8 * 203 := Nat.mul_le_mul (by omega) (by omega)
            omega
          by_cases hlt : k < N
          · have hlt1 : (k : Int) < (N : Int) := by omega
            obtain ⟨v1, w3, hr1, hm1, hb3⟩ := hmine.slice hbw b5 o5 cp5 HFP.out (HCF2.out.below hbw) (by omega)
            obtain ⟨v2, w4, hr2, hm2, hb4⟩ := hm1.str hb3 tagI (by decide) (by rw [List.length_append]; have : tagI.length = 3 := rfl; omega)
            rw [← pg_snoc] at hm2
            have HR1 := Lib.hid hr1
            have HR2 := Lib.hid hr2
            have HM := Lib.hid hm2
            have HB4 := Lib.hid hb4
            clear hr1 hr2 hm1 hm2 hb3 hb4 hmine hbw hpl
            go_wp2_with (first
              | (at_builtin; refine Lib.wpList_append_run _ rfl (.tmp 75) (.tmp 76) 22 22 rfl _ _ rfl rfl v1 w3 HR1.out ?_)
              | (at_builtin; refine Lib.wpList_append_run _ rfl (.tmp 77) (.const (.string ⟨#[60, 105, 62]⟩)) 22 9 rfl _ _ rfl rfl v2 w4 HR2.out ?_))
            go_roundw
            case rel => exact ⟨k + 1, by go_num, by omega, HM.out, HB4.out⟩
            case measure => simp [RowKit.intOf]; omega
          · have hlt1 : ¬ ((k : Int) < (N : Int)) := by omega
            obtain rfl : k = N := by omega
            have hap := al_page HFN.out HF0.out k (pg F k) [] 0 (by decide) (List.drop_zero)
            rw [HX.out] at hap
            obtain ⟨J, hJ⟩ : ∃ J, pg F k = J := ⟨_, rfl⟩
            rw [hJ] at hmine hap hpl
            obtain ⟨a9, c9, rfl, hs9⟩ := hmine.sl
            have hbwW := HB2.out.trans (hbw.mono HB2.out.size)
            have cJ := all_any (l := J) (a := a9) (cap := c9) wr hs9 (HT.out.below hbwW) (by omega)
            obtain ⟨W7, hW7⟩ : ∃ W7, W7 = wr := ⟨_, rfl⟩
            subst hW7
            have HAP := Lib.hid hap
            have HBW := Lib.hid hbw
            have HBWW := Lib.hid hbwW
            clear hmine hs9 hJ hap hbw hbwW hpl
            go_wp2_with fail
            refine cJ.mono ?_
            rintro e w5 ⟨M, v5, rfl, ho5, hh5, hb5, hM⟩
            have hML : M.length = 2 * k := by
              have := congrArg List.length hM
              rw [List.length_map] at this
              rw [this]; exact HAP.out.1
            have hv5 : ∃ av cv, v5 = .slice av M.length cv := by
              rcases ho5.2 with ⟨rfl, h0⟩ | ⟨g, c, cur, rfl, -⟩
              · exact ⟨_, _, by rw [h0]⟩
              · exact ⟨_, _, rfl⟩
            obtain ⟨am, cm, rfl⟩ := hv5
            have hb25 : Below w2.heap.size w2 w5 := HBW.out.trans (hb5.mono HBW.out.size)
            have hbw5 : Below w.heap.size w w5 := HBWW.out.trans (hb5.mono HBWW.out.size)
            have d3 : w5.cell? ⟨g, 3, none⟩ = some (.string ⟨X.toArray⟩) := (hb25.cell (p := ⟨g, 3, none⟩) hg2).trans c3
            have hg5 : g < w5.heap.size := by have := hb25.size; omega
            have hMi : (M.length : Int) = 2 * (k : Int) := by omega
            have HB5 := Lib.hid hbw5
            by_cases hk0 : k = 0
            · subst hk0
              obtain rfl : M = [] := List.eq_nil_of_length_eq_zero (by omega)
              clear ho5 hh5 hb5 hM hb25 hbw5 cJ hMi hML
              simp only [List.length_nil]
              go_wp2
              go_loopw [89] (fun v wr => v = .int .i64 0 ∧ wr = w5) (fun _ _ => 0)
              case atStart => exact ⟨rfl, rfl⟩
              case round =>
                obtain ⟨rfl, rfl⟩ := hrel
                go_wp2
                go_ret
                exact ⟨rfl, HB5.out⟩
            · obtain ⟨gM, c', hvM, -, hgM, hcellM⟩ := rowT_cells ho5 (by intro h; rw [h, List.length_nil] at hML; omega)
              simp only [Value.slice.injEq] at hvM
              obtain ⟨rfl, -, rfl⟩ := hvM
              have hMl : M.length ≤ 20 := by omega
              have HHM := Lib.hid hh5
              have HCM := Lib.hid hcellM
              have HM := Lib.hid hM
              clear ho5 hh5 hb5 hM hb25 hbw5 cJ hcellM hk0
              go_wp2
              have HML := Lib.hid hML
              clear hMi hML
              go_loopw [89] (fun v89 wr => P3 M.length w w5 v89 wr) (fun v89 _ => M.length - (RowKit.intOf v89).toNat)
              case atStart => exact ⟨0, rfl, by omega, HB5.out, Below.refl _ _⟩
              case round =>
                obtain ⟨j, rfl, hj, hbw, hbw5⟩ := hrel
                by_cases hlt : j < M.length
                · have hlt1 : (j : Int) < (M.length : Int) := by omega
                  have hlt2 : (j : Int) < 2 * (k : Int) := by have := HML.out; omega
                  obtain ⟨t, ht⟩ : ∃ t, (al J [] 0)[j]? = some t := by
                    have : j < (al J [] 0).length := by rw [← HM.out, List.length_map]; exact hlt
                    exact ⟨_, List.getElem?_eq_getElem this⟩
                  obtain ⟨s, hMj⟩ := tok_at HM.out j t ht
                  have hp := HAP.out.2 j t ht
                  obtain ⟨a5, c5, hs5, -⟩ := At.sl_own (show w5.ownsRow 0 63 2 s t.attrs.length (cellsA t.attrs) from HHM.out (t, s) (List.mem_of_getElem? hMj))
                  subst hs5
                  have hcs := fun k hk => (hbw5.cell (p := ⟨gM, j * 6 + k, none⟩) hgM).trans (HCM.out j t _ hMj k hk)
                  have q0 : wr.cell? ⟨gM, j * 6, none⟩ = some (.int .i64 (t.kind : Int)) := hcs 0 (by decide)
                  have q1 : wr.cell? ⟨gM, j * 6 + 1, none⟩ = some (.string ⟨t.name.toArray⟩) := hcs 1 (by decide)
                  have q2 : wr.cell? ⟨gM, j * 6 + 2, none⟩ = some (.slice a5 t.attrs.length c5) := hcs 2 (by decide)
                  have q3 : wr.cell? ⟨gM, j * 6 + 3, none⟩ = some (.string ⟨t.text.toArray⟩) := hcs 3 (by decide)
                  have q4 : wr.cell? ⟨gM, j * 6 + 4, none⟩ = some (.int .i64 (t.frm : Int)) := hcs 4 (by decide)
                  have q5 : wr.cell? ⟨gM, j * 6 + 5, none⟩ = some (.int .i64 (t.upto : Int)) := hcs 5 (by decide)
                  have e3 : wr.cell? ⟨g, 3, none⟩ = some (.string ⟨X.toArray⟩) := (hbw5.cell (p := ⟨g, 3, none⟩) hg5).trans d3
                  obtain ⟨WA, hWA⟩ : ∃ WA, wr.alloc (.cells #[.int .i64 (t.kind : Int), .string ⟨t.name.toArray⟩, .slice a5 t.attrs.length c5, .string ⟨t.text.toArray⟩, .int .i64 (t.frm : Int), .int .i64 (t.upto : Int)] 28) = WA := ⟨_, rfl⟩
                  have bA : Bk wr.heap.size #[.int .i64 (t.kind : Int), .string ⟨t.name.toArray⟩, .slice a5 t.attrs.length c5, .string ⟨t.text.toArray⟩, .int .i64 (t.frm : Int), .int .i64 (t.upto : Int)] 28 WA := by rw [← hWA]; exact bk_new wr _ 28
                  have hbA : Below wr.heap.size wr WA := by rw [← hWA]; exact (Below.refl _ wr).alloc (Nat.le_refl _) _
                  obtain ⟨p0, p1, p2, p3, p4, p5, -, -, -, -, -, -⟩ := bA.six
                  have f3 : WA.cell? ⟨g, 3, none⟩ = some (.string ⟨X.toArray⟩) := (hbA.cell (p := ⟨g, 3, none⟩) (by show g < wr.heap.size; have := hbw5.size; omega)).trans e3
                  have HBA := Lib.hid hbA
                  have HBW := Lib.hid hbw
                  have HBW5 := Lib.hid hbw5
                  clear hcs bA hbA hbw hbw5 ht hMj
                  rcases (by omega : j % 2 = 0 ∨ j % 2 = 1) with h2 | h2
                  · have ht := hp.1 h2
                    rw [ht] at p3 q3 hWA
                    clear hp ht
                    have i2 : (j : Int) % 2 = 0 := by omega
                    go_wp2_with fail
                    go_quiet (fail)
                    go_wp2
                    go_roundw
                    case rel => exact ⟨j + 1, by go_num, by omega, At.below_drewN (HBW.out.trans (HBA.out.mono HBW.out.size)) _, At.below_drewN (HBW5.out.trans (HBA.out.mono HBW5.out.size)) _⟩
                    case measure => simp [RowKit.intOf]; omega
                  · have ht := hp.2 h2
                    rw [ht] at p1 q1 hWA
                    clear hp ht
                    have i2 : (j : Int) % 2 = 1 := by omega
                    go_wp2_with fail
                    go_quiet (fail)
                    go_wp2
                    go_roundw
                    case rel => exact ⟨j + 1, by go_num, by omega, At.below_drewN (HBW.out.trans (HBA.out.mono HBW.out.size)) _, At.below_drewN (HBW5.out.trans (HBA.out.mono HBW5.out.size)) _⟩
                    case measure => simp [RowKit.intOf]; omega
                · have hlt1 : ¬ ((j : Int) < (M.length : Int)) := by omega
                  have hlt2 : ¬ ((j : Int) < 2 * (k : Int)) := by have := HML.out; omega
                  have HBW := Lib.hid hbw
                  clear hbw hbw5
                  go_wp2
                  go_ret
                  exact ⟨rfl, HBW.out⟩

set_option maxHeartbeats 2000000 in
set_option maxRecDepth 100000 in
theorem plain_nil (a : Option Addr) (cap : Nat) (x : Int) (w : World) (hT : Tb w) :
    Calls Tryd.prog 5 #[.slice a 0 cap, .int .u8 x] w fun e w' => e = .returned (.bool true) ∧ Below w.heap.size w w' := by
  have HT := Lib.hid hT
  clear hT
  go_enter Tryd.func5, Tryd.ntmps5
  go_wp2_with fail
  refine (kspeaks_any w HT.out).mono ?_
  rintro e w1 ⟨rfl, hb1⟩
  have cA := all_any (l := []) (a := none) (cap := 0) w1 ⟨Nat.le_refl _, Or.inl rfl⟩ (HT.out.below hb1) (by simp)
  simp only [List.length_nil] at cA
  have HB := Lib.hid hb1
  clear hb1
  go_wp2
  go_loopw [5, 24] (fun v5 v24 wr => v5 = .slice none 0 0 ∧ v24 = .int .i64 0 ∧ wr = w1) (fun _ _ _ => 0)
  case atStart => exact ⟨rfl, rfl, rfl⟩
  case round =>
    obtain ⟨rfl, rfl, rfl⟩ := hrel
    go_wp2_with fail
    refine cA.mono ?_
    rintro e w2 ⟨L, v, rfl, ho, hh, hb2, hL⟩
    rw [al_end (by simp)] at hL
    obtain rfl : L = [] := by simpa using hL
    have hv : ∃ a2 c2, v = .slice a2 0 c2 := by
      rcases ho.2 with ⟨rfl, -⟩ | ⟨g, c, cur, rfl, -⟩
      · exact ⟨_, _, rfl⟩
      · exact ⟨_, _, rfl⟩
    obtain ⟨a2, c2, rfl⟩ := hv
    have HB2 := Lib.hid (HB.out.trans (hb2.mono HB.out.size))
    clear ho hh hb2 hL
    go_wp2
    go_ret
    exact ⟨rfl, HB2.out⟩

theorem plain_walk (l : List UInt8) (a : Option Addr) (cap : Nat) (x : Int) (hx : 0 ≤ x ∧ x < 256) (w : World) (hs : Sl l a cap w) (hT : Tb w) :
    Calls Tryd.prog 5 #[.slice a l.length cap, .int .u8 x] w fun e w' => e = .returned (.bool true) ∧ Below w.heap.size w w' := by
  by_cases h : 200 < l.length
  · exact plain_long l.length x a cap w hT h
  · by_cases h0 : l = []
    · subst h0
      exact plain_nil a cap x w hT
    · exact plain_some l a cap (x % 8).toNat x hx (by omega) w hs hT (by omega) h0
end Go.Proofs.YtndcmapifihgeaaDoor.Tk
