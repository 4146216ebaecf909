/- The law TokenAll, walked. -/
import Derived.Test.YtndcmapifihgeaaGreatDoorTkLNx
import Derived.Test.YtndcmapifihgeaaGreatDoorTkRA
namespace Go.Proofs.YtndcmapifihgeaaGreatDoor.Tk
open Go.RowKit Go.Lib
open Ch (at0 nx nx_width at0_lt at0_drop Sl Sl.below Cells allN allFrom ret_bool)
open Tg (bg tr tn Bk bk_new below_set6 own_set6 bgAt tkAt tkIn tokV)
open At (cellsA ads)

variable {l : List UInt8} {a : Option Addr} {cap i : Nat} {w w' : World}

theorem al_attrs (f : Nat) : ∀ (l n : List UInt8) (i : Nat), l.length - i ≤ f → ∀ t ∈ al l n i, t.attrs.length ≤ l.length := by
  induction f with
  | zero => intro l n i h t ht; rw [al_end (by omega)] at ht; simp at ht
  | succ f ih =>
    intro l n i h t ht
    by_cases hi : i < l.length
    · rw [al_step hi] at ht
      have hp := nxT_is (n := n) hi
      rw [List.mem_cons] at ht
      rcases ht with rfl | ht
      · exact nxT_attrs l n i
      · exact ih l _ _ (by omega) t ht
    · rw [al_end (by omega)] at ht; simp at ht
theorem at_len {l : List UInt8} {j : Nat} {t : Tok} (h : (al l [] 0)[j]? = some t) : t.attrs.length ≤ l.length := al_attrs l.length l [] 0 (by omega) t (List.mem_of_getElem? h)

/-- a row of the reference's tokens, cell by cell -/
theorem rowR_cells {B : Nat} {v : Value} {L : List (Tok × Value)} (h : w.ownsRow B 31 6 v L.length (rowT L)) (h0 : L ≠ []) :
    ∃ g c, v = .slice (some ⟨g, 0, none⟩) L.length c ∧ B ≤ g ∧ g < w.heap.size ∧ ∀ (j : Nat) (t : Tok) (s : Value), L[j]? = some (t, s) → ∀ k, k < 6 → w.cell? ⟨g, j * 6 + k, none⟩ = (six t s)[k]? := by
  rcases h.2 with ⟨-, hn⟩ | ⟨g, c, cur, hv, hg, hh, hn, hm, hsz, ht⟩
  · exact absurd (List.eq_nil_of_length_eq_zero hn) h0
  · refine ⟨g, c, hv, hg, (h.lt g (by rw [hv]; rfl)).2, fun j t s hj k hk => ?_⟩
    have hr := rowT_at L j t s hj k hk
    have hs6 : (six t s)[k]? = some ((six t s)[k]'(by simp [six]; omega)) := List.getElem?_eq_getElem _
    rw [hs6] at hr ⊢
    have := h.cells (g := g) (by rw [hv]; rfl) (j * 6 + k) _ hr
    rw [Ch.addr_add0] at this
    exact this

/-- a token's block, and the cells of a row's token -/
theorem cells3 {b gM j : Nat} {t : Tok} {s s' : Value} {ty : TypeId} {w5 wr : World} (hk : Bk b #[.int .i64 (t.kind : Int), .string ⟨t.name.toArray⟩, s, .string ⟨t.text.toArray⟩, .int .i64 (t.frm : Int), .int .i64 (t.upto : Int)] ty wr) (hM : gM < w5.heap.size) (hb : Below w5.heap.size w5 wr) (h' : ∀ k, k < 6 → w5.cell? ⟨gM, j * 6 + k, none⟩ = (six t s')[k]?) :
    (wr.cell? ⟨b, 0, none⟩ = some (.int .i64 (t.kind : Int)) ∧ wr.cell? ⟨b, 1, none⟩ = some (.string ⟨t.name.toArray⟩) ∧ wr.cell? ⟨b, 2, none⟩ = some (s) ∧ wr.cell? ⟨b, 3, none⟩ = some (.string ⟨t.text.toArray⟩) ∧ wr.cell? ⟨b, 4, none⟩ = some (.int .i64 (t.frm : Int)) ∧ wr.cell? ⟨b, 5, none⟩ = some (.int .i64 (t.upto : Int))) ∧ wr.cell? ⟨gM, j * 6, none⟩ = some (.int .i64 (t.kind : Int)) ∧ wr.cell? ⟨gM, j * 6 + 1, none⟩ = some (.string ⟨t.name.toArray⟩) ∧ wr.cell? ⟨gM, j * 6 + 2, none⟩ = some (s') ∧ wr.cell? ⟨gM, j * 6 + 3, none⟩ = some (.string ⟨t.text.toArray⟩) ∧ wr.cell? ⟨gM, j * 6 + 4, none⟩ = some (.int .i64 (t.frm : Int)) ∧ wr.cell? ⟨gM, j * 6 + 5, none⟩ = some (.int .i64 (t.upto : Int)) := by
  have c' := fun k hk => (hb.cell (p := ⟨gM, j * 6 + k, none⟩) hM).trans (h' k hk)
  exact ⟨⟨hk.cell 0, hk.cell 1, hk.cell 2, hk.cell 3, hk.cell 4, hk.cell 5⟩, c' 0 (by decide), c' 1 (by decide), c' 2 (by decide), c' 3 (by decide), c' 4 (by decide), c' 5 (by decide)⟩

set_option maxHeartbeats 1000000 in
set_option maxRecDepth 100000 in
theorem tokenAll_long (m : Nat) (a : Option Addr) (cap : Nat) (w : World) (hT : Tb w) (h : 400 < m) :
    Calls Tryz.prog 4 #[.slice a m cap] w fun e w' => e = .returned (.bool true) ∧ Below w.heap.size w w' := by
  have h1 : (400 : Int) < (m : Int) := by omega
  clear h
  go_enter Tryz.func4, Tryz.ntmps4
  go_wp2_with fail
  refine (kspeaks_any w hT).mono ?_
  rintro e w1 ⟨rfl, hb1⟩
  go_wp2_with fail
  refine (kspeaks_any w1 (hT.below hb1)).mono ?_
  rintro e w2 ⟨rfl, hb2⟩
  go_wp2
  go_ret
  exact ⟨rfl, At.below_trans hb1 hb2⟩

def ARl (n : Nat) (w w5 : World) (v : Value) (wr : World) : Prop := ∃ j : Nat, v = .int .i64 (j : Int) ∧ j ≤ n ∧ Below w.heap.size w wr ∧ Below w5.heap.size w5 wr

set_option maxHeartbeats 8000000 in
set_option maxRecDepth 100000 in
theorem tokenAll_walk (l : List UInt8) (a : Option Addr) (cap : Nat) (w : World) (hs : Sl l a cap w) (hT : Tb w) (hl : l.length ≤ 400) :
    Calls Tryz.prog 4 #[.slice a l.length cap] w fun e w' => e = .returned (.bool true) ∧ Below w.heap.size w w' := by
  have h1 : ¬ ((400 : Int) < (l.length : Int)) := by omega
  have HS := Lib.hid hs
  have HT := Lib.hid hT
  clear hs hT
  go_enter Tryz.func4, Tryz.ntmps4
  go_wp2_with fail
  refine (kspeaks_any w HT.out).mono ?_
  rintro e w1 ⟨rfl, hb1⟩
  have cA := all_any w1 (HS.out.below hb1) (HT.out.below hb1) (by omega)
  have HB1 := Lib.hid hb1
  clear hb1
  go_wp2_with fail
  refine cA.mono ?_
  rintro e w2 ⟨L, v, rfl, ho, hh, hb2, hL⟩
  have hbw2 := HB1.out.trans (hb2.mono HB1.out.size)
  have cB := Rall_any w2 (HS.out.below hbw2) (by omega)
  have hLl : L.length ≤ 400 := by
    have e := congrArg List.length hL
    rw [List.length_map] at e
    have := al_len l.length l [] 0 (by omega)
    omega
  have hv : ∃ av cv, v = .slice av L.length cv := by
    rcases ho.2 with ⟨rfl, h0⟩ | ⟨g, c, cur, rfl, -⟩
    · exact ⟨_, _, by rw [h0]⟩
    · exact ⟨_, _, rfl⟩
  obtain ⟨av, cv, rfl⟩ := hv
  have HO := Lib.hid ho
  have HH := Lib.hid hh
  have HL := Lib.hid hL
  have HB2 := Lib.hid hbw2
  clear cA ho hh hb2 hL hbw2
  go_wp2_with fail
  refine cB.mono ?_
  rintro e w5 ⟨M, v5, rfl, ho5, hh5, hb5, hM⟩
  have hML : M.length = L.length := by
    have e1 := congrArg List.length HL.out
    have e2 := congrArg List.length hM
    rw [List.length_map] at e1 e2
    omega
  have hv5 : ∃ av cv, v5 = .slice av L.length cv := by
    rcases ho5.2 with ⟨rfl, h0⟩ | ⟨g, c, cur, rfl, -⟩
    · exact ⟨_, _, by rw [← hML, h0]⟩
    · exact ⟨_, _, by rw [← hML]⟩
  obtain ⟨am, cm, rfl⟩ := hv5
  have hbw5 : Below w.heap.size w w5 := HB2.out.trans (hb5.mono HB2.out.size)
  have HB5 := Lib.hid hbw5
  have HML := Lib.hid hML
  clear hML
  by_cases hL0 : L = []
  · subst hL0
    clear hbw5 cB ho5 hh5 hb5 hM HO HH HL HML hLl
    simp only [List.length_nil]
    go_wp2
    go_loopw [26] (fun v wr => v = .int .i64 0 ∧ wr = w5) (fun _ _ => 0)
    case atStart => exact ⟨rfl, rfl⟩
    case round =>
      obtain ⟨rfl, rfl⟩ := hrel
      go_wp2
      go_ret
      exact ⟨rfl, HB5.out⟩
  · obtain ⟨g, c, hv, -, hgs, hcell⟩ := rowT_cells HO.out hL0
    obtain ⟨gM, c', hvM, -, hgM, hcellM⟩ := rowR_cells ho5 (by intro h; have := HML.out; rw [h, List.length_nil] at this; exact hL0 (List.eq_nil_of_length_eq_zero this.symm))
    simp only [Value.slice.injEq] at hv hvM
    obtain ⟨rfl, -, rfl⟩ := hv
    obtain ⟨rfl, -, rfl⟩ := hvM
    have hcell5 : ∀ (j : Nat) (t : Tok) (s : Value), L[j]? = some (t, s) → ∀ k, k < 6 → w5.cell? ⟨g, j * 6 + k, none⟩ = (six t s)[k]? := fun j t s h k hk => (hb5.cell (p := ⟨g, j * 6 + k, none⟩) hgs).trans (hcell j t s h k hk)
    have hg5 : g < w5.heap.size := by have := hb5.size; omega
    have HC := Lib.hid hcell5
    have HCM := Lib.hid hcellM
    have HH5 := Lib.hid (HH.out.below hb5)
    have HHM := Lib.hid hh5
    have HM := Lib.hid hM
    clear hcell hcell5 hcellM hh5 hM ho5 hb5 hbw5 HO HH cB hL0
    go_wp2
    go_loopw [26] (fun v wr => ARl L.length w w5 v wr) (fun v _ => L.length - (RowKit.intOf v).toNat)
    case atStart => exact ⟨0, rfl, by omega, HB5.out, Below.refl _ _⟩
    case round =>
      obtain ⟨j, rfl, hj, hbw, hbw5⟩ := hrel
      by_cases hlt : j < L.length
      · have hlt1 : (j : Int) < (L.length : Int) := by omega
        obtain ⟨t, ht⟩ : ∃ t, (al l [] 0)[j]? = some t := by
          have : j < (al l [] 0).length := by rw [← HL.out, List.length_map]; exact hlt
          exact ⟨_, List.getElem?_eq_getElem this⟩
        obtain ⟨s, hLj⟩ := tok_at HL.out j t ht
        obtain ⟨s', hMj⟩ := tok_at HM.out j t ht
        have o5 : w5.ownsRow 0 75 2 s t.attrs.length (cellsA t.attrs) := HH5.out (t, s) (List.mem_of_getElem? hLj)
        have o6 : w5.ownsRow 0 69 2 s' t.attrs.length (cellsA t.attrs) := HHM.out (t, s') (List.mem_of_getElem? hMj)
        obtain ⟨a5, c5, hs5, sl5⟩ := At.sl_own o5
        obtain ⟨a6, c6, hs6, sl6⟩ := At.sl_own o6
        subst hs5 hs6
        have hat := at_len ht
        have hcs := fun k hk => (hbw5.cell (p := ⟨g, j * 6 + k, none⟩) hg5).trans (HC.out j t _ hLj k hk)
        have q0 : wr.cell? ⟨g, j * 6, none⟩ = some (.int .i64 (t.kind : Int)) := hcs 0 (by decide)
        have q1 : wr.cell? ⟨g, j * 6 + 1, none⟩ = some (.string ⟨t.name.toArray⟩) := hcs 1 (by decide)
        have q2 : wr.cell? ⟨g, j * 6 + 2, none⟩ = some (.slice a5 t.attrs.length c5) := hcs 2 (by decide)
        have q3 : wr.cell? ⟨g, j * 6 + 3, none⟩ = some (.string ⟨t.text.toArray⟩) := hcs 3 (by decide)
        have q4 : wr.cell? ⟨g, j * 6 + 4, none⟩ = some (.int .i64 (t.frm : Int)) := hcs 4 (by decide)
        have q5 : wr.cell? ⟨g, j * 6 + 5, none⟩ = some (.int .i64 (t.upto : Int)) := hcs 5 (by decide)
        obtain ⟨WE, hWE⟩ : ∃ W, wr.alloc (.cells #[.int .i64 (t.kind : Int), .string ⟨t.name.toArray⟩, .slice a5 t.attrs.length c5, .string ⟨t.text.toArray⟩, .int .i64 (t.frm : Int), .int .i64 (t.upto : Int)] 26) = W := ⟨_, rfl⟩
        have hbE : Below wr.heap.size wr WE := by rw [← hWE]; exact (Below.refl _ wr).alloc (Nat.le_refl _) _
        have bE : Bk wr.heap.size #[.int .i64 (t.kind : Int), .string ⟨t.name.toArray⟩, .slice a5 t.attrs.length c5, .string ⟨t.text.toArray⟩, .int .i64 (t.frm : Int), .int .i64 (t.upto : Int)] 26 WE := by rw [← hWE]; exact bk_new wr _ 26
        have hbwE := hbw.trans (hbE.mono hbw.size)
        have hbw5E := hbw5.trans (hbE.mono hbw5.size)
        have dr : Below WE.heap.size WE WE.drew := ⟨rfl, rfl, rfl, Nat.le_refl _, fun _ _ => rfl⟩
        have cTo := to_tx (t.kind : Int) t.name t.text t.attrs (t.frm : Int) (t.upto : Int) a5 c5 WE.drew ((sl5.below hbw5E).below dr) (by omega)
        have SA := cells3 bE hgM hbw5E (HCM.out j t _ hMj)
        have SD := cells3 bE.drew hgM (hbw5E.trans (dr.mono hbw5E.size)) (HCM.out j t _ hMj)
        have HMj := Lib.hid (HCM.out j t _ hMj)
        have HKE := Lib.hid bE
        have HSE := Lib.hid (sl6.below hbw5E)
        have HBE := Lib.hid hbwE
        have HB5E := Lib.hid hbw5E
        clear hcs hbw hbw5 hbE bE hbwE hbw5E dr sl5 sl6 o5 o6 ht hLj hMj
        go_wp2_with fail
        go_region_held3 (fun w' => (w'.cell? ⟨wr.heap.size, 0, none⟩ = some (.int .i64 (t.kind : Int)) ∧ w'.cell? ⟨wr.heap.size, 1, none⟩ = some (.string ⟨t.name.toArray⟩) ∧ w'.cell? ⟨wr.heap.size, 2, none⟩ = some (.slice a5 t.attrs.length c5) ∧ w'.cell? ⟨wr.heap.size, 3, none⟩ = some (.string ⟨t.text.toArray⟩) ∧ w'.cell? ⟨wr.heap.size, 4, none⟩ = some (.int .i64 (t.frm : Int)) ∧ w'.cell? ⟨wr.heap.size, 5, none⟩ = some (.int .i64 (t.upto : Int))) ∧ w'.cell? ⟨gM, j * 6, none⟩ = some (.int .i64 (t.kind : Int)) ∧ w'.cell? ⟨gM, j * 6 + 1, none⟩ = some (.string ⟨t.name.toArray⟩) ∧ w'.cell? ⟨gM, j * 6 + 2, none⟩ = some (.slice a6 t.attrs.length c6) ∧ w'.cell? ⟨gM, j * 6 + 3, none⟩ = some (.string ⟨t.text.toArray⟩) ∧ w'.cell? ⟨gM, j * 6 + 4, none⟩ = some (.int .i64 (t.frm : Int)) ∧ w'.cell? ⟨gM, j * 6 + 5, none⟩ = some (.int .i64 (t.upto : Int))) (first | with_reducible exact S10 | with_reducible exact S7 | with_reducible exact SA | with_reducible exact SD)
          (first
          | (go_at_call 9; with_reducible refine cTo.mono ?_; rintro e w7 ⟨a8, c8, rfl, ho8, hb8⟩; have hb8 := Tg.below_of_drew hb8; have S7 := cells3 (HKE.out.below hb8) hgM (HB5E.out.trans (hb8.mono HB5E.out.size)) HMj.out; have HK7 := Lib.hid (HKE.out.below hb8); have cSm := same_tx (t.kind : Int) t.name t.text t.attrs (t.frm : Int) (t.upto : Int) a8 c8 a6 c6 w7 (slA_of ho8) (HSE.out.below hb8) (by omega); have HB8 := Lib.hid (HBE.out.trans (hb8.mono HBE.out.size)); have HC8 := Lib.hid (HB5E.out.trans (hb8.mono HB5E.out.size)); clear ho8 hb8)
          | (go_at_call 8; refine cSm.mono ?_; rintro e w10 ⟨rfl, hb10⟩; have S10 := cells3 (HK7.out.below hb10) hgM (HC8.out.trans (hb10.mono HC8.out.size)) HMj.out; have HB10 := Lib.hid (HB8.out.trans (hb10.mono HB8.out.size)); have HC10 := Lib.hid (HC8.out.trans (hb10.mono HC8.out.size)); clear hb10))
        all_goals (try go_wp2)
        all_goals go_roundw
        case rel => exact ⟨j + 1, by go_num, by omega, HB10.out, HC10.out⟩
        case measure => simp [RowKit.intOf]; omega
      · have hlt1 : ¬ ((j : Int) < (L.length : Int)) := by omega
        have HBW := Lib.hid hbw
        clear hbw hbw5
        go_wp2
        go_ret
        exact ⟨rfl, HBW.out⟩

theorem tokenAll_any (l : List UInt8) (a : Option Addr) (cap : Nat) (w : World) (hs : Sl l a cap w) (hT : Tb w) :
    Calls Tryz.prog 4 #[.slice a l.length cap] w fun e w' => e = .returned (.bool true) ∧ Below w.heap.size w w' := by
  by_cases h : 400 < l.length
  · exact tokenAll_long l.length a cap w hT h
  · exact tokenAll_walk l a cap w hs hT (by omega)
end Go.Proofs.YtndcmapifihgeaaGreatDoor.Tk
