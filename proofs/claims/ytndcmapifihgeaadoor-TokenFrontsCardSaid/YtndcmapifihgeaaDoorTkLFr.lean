/- The law TokenFronts, walked. -/
import Derived.Test.YtndcmapifihgeaaDoorTkLCv
import Derived.Test.YtndcmapifihgeaaDoorTkTo
namespace Go.Proofs.YtndcmapifihgeaaDoor.Tk
open Go.RowKit Go.Lib
open Ch (at0 nx nx_width at0_lt at0_drop Sl Sl.below Cells allN allFrom ret_bool info5)
open Tg (bg tr tn zero29 info29 Bk bk_new below_set6 own_set6 bgAt tkAt tkIn tokV below_of_drew)
open At (cellsA ads below_trans)

variable {l : List UInt8} {a : Option Addr} {cap i : Nat} {w w' : World}

set_option maxHeartbeats 1000000 in
set_option maxRecDepth 100000 in
theorem fronts_long (n m : Nat) (a a2 : Option Addr) (cap cap2 : Nat) (w : World) (hT : Tb w) (h : 200 < n ∨ 200 < m) :
    Calls Tryd.prog 4 #[.slice a n cap, .slice a2 m cap2] w fun e w' => e = .returned (.bool true) ∧ Below w.heap.size w w' := by
  by_cases hn : 200 < n
  · have h1 : (200 : Int) < (n : Int) := by omega
    clear h hn
    go_enter Tryd.func4, Tryd.ntmps4
    go_wp2_with fail
    refine (kspeaks_any w hT).mono ?_
    rintro e w1 ⟨rfl, hb1⟩
    go_wp2_with fail
    refine (kspeaks_any w1 (hT.below hb1)).mono ?_
    rintro e w2 ⟨rfl, hb2⟩
    go_wp2
    go_ret
    exact ⟨rfl, below_trans hb1 hb2⟩
  · have h1 : ¬ (200 : Int) < (n : Int) := by omega
    have h2 : (200 : Int) < (m : Int) := by omega
    clear h hn
    go_enter Tryd.func4, Tryd.ntmps4
    go_wp2_with fail
    refine (kspeaks_any w hT).mono ?_
    rintro e w1 ⟨rfl, hb1⟩
    go_wp2_with fail
    refine (kspeaks_any w1 (hT.below hb1)).mono ?_
    rintro e w2 ⟨rfl, hb2⟩
    go_wp2
    go_ret
    exact ⟨rfl, below_trans hb1 hb2⟩

/-- a row of bytes of one's own as a slice -/
theorem sl_bytes {B : Nat} {v : Value} {m : List UInt8} (h : w.ownsRow B 5 1 v m.length (Lib.byteCells m)) : ∃ a cap, v = .slice a m.length cap ∧ Sl m a cap w := by
  rcases h.2 with ⟨hv, h0⟩ | ⟨g, cap, cur, hv, hg, hh, hn, hm, hs, ht⟩
  · obtain rfl : m = [] := List.eq_nil_of_length_eq_zero h0
    exact ⟨none, 0, hv, Nat.le_refl _, Or.inl rfl⟩
  · refine ⟨_, cap, hv, hn, Or.inr ⟨g, 0, rfl, fun j hj => ?_⟩⟩
    have := h.cells (g := g) (by rw [hv]; rfl) j _ (by simp [Lib.byteCells, List.getElem?_eq_getElem hj]; rfl)
    rw [Ch.addr_add0] at this
    rw [Nat.zero_add, this]
    simp [at0, List.getD_eq_getElem?_getD, List.getElem?_eq_getElem hj]
theorem bytes_at (m : List UInt8) (j : Nat) (h : j < m.length) : (Lib.byteCells m)[j]? = some (.int .u8 ((at0 m j : Nat) : Int)) := by
  simp [Lib.byteCells, at0, List.getD_eq_getElem?_getD, List.getElem?_eq_getElem h]

/-- bytes behind a row of one's own -/
theorem app_bytes (w : World) (B : Nat) (v : Value) (L M : List UInt8) (a : Option Addr) (cap : Nat) (hown : w.ownsRow B 5 1 v L.length (Lib.byteCells L)) (hs : Sl M a cap w) (hn : a = none → cap = 0) (hl : L.length + M.length ≤ 1000000) (hB : B ≤ w.heap.size) :
    ∃ v' w', (Builtin.append_ #[22, 22] 22 #[v, .slice a M.length cap]).run Tryd.prog w = .ok v' w' ∧ w'.ownsRow B 5 1 v' (L ++ M).length (Lib.byteCells (L ++ M)) ∧ w.grownBy w' v.ownBlock := by
  obtain ⟨i, hi, hp⟩ := info5
  simp only [Prod.mk.injEq] at hp
  obtain ⟨hz, hsz, hby⟩ := hp
  have happ : Lib.byteCells (L ++ M) = Lib.byteCells L ++ Lib.byteCells M := by simp [Lib.byteCells]
  rw [List.length_append, happ]
  cases a with
  | none =>
    have hc := hn rfl
    subst hc
    have h0 : M.length = 0 := by have := hs.1; omega
    obtain rfl : M = [] := List.eq_nil_of_length_eq_zero h0
    have hr := run_append_owned_none (P := Tryd.prog) (w := w) B 22 22 5 i 1 Tryd.underlying22 hi v L.length (Lib.byteCells L) hown
    refine ⟨v, w, hr, ?_, ⟨rfl, rfl, rfl, Nat.le_refl _, fun _ _ _ => rfl⟩⟩
    simpa [Lib.byteCells] using hown
  | some ad =>
    have hc : ∀ (j : Nat) (u : Value), (Lib.byteCells M)[j]? = some u → w.cell? (ad.add j) = some u := by
      obtain ⟨-, h2 | ⟨b, off, hb, hc⟩⟩ := hs
      · intro j u hj; subst h2; simp [Lib.byteCells] at hj
      · intro j u hj
        have hjl : j < M.length := by
          rcases Nat.lt_or_ge j M.length with z | z
          · exact z
          · rw [List.getElem?_eq_none (by rw [Lib.byteCells_length]; exact z)] at hj; cases hj
        rw [bytes_at _ _ hjl] at hj
        rw [← hj]
        cases hb
        rw [At.add_lit]
        exact hc j hjl
    obtain ⟨v', w', hr, h1, h2, -, -⟩ := run_append_own_at (P := Tryd.prog) w B 22 22 5 i _ 1 1 Tryd.underlying22 hi hz hsz hby rfl (by decide) v L.length (Lib.byteCells L) hown ad M.length cap (Lib.byteCells M) (by rw [Lib.byteCells_length]; omega) hc (fun u hu => by
      unfold Lib.byteCells at hu
      obtain ⟨z, _, rfl⟩ := List.mem_map.1 hu
      rfl) (by unfold maxLen; omega) (by omega) hB
    exact ⟨v', w', hr, h1, h2⟩

/-- attributes as a slice -/
theorem slA_of {B : Nat} {e : TypeId} {a : Option Addr} {cap : Nat} {L : List At.At} (h : w.ownsRow B e 2 (.slice a L.length cap) L.length (cellsA L)) : At.Sl L a cap w := by
  obtain ⟨a', cap', hv, hs⟩ := At.sl_own h
  cases hv
  exact hs
/-- the cells of two tokens that are alike -/
theorem cells2 {g gM j : Nat} {t : Tok} {s s' : Value} {w5 wr : World} (hg : g < w5.heap.size) (hM : gM < w5.heap.size) (hb : Below w5.heap.size w5 wr) (h : ∀ k, k < 6 → w5.cell? ⟨g, j * 6 + k, none⟩ = (six t s)[k]?) (h' : ∀ k, k < 6 → w5.cell? ⟨gM, j * 6 + k, none⟩ = (six t s')[k]?) :
    (wr.cell? ⟨g, j * 6, none⟩ = some (.int .i64 (t.kind : Int)) ∧ wr.cell? ⟨g, j * 6 + 1, none⟩ = some (.string ⟨t.name.toArray⟩) ∧ wr.cell? ⟨g, j * 6 + 2, none⟩ = some (s) ∧ wr.cell? ⟨g, j * 6 + 3, none⟩ = some (.string ⟨t.text.toArray⟩) ∧ wr.cell? ⟨g, j * 6 + 4, none⟩ = some (.int .i64 (t.frm : Int)) ∧ wr.cell? ⟨g, j * 6 + 5, none⟩ = some (.int .i64 (t.upto : Int))) ∧ wr.cell? ⟨gM, j * 6, none⟩ = some (.int .i64 (t.kind : Int)) ∧ wr.cell? ⟨gM, j * 6 + 1, none⟩ = some (.string ⟨t.name.toArray⟩) ∧ wr.cell? ⟨gM, j * 6 + 2, none⟩ = some (s') ∧ wr.cell? ⟨gM, j * 6 + 3, none⟩ = some (.string ⟨t.text.toArray⟩) ∧ wr.cell? ⟨gM, j * 6 + 4, none⟩ = some (.int .i64 (t.frm : Int)) ∧ wr.cell? ⟨gM, j * 6 + 5, none⟩ = some (.int .i64 (t.upto : Int)) := by
  have c := fun k hk => (hb.cell (p := ⟨g, j * 6 + k, none⟩) hg).trans (h k hk)
  have c' := fun k hk => (hb.cell (p := ⟨gM, j * 6 + k, none⟩) hM).trans (h' k hk)
  exact ⟨⟨c 0 (by decide), c 1 (by decide), c 2 (by decide), c 3 (by decide), c 4 (by decide), c 5 (by decide)⟩, c' 0 (by decide), c' 1 (by decide), c' 2 (by decide), c' 3 (by decide), c' 4 (by decide), c' 5 (by decide)⟩

theorem fold_len : ∀ (L acc : List At.At), (L.foldl At.add acc).length ≤ acc.length + L.length
  | [], acc => by simp
  | x :: r, acc => by
    have h1 := fold_len r (At.add acc x)
    have h2 := (At.add_len acc x).2
    rw [List.foldl_cons, List.length_cons]
    omega
theorem ads_len (L : List At.At) : (ads L).length ≤ L.length := by
  have := fold_len L []
  simpa [ads] using this
theorem tr_bd {m : List UInt8} {L : List At.At} {e : Nat} (h : tr m = some (L, e)) : L.length ≤ m.length := by
  unfold tr at h
  rw [Option.map_eq_some_iff] at h
  obtain ⟨⟨L', e'⟩, ha, he⟩ := h
  simp only [Prod.mk.injEq] at he
  obtain ⟨rfl, rfl⟩ := he
  have := Tg.ats_bd _ _ (Nat.le_refl _) _ _ ha
  simp only [List.length_drop] at this
  omega
theorem nxT_attrs (l n : List UInt8) (i : Nat) : (nxT l n i).attrs.length ≤ l.length := by
  unfold nxT
  split
  · simp [rwT]
  · unfold tdT
    split
    · unfold tgT
      cases h : tr (l.drop i) with
      | none => simp
      | some p =>
        obtain ⟨L, e⟩ := p
        have h1 := tr_bd h
        have h2 := ads_len L
        rw [List.length_drop] at h1
        show (if bg (l.drop i) = 1 then ads L else []).length ≤ _
        split
        · omega
        · simp
    · split
      · simp
      · simp
theorem al_attrs (f : Nat) : ∀ (l n : List UInt8) (i : Nat), l.length - i ≤ f → ∀ t ∈ al l n i, t.attrs.length ≤ l.length := by
  induction f with
  | zero => intro l n i h t ht; rw [al_end (by omega)] at ht; simp at ht
  | succ f ih =>
    intro l n i h t ht
    by_cases hi : i < l.length
    · rw [al_step hi] at ht
      have hp := nxT_is (n := n) hi
      rw [List.mem_cons] at ht
      rcases ht with rfl | ht
      · exact nxT_attrs l n i
      · exact ih l _ _ (by omega) t ht
    · rw [al_end (by omega)] at ht; simp at ht
theorem at_len {l : List UInt8} {j : Nat} {t : Tok} (h : (al l [] 0)[j]? = some t) : t.attrs.length ≤ l.length := al_attrs l.length l [] 0 (by omega) t (List.mem_of_getElem? h)

def FrRel (L : List (Tok × Value)) (w w4 : World) (v7 : Value) (wr : World) : Prop :=
  ∃ j : Nat, v7 = .int .i64 (j : Int) ∧ j ≤ L.length ∧ Below w.heap.size w wr ∧ Below w4.heap.size w4 wr

set_option maxHeartbeats 8000000 in
set_option maxRecDepth 100000 in
theorem fronts_walk (l m : List UInt8) (a a2 : Option Addr) (cap cap2 : Nat) (w : World) (hs : Sl l a cap w) (hs2 : Sl m a2 cap2 w) (hn : a = none → cap = 0) (hn2 : a2 = none → cap2 = 0) (hT : Tb w) (hl : l.length ≤ 200) (hm : m.length ≤ 200) :
    Calls Tryd.prog 4 #[.slice a l.length cap, .slice a2 m.length cap2] w fun e w' => e = .returned (.bool true) ∧ Below w.heap.size w w' := by
  have h1 : ¬ ((200 : Int) < (l.length : Int)) := by omega
  have h2 : ¬ ((200 : Int) < (m.length : Int)) := by omega
  have HS := Lib.hid hs
  have HS2 := Lib.hid hs2
  have HN := Lib.hid hn
  have HN2 := Lib.hid hn2
  have HT := Lib.hid hT
  clear hs hs2 hn hn2 hT
  go_enter Tryd.func4, Tryd.ntmps4
  go_wp2_with fail
  refine (kspeaks_any w HT.out).mono ?_
  rintro e w1 ⟨rfl, hb1⟩
  have cA := all_any w1 (HS.out.below hb1) (HT.out.below hb1) (by omega)
  go_wp2_with fail
  refine cA.mono ?_
  rintro e w2 ⟨L, v, rfl, ho, hh, hb2, hL⟩
  have hbw2 := below_trans hb1 hb2
  have hLl : L.length ≤ 200 := by
    have e := congrArg List.length hL
    rw [List.length_map] at e
    have := al_len l.length l [] 0 (by omega)
    omega
  -- the joined bytes
  have hbA : Below w2.heap.size w2 (w2.alloc (.cells #[] 5)) := (Below.refl _ w2).alloc (Nat.le_refl _) _
  have hown0 : (w2.alloc (.cells #[] 5)).ownsRow w2.heap.size 5 1 (.slice (some ⟨w2.heap.size, 0, none⟩) 0 0) ([] : List UInt8).length (Lib.byteCells []) := by
    refine ⟨by simp [Lib.byteCells], Or.inr ⟨w2.heap.size, 0, #[], rfl, Nat.le_refl _, ?_, by simp, by simp, by simp, by simp [Lib.byteCells]⟩⟩
    simp [World.alloc, -World.alloc_eq]
  have hbwA : Below w.heap.size w (w2.alloc (.cells #[] 5)) := hbw2.alloc hbw2.size _
  obtain ⟨v1, w3, hr1, hown1, hgr1⟩ := app_bytes (w2.alloc (.cells #[] 5)) w2.heap.size _ [] l a cap hown0 (HS.out.below hbwA) HN.out (by simp; omega) (by simp)
  rw [List.nil_append] at hown1
  have hb3 : Below w2.heap.size w2 w3 := hbA.grown hgr1 hbA.size (fun q hq => by have hq' : some w2.heap.size = some q := hq; injection hq' with hq'; omega)
  have hz2 := hbw2.size
  have hbw3 : Below w.heap.size w w3 := hbw2.trans (hb3.mono hz2)
  obtain ⟨v2, w4, hr2, hown2, hgr2⟩ := app_bytes w3 w2.heap.size v1 l m a2 cap2 hown1 (HS2.out.below hbw3) HN2.out (by omega) hb3.size
  have hb4 : Below w2.heap.size w2 w4 := hb3.grown hgr2 hb3.size (fun q hq => (hown1.lt q hq).1)
  have hbw4 : Below w.heap.size w w4 := hbw2.trans (hb4.mono hz2)
  obtain ⟨J, hJ⟩ : ∃ J, l ++ m = J := ⟨_, rfl⟩
  have hJl : J.length = l.length + m.length := by rw [← hJ, List.length_append]
  rw [hJ] at hown2
  obtain ⟨aj, capj, rfl, hsj⟩ := sl_bytes hown2
  have cJ := all_any w4 hsj (HT.out.below hbw4) (by omega)
  have HJ := Lib.hid hJ
  have HJL := Lib.hid hJl
  have HR1 := Lib.hid hr1
  have HR2 := Lib.hid hr2
  have HO := Lib.hid (At.ownsRow_below ho hb4)
  have HH := Lib.hid (hh.below hb4)
  have HL := Lib.hid hL
  have HB4 := Lib.hid hbw4
  have hv : ∃ av cv, v = .slice av L.length cv := by
    rcases ho.2 with ⟨rfl, h0⟩ | ⟨g, c, cur, rfl, -⟩
    · exact ⟨_, _, by rw [h0]⟩
    · exact ⟨_, _, rfl⟩
  obtain ⟨av, cv, rfl⟩ := hv
  clear cA hb1 hb2 hbw2 hbA hown0 hbwA hr1 hown1 hgr1 hb3 hz2 hbw3 hr2 hown2 hgr2 hb4 hbw4 hsj ho hh hL hJ hJl
  go_wp2_with (first
    | (at_builtin; refine Lib.wpList_append_run _ rfl (.tmp 23) (.tmp 24) 22 22 rfl _ _ rfl rfl v1 w3 HR1.out ?_)
    | (at_builtin; refine Lib.wpList_append_run _ rfl (.tmp 25) (.tmp 26) 22 22 rfl _ _ rfl rfl _ w4 HR2.out ?_))
  refine cJ.mono ?_
  rintro e w5 ⟨M, v5, rfl, ho5, hh5, hb5, hM⟩
  have hfr := al_front l.length l [] m 0 (by omega)
  rw [HJ.out] at hfr
  have hLM : L.length ≤ M.length := by
    have e1 := congrArg List.length HL.out
    have e2 := congrArg List.length hM
    rw [List.length_map] at e1 e2
    omega
  have hMl : M.length ≤ 400 := by
    have e2 := congrArg List.length hM
    rw [List.length_map] at e2
    have := al_len J.length J [] 0 (by omega)
    have := HJL.out
    omega
  have hv5 : ∃ av cv, v5 = .slice av M.length cv := by
    rcases ho5.2 with ⟨rfl, h0⟩ | ⟨g, c, cur, rfl, -⟩
    · exact ⟨_, _, by rw [h0]⟩
    · exact ⟨_, _, rfl⟩
  obtain ⟨am, cm, rfl⟩ := hv5
  have hbw5 : Below w.heap.size w w5 := HB4.out.trans (hb5.mono HB4.out.size)
  have HB5 := Lib.hid hbw5
  have g9 : ¬ ((M.length : Int) < (L.length : Int)) := by omega
  have g8 : (L.length : Int) ≤ (M.length : Int) := by omega
  by_cases h2L : 1 < L.length
  · obtain ⟨g, c, hv, -, hgs, hcell⟩ := rowT_cells HO.out (by rintro rfl; simp at h2L)
    obtain ⟨gM, c', hvM, -, hgM, hcellM⟩ := rowT_cells ho5 (by intro h; rw [h, List.length_nil] at hLM; omega)
    simp only [Value.slice.injEq] at hv hvM
    obtain ⟨rfl, -, rfl⟩ := hv
    obtain ⟨rfl, -, rfl⟩ := hvM
    have hcell5 : ∀ (j : Nat) (t : Tok) (s : Value), L[j]? = some (t, s) → ∀ k, k < 6 → w5.cell? ⟨g, j * 6 + k, none⟩ = (six t s)[k]? := fun j t s h k hk => (hb5.cell (p := ⟨g, j * 6 + k, none⟩) hgs).trans (hcell j t s h k hk)
    have hg5 : g < w5.heap.size := by have := hb5.size; omega
    have HC := Lib.hid hcell5
    have HCM := Lib.hid hcellM
    have HH5 := Lib.hid (HH.out.below hb5)
    have HHM := Lib.hid hh5
    have HM := Lib.hid hM
    have HFR := Lib.hid hfr
    clear hcell hcell5 hcellM hfr hh5 hM ho5 hb5 hbw5 HO HH HB4 HR1 HR2 cJ
    go_wp2
    go_loopw [7] (fun v7 wr => FrRel L w w5 v7 wr) (fun v7 _ => L.length - (RowKit.intOf v7).toNat)
    case atStart => exact ⟨0, rfl, by omega, HB5.out, Below.refl _ _⟩
    case round =>
      obtain ⟨j, rfl, hj, hbw, hbw5⟩ := hrel
      by_cases hlt : j + 1 < L.length
      · have hlt1 : (j : Int) + 1 < (L.length : Int) := by omega
        have g1 : decide (M.length ≤ j) = false := decide_eq_false (by omega)
        have g2 : (j : Int) < (M.length : Int) := by omega
        have g3 : (j : Int) < (L.length : Int) := by omega
        have hjl : j < L.length := by omega
        have hjM : j < M.length := by omega
        obtain ⟨t, ht⟩ : ∃ t, (al l [] 0)[j]? = some t := by
          have : j < (al l [] 0).length := by rw [← HL.out, List.length_map]; exact hjl
          exact ⟨_, List.getElem?_eq_getElem this⟩
        have htM : (al J [] 0)[j]? = some t := by rw [HFR.out.2 j (by rw [← HL.out, List.length_map]; exact hlt)]; exact ht
        obtain ⟨s, hLj⟩ := tok_at HL.out j t ht
        obtain ⟨s', hMj⟩ := tok_at HM.out j t htM
        have o5 : w5.ownsRow 0 63 2 s t.attrs.length (cellsA t.attrs) := HH5.out (t, s) (List.mem_of_getElem? hLj)
        have o6 : w5.ownsRow 0 63 2 s' t.attrs.length (cellsA t.attrs) := HHM.out (t, s') (List.mem_of_getElem? hMj)
        obtain ⟨a5, c5, hs5, sl5⟩ := At.sl_own o5
        obtain ⟨a6, c6, hs6, sl6⟩ := At.sl_own o6
        subst hs5 hs6
        have hat := at_len ht
        have hgr : g < wr.heap.size := by have := hbw5.size; omega
        have hgMr : gM < wr.heap.size := by have := hbw5.size; omega
        have SA := cells2 hg5 hgM hbw5 (HC.out j t _ hLj) (HCM.out j t _ hMj)
        have dr : Below wr.heap.size wr wr.drew := ⟨rfl, rfl, rfl, Nat.le_refl _, fun _ _ => rfl⟩
        have SD := cells2 hg5 hgM (hbw5.trans (dr.mono hbw5.size)) (HC.out j t _ hLj) (HCM.out j t _ hMj)
        have S5 := sl5.below hbw5
        have S6 := sl6.below hbw5
        have cTo1 := to_tx (t.kind : Int) t.name t.text t.attrs (t.frm : Int) (t.upto : Int) a5 c5 wr.drew (S5.below dr) (by omega)
        have HS6 := Lib.hid S6
        have HBW := Lib.hid hbw
        have HBW5 := Lib.hid hbw5
        have HCj := Lib.hid (HC.out j t _ hLj)
        have HMj := Lib.hid (HCM.out j t _ hMj)
        clear S5 S6 dr hbw hbw5 sl5 sl6 o5 o6 ht htM hLj hMj
        go_wp2_with fail
        go_region_held3 (fun w' => (w'.cell? ⟨g, j * 6, none⟩ = some (.int .i64 (t.kind : Int)) ∧ w'.cell? ⟨g, j * 6 + 1, none⟩ = some (.string ⟨t.name.toArray⟩) ∧ w'.cell? ⟨g, j * 6 + 2, none⟩ = some (.slice a5 t.attrs.length c5) ∧ w'.cell? ⟨g, j * 6 + 3, none⟩ = some (.string ⟨t.text.toArray⟩) ∧ w'.cell? ⟨g, j * 6 + 4, none⟩ = some (.int .i64 (t.frm : Int)) ∧ w'.cell? ⟨g, j * 6 + 5, none⟩ = some (.int .i64 (t.upto : Int))) ∧ w'.cell? ⟨gM, j * 6, none⟩ = some (.int .i64 (t.kind : Int)) ∧ w'.cell? ⟨gM, j * 6 + 1, none⟩ = some (.string ⟨t.name.toArray⟩) ∧ w'.cell? ⟨gM, j * 6 + 2, none⟩ = some (.slice a6 t.attrs.length c6) ∧ w'.cell? ⟨gM, j * 6 + 3, none⟩ = some (.string ⟨t.text.toArray⟩) ∧ w'.cell? ⟨gM, j * 6 + 4, none⟩ = some (.int .i64 (t.frm : Int)) ∧ w'.cell? ⟨gM, j * 6 + 5, none⟩ = some (.int .i64 (t.upto : Int))) (first | with_reducible exact S10 | with_reducible exact S8 | with_reducible exact S7 | with_reducible exact SA | with_reducible exact SD)
          (first
          | (go_at_call 10; with_reducible refine cTo1.mono ?_; rintro e w7 ⟨a8, c8, rfl, ho8, hb8⟩; have hb8 := below_of_drew hb8; have S7 := cells2 hg5 hgM (HBW5.out.trans (hb8.mono HBW5.out.size)) HCj.out HMj.out; have cTo2 := to_tx (t.kind : Int) t.name t.text t.attrs (t.frm : Int) (t.upto : Int) a6 c6 w7 (HS6.out.below hb8) (by omega); have HO8 := Lib.hid ho8; have HB8 := Lib.hid (HBW.out.trans (hb8.mono HBW.out.size)); have HC8 := Lib.hid (HBW5.out.trans (hb8.mono HBW5.out.size)); clear ho8 hb8)
          | (go_at_call 10; with_reducible refine cTo2.mono ?_; rintro e w8 ⟨a9, c9, rfl, ho9, hb9⟩; have S8 := cells2 hg5 hgM (HC8.out.trans (hb9.mono HC8.out.size)) HCj.out HMj.out; have cSm := same_tx (t.kind : Int) t.name t.text t.attrs (t.frm : Int) (t.upto : Int) a8 c8 a9 c9 w8 ((slA_of HO8.out).below hb9) (slA_of ho9) (by omega); have HB9 := Lib.hid (HB8.out.trans (hb9.mono HB8.out.size)); have HC9 := Lib.hid (HC8.out.trans (hb9.mono HC8.out.size)); clear ho9 hb9)
          | (go_at_call 9; refine cSm.mono ?_; rintro e w10 ⟨rfl, hb10⟩; have S10 := cells2 hg5 hgM (HC9.out.trans (hb10.mono HC9.out.size)) HCj.out HMj.out; have HB10 := Lib.hid (HB9.out.trans (hb10.mono HB9.out.size)); have HC10 := Lib.hid (HC9.out.trans (hb10.mono HC9.out.size)); clear hb10))
        all_goals (try go_wp2)
        all_goals go_roundw
        case rel => exact ⟨j + 1, by go_num, by omega, HB10.out, HC10.out⟩
        case measure => simp [RowKit.intOf]; omega
      · have hlt1 : ¬ ((j : Int) + 1 < (L.length : Int)) := by omega
        have HBW := Lib.hid hbw
        clear hbw hbw5
        go_wp2
        go_ret
        exact ⟨rfl, HBW.out⟩
  · clear hfr hh5 hM ho5 hb5 hbw5 HO HH HB4 HR1 HR2 cJ
    go_wp2
    go_loopw [7] (fun v7 wr => v7 = .int .i64 0 ∧ wr = w5) (fun _ _ => 0)
    case atStart => exact ⟨rfl, rfl⟩
    case round =>
      obtain ⟨rfl, rfl⟩ := hrel
      have hlt1 : ¬ ((1 : Int) < (L.length : Int)) := by omega
      have hlt2 : ¬ ((0 : Int) + 1 < (L.length : Int)) := by omega
      go_wp2
      go_ret
      exact ⟨rfl, HB5.out⟩
end Go.Proofs.YtndcmapifihgeaaDoor.Tk
