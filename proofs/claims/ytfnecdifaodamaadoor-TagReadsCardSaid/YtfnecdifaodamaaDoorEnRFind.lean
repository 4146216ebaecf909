/- The reference's Find, walked: the table, looked through from its front. -/
import Derived.Test.YtfnecdifaodamaaDoorEnTable
import Derived.Test.YtfnecdifaodamaaDoorEnRef
namespace Go.Proofs.YtfnecdifaodamaaDoor.En
open Go.RowKit Go.Lib

theorem heap_allocs : ∀ (os : List Obj) (w : World), (allocs w os).heap = w.heap ++ os.toArray
  | [], w => by simp [allocs]
  | o :: r, w => by
    have := heap_allocs r (w.alloc o)
    unfold allocs at this ⊢
    rw [List.foldl_cons, this]
    show (w.heap.push o) ++ r.toArray = _
    apply Array.ext'
    simp

theorem below_allocs : ∀ (os : List Obj) (w : World), Below w.heap.size w (allocs w os)
  | [], w => Below.refl _ w
  | o :: r, w => by
    have h1 : Below w.heap.size w (w.alloc o) := (Below.refl _ w).alloc (Nat.le_refl _) _
    have h2 := below_allocs r (w.alloc o)
    exact h1.trans (h2.mono h1.size)

/-- one entry of the table -/
def tabE (i : Nat) : List UInt8 × Bool × List Nat := tabL.getD i ([], false, [])

/-- what lies in memory behind the call -/
structure Tab (B : Nat) (w : World) : Prop where
  nm : ∀ i, i < 43 → w.cell? ⟨B + 43, i * 3, none⟩ = some (.string ⟨(tabE i).1.toArray⟩)
  al : ∀ i, i < 43 → w.cell? ⟨B + 43, i * 3 + 1, none⟩ = some (.bool (tabE i).2.1)
  cs : ∀ i, i < 43 → w.cell? ⟨B + 43, i * 3 + 2, none⟩ = some (.slice (some ⟨B + i, 0, none⟩) (tabE i).2.2.length (tabE i).2.2.length)
  num : ∀ i, i < 43 → ∀ j, j < (tabE i).2.2.length → w.cell? ⟨B + i, j, none⟩ = some (.int .i64 ((tabE i).2.2.getD j 0 : Int))
  lt : B + 43 < w.heap.size

theorem Tab.below {B : Nat} {w w' : World} (h : Tab B w) (hb : Below w.heap.size w w') : Tab B w' := by
  have hlt := h.lt
  have hs := hb.size
  refine ⟨fun i hi => ?_, fun i hi => ?_, fun i hi => ?_, fun i hi j hj => ?_, by omega⟩
  · rw [← h.nm i hi]; exact World.cell?_of_block (hb.block _ (by show B + 43 < _; omega))
  · rw [← h.al i hi]; exact World.cell?_of_block (hb.block _ (by show B + 43 < _; omega))
  · rw [← h.cs i hi]; exact World.cell?_of_block (hb.block _ (by show B + 43 < _; omega))
  · rw [← h.num i hi j hj]; exact World.cell?_of_block (hb.block _ (by show B + i < _; omega))

theorem tabRow_at : ∀ (l : List (List UInt8 × Bool × List Nat)) (B i : Nat), i < l.length →
    (tabRow B l)[i * 3]? = some (.string ⟨(l.getD i ([], false, [])).1.toArray⟩) ∧ (tabRow B l)[i * 3 + 1]? = some (.bool (l.getD i ([], false, [])).2.1) ∧
    (tabRow B l)[i * 3 + 2]? = some (.slice (some ⟨B + i, 0, none⟩) (l.getD i ([], false, [])).2.2.length (l.getD i ([], false, [])).2.2.length)
  | [], _, _, h => absurd h (by simp)
  | e :: r, B, 0, _ => ⟨rfl, rfl, rfl⟩
  | e :: r, B, i + 1, h => by
    have ih := tabRow_at r (B + 1) i (by simpa using h)
    rw [show B + 1 + i = B + (i + 1) by omega] at ih
    rw [show (i + 1) * 3 = i * 3 + 1 + 1 + 1 by omega, show i * 3 + 1 + 1 + 1 + 1 = (i * 3 + 1) + 1 + 1 + 1 by omega, show i * 3 + 1 + 1 + 1 + 2 = (i * 3 + 2) + 1 + 1 + 1 by omega]
    exact ih

theorem cell_laid (w : World) (os : List Obj) (k j : Nat) (cs : List Value) (t : TypeId) (h : os[k]? = some (.cells cs.toArray t)) (v : Value) (hv : cs[j]? = some v) : (allocs w os).cell? ⟨w.heap.size + k, j, none⟩ = some v := by
  have hh : (allocs w os).heap[w.heap.size + k]? = some (.cells cs.toArray t) := by
    rw [heap_allocs, Array.getElem?_append_right (by omega)]
    simpa using h
  unfold World.cell?
  simp only [hh, Option.isSome_none, Bool.false_eq_true, if_false]
  simpa using hv

theorem tab_laid (w : World) : Tab w.heap.size (allocs w (tabObjs w.heap.size)) := by
  have hlast : (tabObjs w.heap.size)[43]? = some (.cells (tabRow w.heap.size tabL).toArray 114) := by
    unfold tabObjs
    rw [List.getElem?_append_right (by simp [tabL])]
    rfl
  have hrow : ∀ i, i < 43 → (tabObjs w.heap.size)[i]? = some (.cells (numRow (tabE i).2.2).toArray 3) := by
    intro i hi
    have hi' : i < tabL.length := hi
    unfold tabObjs
    rw [List.getElem?_append_left (by simpa using hi'), List.getElem?_map, List.getElem?_eq_getElem hi']
    unfold tabE
    rw [List.getD_eq_getElem?_getD, List.getElem?_eq_getElem hi']
    rfl
  refine ⟨fun i hi => ?_, fun i hi => ?_, fun i hi => ?_, fun i hi j hj => ?_, ?_⟩
  · exact cell_laid w _ 43 _ _ 114 hlast _ (tabRow_at tabL w.heap.size i hi).1
  · exact cell_laid w _ 43 _ _ 114 hlast _ (tabRow_at tabL w.heap.size i hi).2.1
  · exact cell_laid w _ 43 _ _ 114 hlast _ (tabRow_at tabL w.heap.size i hi).2.2
  · refine cell_laid w _ i _ _ 3 (hrow i hi) _ ?_
    unfold numRow
    rw [List.getElem?_map, List.getElem?_eq_getElem hj, List.getD_eq_getElem?_getD, List.getElem?_eq_getElem hj]
    rfl
  · rw [heap_allocs]
    simp [tabObjs, tabL]

theorem table_any (w : World) :
    Calls Tryd.prog 81 #[] w fun e w' => e = .returned (.slice (some ⟨w.heap.size + 43, 0, none⟩) 43 43) ∧ Tab w.heap.size w' ∧ Below w.heap.size w w' := by
  refine (table_laid w).mono ?_
  rintro e w' ⟨rfl, rfl⟩
  exact ⟨rfl, tab_laid w, below_allocs _ _⟩

set_option maxRecDepth 100000 in
theorem tab_short : ∀ i, i < 43 → (tabE i).1.length ≤ 7 ∧ (tabE i).2.2.length ≤ 2 ∧ ∀ j, j < (tabE i).2.2.length → (tabE i).2.2.getD j 0 < 65536 := by decide

theorem fold_snoc (l : List UInt8) (i : Nat) (h : i < 43) (s : Nat × List UInt8) (hs : (tabL.take i).foldl (rstep l) (0, []) = s) : (tabL.take (i + 1)).foldl (rstep l) (0, []) = rstep l s (tabE i) := by
  have hi : i < tabL.length := h
  rw [List.take_succ_eq_append_getElem hi, List.foldl_append, hs]
  unfold tabE
  rw [List.getD_eq_getElem?_getD, List.getElem?_eq_getElem hi]
  rfl

theorem rstep_one {l : List UInt8} {n : Nat} {t : List UInt8} {e : List UInt8 × Bool × List Nat} (h1 : begs l (e.1 ++ [59]) = true) (h2 : n < e.1.length + 1) : rstep l (n, t) e = (e.1.length + 1, textN e.2.2) := if_pos ⟨h1, h2⟩
theorem rstep_two {l : List UInt8} {n : Nat} {t : List UInt8} {e : List UInt8 × Bool × List Nat} (h1 : ¬ (begs l (e.1 ++ [59]) = true ∧ n < e.1.length + 1)) (h2 : e.2.1 = true) (h3 : begs l e.1 = true) (h4 : n < e.1.length) : rstep l (n, t) e = (e.1.length, textN e.2.2) := by
  unfold rstep
  rw [if_neg h1, if_pos ⟨h2, h3, h4⟩]
theorem rstep_no {l : List UInt8} {n : Nat} {t : List UInt8} {e : List UInt8 × Bool × List Nat} (h1 : ¬ (begs l (e.1 ++ [59]) = true ∧ n < e.1.length + 1)) (h2 : ¬ (e.2.1 = true ∧ begs l e.1 = true ∧ n < e.1.length)) : rstep l (n, t) e = (n, t) := by
  unfold rstep
  rw [if_neg h1, if_neg h2]

theorem join_one (a b : List UInt8) : (⟨a.toArray⟩ ++ ⟨b.toArray⟩ : ByteArray) = ⟨(a ++ b).toArray⟩ := by
  apply ByteArray.ext
  simp [ByteArray.data_append]

def RFRel (l : List UInt8) (B : Nat) (w : World) (v4 v5 v7 : Value) (wr : World) : Prop :=
  ∃ (i n : Nat) (t : List UInt8), v7 = .int .i64 i ∧ v4 = .int .i64 n ∧ v5 = .string ⟨t.toArray⟩ ∧ i ≤ 43 ∧ n ≤ 8 ∧ (tabL.take i).foldl (rstep l) (0, []) = (n, t) ∧ Tab B wr ∧ Below w.heap.size w wr

set_option maxHeartbeats 4000000 in
set_option maxRecDepth 100000 in
theorem rfind_any (l : List UInt8) (w : World) :
    Calls Tryd.prog 67 #[.string ⟨l.toArray⟩] w fun e w' => e = .returned (.tuple #[.int .i64 (refL l).1, .string ⟨(refL l).2.toArray⟩]) ∧ Below w.heap.size w w' := by
  go_enter Tryd.func67, Tryd.ntmps67
  go_wp2_with fail
  refine (table_any w).mono ?_
  rintro e w1 ⟨rfl, hT, hb1⟩
  have HT := Lib.hid hT
  have HB1 := Lib.hid hb1
  clear hT hb1
  go_wp2
  go_loopw [4, 5, 7] (fun v4 v5 v7 wr => RFRel l w.heap.size w v4 v5 v7 wr) (fun _ _ v7 _ => (43 - RowKit.intOf v7).toNat)
  case atStart => exact ⟨0, 0, [], rfl, rfl, rfl, by omega, by omega, rfl, HT.out, HB1.out⟩
  case round =>
    clear HT HB1
    obtain ⟨i, n, t, rfl, rfl, rfl, hi43, hn8, hf, hT, hbw⟩ := hrel
    have HBW := Lib.hid hbw
    clear hbw
    by_cases hi : i < 43
    · have hi' : (i : Int) < 43 := by omega
      have c1 := hT.nm i hi
      have c2 := hT.al i hi
      have c3 := hT.cs i hi
      have hnum := hT.num i hi
      have hlt := hT.lt
      obtain ⟨k1, k2, k3⟩ := tab_short i hi
      have HFS := Lib.hid (fold_snoc l i hi _ hf)
      have HT := Lib.hid hT
      clear hT hf
      generalize tabE i = E at c1 c2 c3 hnum k1 k2 k3 HFS
      have cT := text_any E.2.2 (w.heap.size + i) E.2.2.length wr (by omega) (by omega) k3 hnum
      have cA := begins_any l (E.1 ++ [59]) wr
      rw [← join_one] at cA
      have cB := begins_any l E.1 wr
      clear hnum k3 hlt
      obtain ⟨nm, al, cs⟩ := E
      simp only at c1 c2 c3 k1 k2 HFS cT cA cB
      have hadd : ¬ (9223372036854775807 < nm.length + 1) := by omega
      cases hA : begs l (nm ++ [59])
      · rw [hA] at cA
        have no1 : ¬ (begs l (nm ++ [59]) = true ∧ n < nm.length + 1) := by simp [hA]
        cases al
        · have HS := Lib.hid (HFS.out.trans (rstep_no no1 (by simp)))
          clear no1 HFS hA cB cT
          go_wp2_with fail
          refine cA.mono ?_
          rintro e w' ⟨rfl, rfl⟩
          go_wp2
          go_roundw
          case rel => exact ⟨i + 1, n, t, by go_num, rfl, rfl, by omega, hn8, HS.out, HT.out, HBW.out⟩
          case measure => simp [RowKit.intOf]; omega
        · cases hB : begs l nm
          · rw [hB] at cB
            have HS := Lib.hid (HFS.out.trans (rstep_no no1 (by simp [hB])))
            clear no1 HFS hA hB cT
            go_wp2_with fail
            refine cA.mono ?_
            rintro e w' ⟨rfl, rfl⟩
            go_wp2_with fail
            refine cB.mono ?_
            rintro e w' ⟨rfl, rfl⟩
            go_wp2
            go_roundw
            case rel => exact ⟨i + 1, n, t, by go_num, rfl, rfl, by omega, hn8, HS.out, HT.out, HBW.out⟩
            case measure => simp [RowKit.intOf]; omega
          · rw [hB] at cB
            by_cases hm : n < nm.length
            · have hm' : (n : Int) < (nm.length : Int) := by omega
              have HS := Lib.hid (HFS.out.trans (rstep_two no1 rfl hB hm))
              clear no1 HFS hA hB
              go_wp2_with fail
              refine cA.mono ?_
              rintro e w' ⟨rfl, rfl⟩
              go_wp2_with fail
              refine cB.mono ?_
              rintro e w' ⟨rfl, rfl⟩
              go_wp2_with fail
              refine cT.mono ?_
              rintro e w2 ⟨rfl, hb2⟩
              have HT2 := Lib.hid (HT.out.below hb2)
              have HB2 := Lib.hid (HBW.out.trans (hb2.mono HBW.out.size))
              clear hb2
              go_wp2
              go_roundw
              case rel => exact ⟨i + 1, nm.length, _, by go_num, by go_num, rfl, by omega, by omega, HS.out, HT2.out, HB2.out⟩
              case measure => simp [RowKit.intOf]; omega
            · have hm' : decide ((n : Int) < (nm.length : Int)) = false := by simp; omega
              have HS := Lib.hid (HFS.out.trans (rstep_no no1 (by simp; omega)))
              clear no1 HFS hA hB cT
              go_wp2_with fail
              refine cA.mono ?_
              rintro e w' ⟨rfl, rfl⟩
              go_wp2_with fail
              refine cB.mono ?_
              rintro e w' ⟨rfl, rfl⟩
              go_wp2
              go_roundw
              case rel => exact ⟨i + 1, n, t, by go_num, rfl, rfl, by omega, hn8, HS.out, HT.out, HBW.out⟩
              case measure => simp [RowKit.intOf]; omega
      · rw [hA] at cA
        by_cases hm : n < nm.length + 1
        · have hm' : (n : Int) < (nm.length : Int) + 1 := by omega
          have HS := Lib.hid (HFS.out.trans (rstep_one hA hm))
          clear HFS hA cB
          go_wp2_with fail
          refine cA.mono ?_
          rintro e w' ⟨rfl, rfl⟩
          go_wp2_with fail
          refine cT.mono ?_
          rintro e w2 ⟨rfl, hb2⟩
          have HT2 := Lib.hid (HT.out.below hb2)
          have HB2 := Lib.hid (HBW.out.trans (hb2.mono HBW.out.size))
          clear hb2
          go_wp2
          go_roundw
          case rel => exact ⟨i + 1, nm.length + 1, _, by go_num, by go_num, rfl, by omega, by omega, HS.out, HT2.out, HB2.out⟩
          case measure => simp [RowKit.intOf]; omega
        · have hm' : decide ((n : Int) < (nm.length : Int) + 1) = false := by simp; omega
          have hm2 : decide ((n : Int) < (nm.length : Int)) = false := by simp; omega
          have HS := Lib.hid (HFS.out.trans (rstep_no (by simp; omega) (by simp; omega)))
          clear HFS hA cT
          cases al
          · clear cB
            go_wp2_with fail
            refine cA.mono ?_
            rintro e w' ⟨rfl, rfl⟩
            go_wp2
            go_roundw
            case rel => exact ⟨i + 1, n, t, by go_num, rfl, rfl, by omega, hn8, HS.out, HT.out, HBW.out⟩
            case measure => simp [RowKit.intOf]; omega
          · cases hB : begs l nm
            · rw [hB] at cB
              clear hB
              go_wp2_with fail
              refine cA.mono ?_
              rintro e w' ⟨rfl, rfl⟩
              go_wp2_with fail
              refine cB.mono ?_
              rintro e w' ⟨rfl, rfl⟩
              go_wp2
              go_roundw
              case rel => exact ⟨i + 1, n, t, by go_num, rfl, rfl, by omega, hn8, HS.out, HT.out, HBW.out⟩
              case measure => simp [RowKit.intOf]; omega
            · rw [hB] at cB
              clear hB
              go_wp2_with fail
              refine cA.mono ?_
              rintro e w' ⟨rfl, rfl⟩
              go_wp2_with fail
              refine cB.mono ?_
              rintro e w' ⟨rfl, rfl⟩
              go_wp2
              go_roundw
              case rel => exact ⟨i + 1, n, t, by go_num, rfl, rfl, by omega, hn8, HS.out, HT.out, HBW.out⟩
              case measure => simp [RowKit.intOf]; omega
    · have hi' : ¬ (i : Int) < 43 := by omega
      obtain rfl : i = 43 := by omega
      have HF := Lib.hid (show refL l = (n, t) from hf)
      clear hf hT
      go_wp2
      go_ret2
      rw [HF.out]
      exact ⟨rfl, HBW.out⟩
end Go.Proofs.YtfnecdifaodamaaDoor.En
