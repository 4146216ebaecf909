/- The program's Kind, walked: one short walk a name. -/
import Derived.Test.YtpamdilmoakflaaRSmall
namespace Go.Proofs.Ytpamdilmoakflaa
open Go.RowKit Go.Lib

set_option maxHeartbeats 4000000 in
set_option maxRecDepth 100000 in
theorem kind_any (n : List UInt8) (w : World) :
    Calls Try.prog 9 #[.string ⟨n.toArray⟩] w fun e w' => e = .returned (.int .i64 ((kdN n : Nat) : Int)) ∧ w = w' := by
  by_cases h0 : n = [116, 101, 120, 116, 97, 114, 101, 97]
  · subst h0
    rw [show kdN [116, 101, 120, 116, 97, 114, 101, 97] = 1 from by decide]
    go_enter Try.func9, Try.ntmps9
    go_wp2
    go_ret
    exact ⟨rfl, rfl⟩
  by_cases h1 : n = [116, 105, 116, 108, 101]
  · subst h1
    rw [show kdN [116, 105, 116, 108, 101] = 1 from by decide]
    go_enter Try.func9, Try.ntmps9
    go_wp2
    go_ret
    exact ⟨rfl, rfl⟩
  by_cases h2 : n = [105, 102, 114, 97, 109, 101]
  · subst h2
    rw [show kdN [105, 102, 114, 97, 109, 101] = 2 from by decide]
    go_enter Try.func9, Try.ntmps9
    go_wp2
    go_ret
    exact ⟨rfl, rfl⟩
  by_cases h3 : n = [110, 111, 101, 109, 98, 101, 100]
  · subst h3
    rw [show kdN [110, 111, 101, 109, 98, 101, 100] = 2 from by decide]
    go_enter Try.func9, Try.ntmps9
    go_wp2
    go_ret
    exact ⟨rfl, rfl⟩
  by_cases h4 : n = [110, 111, 102, 114, 97, 109, 101, 115]
  · subst h4
    rw [show kdN [110, 111, 102, 114, 97, 109, 101, 115] = 2 from by decide]
    go_enter Try.func9, Try.ntmps9
    go_wp2
    go_ret
    exact ⟨rfl, rfl⟩
  by_cases h5 : n = [115, 99, 114, 105, 112, 116]
  · subst h5
    rw [show kdN [115, 99, 114, 105, 112, 116] = 2 from by decide]
    go_enter Try.func9, Try.ntmps9
    go_wp2
    go_ret
    exact ⟨rfl, rfl⟩
  by_cases h6 : n = [115, 116, 121, 108, 101]
  · subst h6
    rw [show kdN [115, 116, 121, 108, 101] = 2 from by decide]
    go_enter Try.func9, Try.ntmps9
    go_wp2
    go_ret
    exact ⟨rfl, rfl⟩
  by_cases h7 : n = [120, 109, 112]
  · subst h7
    rw [show kdN [120, 109, 112] = 2 from by decide]
    go_enter Try.func9, Try.ntmps9
    go_wp2
    go_ret
    exact ⟨rfl, rfl⟩
  by_cases h8 : n = [112, 108, 97, 105, 110, 116, 101, 120, 116]
  · subst h8
    rw [show kdN [112, 108, 97, 105, 110, 116, 101, 120, 116] = 3 from by decide]
    go_enter Try.func9, Try.ntmps9
    go_wp2
    go_ret
    exact ⟨rfl, rfl⟩
  have e0 : kdN n = 0 := by
    unfold kdN ways
    simp only [wayIn]
    rw [if_neg (show ¬ nTextarea = n from fun e => h0 e.symm), if_neg (show ¬ nTitle = n from fun e => h1 e.symm), if_neg (show ¬ nIframe = n from fun e => h2 e.symm), if_neg (show ¬ nNoembed = n from fun e => h3 e.symm), if_neg (show ¬ nNoframes = n from fun e => h4 e.symm), if_neg (show ¬ nScript = n from fun e => h5 e.symm), if_neg (show ¬ nStyle = n from fun e => h6 e.symm), if_neg (show ¬ nXmp = n from fun e => h7 e.symm), if_neg (show ¬ nPlaintext = n from fun e => h8 e.symm)]
  rw [e0]
  clear e0
  replace h0 : (n == [116, 101, 120, 116, 97, 114, 101, 97]) = false := beq_eq_false_iff_ne.2 h0
  replace h1 : (n == [116, 105, 116, 108, 101]) = false := beq_eq_false_iff_ne.2 h1
  replace h2 : (n == [105, 102, 114, 97, 109, 101]) = false := beq_eq_false_iff_ne.2 h2
  replace h3 : (n == [110, 111, 101, 109, 98, 101, 100]) = false := beq_eq_false_iff_ne.2 h3
  replace h4 : (n == [110, 111, 102, 114, 97, 109, 101, 115]) = false := beq_eq_false_iff_ne.2 h4
  replace h5 : (n == [115, 99, 114, 105, 112, 116]) = false := beq_eq_false_iff_ne.2 h5
  replace h6 : (n == [115, 116, 121, 108, 101]) = false := beq_eq_false_iff_ne.2 h6
  replace h7 : (n == [120, 109, 112]) = false := beq_eq_false_iff_ne.2 h7
  replace h8 : (n == [112, 108, 97, 105, 110, 116, 101, 120, 116]) = false := beq_eq_false_iff_ne.2 h8
  go_enter Try.func9, Try.ntmps9
  go_wp2
  go_ret
  exact ⟨rfl, rfl⟩

/-- the rows that the reference lays: names and ways -/
def Tab (B : Nat) (w : World) : Prop := ∀ i, i < 9 → w.cell? ⟨B, i, none⟩ = some (.string ⟨(nm i).toArray⟩) ∧ w.cell? ⟨B + 1, i, none⟩ = some (.int .i64 (((ways.map Prod.snd).getD i 0 : Nat) : Int))
theorem Tab.below {B : Nat} {w w' : World} (h : Tab B w) (hb : Below w.heap.size w w') : Tab B w' := fun i hi =>
  ⟨(hb.cell (cell_lt (h i hi).1)).trans (h i hi).1, (hb.cell (cell_lt (h i hi).2)).trans (h i hi).2⟩

theorem wayIn_at (n : List UInt8) {i : Nat} (h : i < 9) : wayIn (ways.drop i) n = if nm i = n then (ways.map Prod.snd).getD i 0 else wayIn (ways.drop (i + 1)) n := by
  have hi : i < ways.length := h
  rw [List.drop_eq_getElem_cons hi]
  have e1 : nm i = ways[i].1 := by unfold nm; rw [List.getD_eq_getElem?_getD, List.getElem?_map, List.getElem?_eq_getElem hi]; rfl
  have e2 : (ways.map Prod.snd).getD i 0 = ways[i].2 := by rw [List.getD_eq_getElem?_getD, List.getElem?_map, List.getElem?_eq_getElem hi]; rfl
  rw [e1, e2]
  rfl
theorem way_lt {i : Nat} (h : i < 9) : (ways.map Prod.snd).getD i 0 ≤ 3 := by
  have : ∀ i < 9, (ways.map Prod.snd).getD i 0 ≤ 3 := by decide
  exact this i h

/-- the nine names as values -/
def nmV : Array Value := #[.string ⟨#[116, 101, 120, 116, 97, 114, 101, 97]⟩, .string ⟨#[116, 105, 116, 108, 101]⟩, .string ⟨#[105, 102, 114, 97, 109, 101]⟩, .string ⟨#[110, 111, 101, 109, 98, 101, 100]⟩, .string ⟨#[110, 111, 102, 114, 97, 109, 101, 115]⟩, .string ⟨#[115, 99, 114, 105, 112, 116]⟩, .string ⟨#[115, 116, 121, 108, 101]⟩, .string ⟨#[120, 109, 112]⟩, .string ⟨#[112, 108, 97, 105, 110, 116, 101, 120, 116]⟩]
/-- the nine ways as values -/
def wyV : Array Value := #[.int .i64 1, .int .i64 1, .int .i64 2, .int .i64 2, .int .i64 2, .int .i64 2, .int .i64 2, .int .i64 2, .int .i64 3]
theorem nmV_at {i : Nat} (h : i < 9) : nmV[i]? = some (.string ⟨(nm i).toArray⟩) := by
  rcases (by omega : i = 0 ∨ i = 1 ∨ i = 2 ∨ i = 3 ∨ i = 4 ∨ i = 5 ∨ i = 6 ∨ i = 7 ∨ i = 8) with rfl | rfl | rfl | rfl | rfl | rfl | rfl | rfl | rfl <;> rfl
theorem wyV_at {i : Nat} (h : i < 9) : wyV[i]? = some (.int .i64 (((ways.map Prod.snd).getD i 0 : Nat) : Int)) := by
  rcases (by omega : i = 0 ∨ i = 1 ∨ i = 2 ∨ i = 3 ∨ i = 4 ∨ i = 5 ∨ i = 6 ∨ i = 7 ∨ i = 8) with rfl | rfl | rfl | rfl | rfl | rfl | rfl | rfl | rfl <;> rfl

theorem tab_laid (w : World) : Tab w.heap.size ((w.alloc (.cells nmV 9)).alloc (.cells wyV 3)) ∧ Below w.heap.size w ((w.alloc (.cells nmV 9)).alloc (.cells wyV 3)) := by
  have hb1 : Below w.heap.size w (w.alloc (.cells nmV 9)) := (Below.refl _ w).alloc (Nat.le_refl _) _
  have hz : (w.alloc (.cells nmV 9)).heap.size = w.heap.size + 1 := by simp
  have hb2 : Below (w.alloc (.cells nmV 9)).heap.size (w.alloc (.cells nmV 9)) ((w.alloc (.cells nmV 9)).alloc (.cells wyV 3)) := (Below.refl _ _).alloc (Nat.le_refl _) _
  refine ⟨fun i hi => ⟨?_, ?_⟩, hb1.trans (hb2.mono hb1.size)⟩
  · have := row_cell' w 9 i _ nmV (0, 0) (nmV_at hi)
    exact (hb2.cell (cell_lt this)).trans this
  · have := row_cell' (w.alloc (.cells nmV 9)) 3 i _ wyV (0, 0) (wyV_at hi)
    rw [hz] at this
    exact this

/-- where the loop stands -/
def KdRel (n : List UInt8) (w : World) (v5 : Value) (wr : World) : Prop :=
  ∃ i : Nat, v5 = .int .i64 (i : Int) ∧ i ≤ 9 ∧ wayIn (ways.drop i) n = kdN n ∧ Tab w.heap.size wr ∧ Below w.heap.size w wr

set_option maxHeartbeats 4000000 in
set_option maxRecDepth 100000 in
theorem refKind_any (n : List UInt8) (w : World) :
    Calls Try.prog 10 #[.string ⟨n.toArray⟩] w fun e w' => e = .returned (.int .i64 ((kdN n : Nat) : Int)) ∧ Below w.heap.size w w' := by
  have HL := Lib.hid (tab_laid w)
  go_enter Try.func10, Try.ntmps10
  go_wp2
  go_loopw [5] (fun v wr => KdRel n w v wr) (fun v _ => 9 - (RowKit.intOf v).toNat)
  case atStart => exact ⟨0, rfl, by omega, rfl, HL.out.1, HL.out.2⟩
  case round =>
    clear HL
    obtain ⟨i, rfl, hi9, hk, hT, hbw⟩ := hrel
    have HBW := Lib.hid hbw
    clear hbw
    by_cases hi : i < 9
    · have hi' : (i : Int) < 9 := by omega
      have c1 := (hT i hi).1
      have c2 := (hT i hi).2
      have HW := Lib.hid (wayIn_at n hi)
      have hv := way_lt hi
      have HT := Lib.hid hT
      have HK := Lib.hid hk
      clear hT hk
      generalize nm i = k at c1 HW
      generalize (ways.map Prod.snd).getD i 0 = v at c2 HW hv
      by_cases hkn : k = n
      · subst hkn
        go_wp2
        go_ret
        refine ⟨ret_int ?_, HBW.out⟩
        rw [← HK.out, HW.out]
        simp
      · have hb : (k == n) = false := beq_eq_false_iff_ne.2 hkn
        have HW2 := Lib.hid (HW.out.trans (if_neg hkn))
        clear hkn
        go_wp2
        go_roundw
        case rel => exact ⟨i + 1, by go_num, by omega, HW2.out.symm.trans HK.out, HT.out, HBW.out⟩
        case measure => simp [RowKit.intOf]; omega
    · have hi' : ¬ ((i : Int) < 9) := by omega
      obtain rfl : i = 9 := by omega
      have HK := Lib.hid hk
      clear hk hT
      go_wp2
      go_ret
      exact ⟨ret_int (by rw [← HK.out]; rfl), HBW.out⟩
end Go.Proofs.Ytpamdilmoakflaa
