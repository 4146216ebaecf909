/- The reference's in, over, upTo, char, letter and Begins, walked. -/
import Derived.Test.YtfnecdifaodamaaDoorRText
import Derived.Test.YtfnecdifaodamaaDoorTgMath
import Derived.Test.YtfnecdifaodamaaDoorKlHex
import Derived.Test.YtfnecdifaodamaaDoorTgRd
import Derived.Test.YtfnecdifaodamaaDoorSpk
namespace Go.Proofs.YtfnecdifaodamaaDoor.Tg
open Go.RowKit Go.Lib
open Ch (at0 nx nx_width nx_range at0_lt at0_drop enc_len Sl Sl.below Cells ret_str good nx_good nxAt nxAt_in nxAt_out refNext_any string_own info5 addr_add0)
open Kl (blankN greatN refLower_any refLetter_any lowerZ)

variable {l : List UInt8} {a : Option Addr} {cap : Nat} {w w' : World}

/-- a row of integers -/
def Rw (L : List Nat) (g : Nat) (w : World) : Prop := ∀ j, j < L.length → w.cell? ⟨g, j, none⟩ = some (.int .i64 ((L.getD j 0 : Nat) : Int))
theorem Rw.below {L : List Nat} {g : Nat} (h : Rw L g w) (hb : Below w.heap.size w w') : Rw L g w' := fun j hj => (hb.cell (Ch.cell_lt (h j hj))).trans (h j hj)
theorem rw_new (L : List Nat) (w : World) (cs : Array Value) (h : cs = (L.map fun n : Nat => Value.int .i64 (n : Int)).toArray) : Rw L w.heap.size (w.alloc (.cells cs 3)) := by
  intro j hj
  apply row_cell'
  rw [h]
  simp [List.getElem?_eq_getElem hj, List.getD_eq_getElem?_getD]

def inL (L : List Nat) (c : Nat) : Bool := L.any (fun x => x == c)

theorem in_yes {L : List Nat} {k c : Nat} (hk : k < L.length) (h : L.getD k 0 = c) : inL L c = true := by
  unfold inL
  rw [List.any_eq_true]
  refine ⟨L[k], List.getElem_mem hk, ?_⟩
  rw [List.getD_eq_getElem?_getD, List.getElem?_eq_getElem hk] at h
  simpa using h
theorem in_no {L : List Nat} {c : Nat} (h : ∀ j, j < L.length → L.getD j 0 ≠ c) : inL L c = false := by
  unfold inL
  rw [List.any_eq_false]
  intro x hx
  obtain ⟨k, hk, rfl⟩ := List.getElem_of_mem hx
  have := h k hk
  rw [List.getD_eq_getElem?_getD, List.getElem?_eq_getElem hk] at this
  simpa using this

set_option maxHeartbeats 1000000 in
set_option maxRecDepth 100000 in
theorem in_any (L : List Nat) (g c capL : Nat) (w : World) (hr : Rw L g w) (hl : L.length ≤ 1000) :
    Calls Tryd.prog 41 #[.int .i64 (c : Int), .slice (some ⟨g, 0, none⟩) L.length capL] w fun e w' => e = .returned (.bool (inL L c)) ∧ w = w' := by
  go_enter Tryd.func41, Tryd.ntmps41
  go_wp2
  go_loop [5] (fun v => ∃ k : Nat, v = .int .i64 k ∧ k ≤ L.length ∧ ∀ j, j < k → L.getD j 0 ≠ c) (fun v => L.length - (RowKit.intOf v).toNat)
  case atStart => exact ⟨0, rfl, by omega, fun j hj => absurd hj (by omega)⟩
  case round =>
    obtain ⟨k, rfl, hk, hah⟩ := hrel
    have HA := Lib.hid hah
    clear hah
    by_cases hlt : k < L.length
    · have c1 := hr k hlt
      have h1 : (k : Int) < (L.length : Int) := by omega
      cases he : (((L.getD k 0 : Nat) : Int) == (c : Int)) with
      | true =>
        have HI := Lib.hid (in_yes hlt (by simp only [beq_iff_eq] at he; omega : L.getD k 0 = c))
        generalize L.getD k 0 = X at c1 he
        go_wp2
        go_ret
        exact ⟨Ch.ret_bool HI.out.symm, rfl⟩
      | false =>
        have hne : L.getD k 0 ≠ c := by
          intro e
          rw [e] at he
          simp at he
        have HN := Lib.hid hne
        clear hne
        generalize hX : L.getD k 0 = X at c1 he HN
        have HX := Lib.hid hX
        clear hX
        go_wp2
        go_round
        case rel =>
          refine ⟨k + 1, by go_num, by omega, fun j hj => ?_⟩
          rcases Nat.lt_or_ge j k with q | q
          · exact HA.out j q
          · obtain rfl : j = k := by omega
            rw [HX.out]
            exact HN.out
        case measure => simp [RowKit.intOf]; omega
    · have h1 : ¬ ((k : Int) < (L.length : Int)) := by omega
      have HI := Lib.hid (in_no (L := L) (c := c) (fun j hj => HA.out j (by omega)))
      go_wp2
      go_ret
      exact ⟨Ch.ret_bool HI.out.symm, rfl⟩

theorem nx_drop {i : Nat} (h : i < l.length) : l.drop i ≠ [] := by
  intro e; have := congrArg List.length e; simp at this; omega

set_option maxHeartbeats 2000000 in
set_option maxRecDepth 100000 in
theorem over_any (L : List Nat) (g capL i : Nat) (w : World) (hs : Sl l a cap w) (hr : Rw L g w) (hl : L.length ≤ 1000) (hi : i ≤ l.length) (hlen : l.length ≤ 1000000) :
    Calls Tryd.prog 23 #[.slice a l.length cap, .int .i64 (i : Int), .slice (some ⟨g, 0, none⟩) L.length capL] w fun e w' => e = .returned (.int .i64 ((i + ov (inL L) (l.drop i) : Nat) : Int)) ∧ w = w' := by
  go_enter Tryd.func23, Tryd.ntmps23
  go_wp2
  go_loop [1] (fun v => ∃ j : Nat, v = .int .i64 (j : Int) ∧ j ≤ l.length ∧ j + ov (inL L) (l.drop j) = i + ov (inL L) (l.drop i)) (fun v => l.length - (RowKit.intOf v).toNat)
  case atStart => exact ⟨i, rfl, hi, rfl⟩
  case round =>
    obtain ⟨j, rfl, hj, he⟩ := hrel
    have HE := Lib.hid he
    clear he
    by_cases hlt : j < l.length
    · have h1 : (j : Int) < (l.length : Int) := by omega
      have hN := refNext_any l a cap (j : Int) w hs (by omega)
      rw [nxAt_in hlt] at hN
      have hne := nx_drop hlt
      have hw := nx_width _ hne
      simp only [List.length_drop] at hw
      cases hp : inL L (nx (l.drop j)).1 with
      | true =>
        have HZ := Lib.hid (ov_step (p := inL L) hne hp).1
        have cI := in_any L g (nx (l.drop j)).1 capL w hr hl
        rw [hp] at cI
        rw [List.drop_drop] at HZ
        clear hp hne
        generalize nx (l.drop j) = RR at hN cI HZ hw
        obtain ⟨c, n⟩ := RR
        simp only at hN cI HZ hw
        go_wp2_with fail
        refine hN.mono ?_
        rintro e w1 ⟨rfl, rfl⟩
        go_wp2_with fail
        refine cI.mono ?_
        rintro e w1 ⟨rfl, rfl⟩
        go_wp2
        go_round
        case rel => exact ⟨j + n, by go_num, by omega, by have := HZ.out; have := HE.out; omega⟩
        case measure => simp [RowKit.intOf]; omega
      | false =>
        have HZ := Lib.hid (ov_stop (p := inL L) hp).1
        have cI := in_any L g (nx (l.drop j)).1 capL w hr hl
        rw [hp] at cI
        have e1 : i + ov (inL L) (l.drop i) = j := by have := HE.out; rw [HZ.out] at this; omega
        have HJ := Lib.hid e1
        clear hp hne e1 HZ HE
        generalize nx (l.drop j) = RR at hN cI hw
        obtain ⟨c, n⟩ := RR
        simp only at hN cI hw
        go_wp2_with fail
        refine hN.mono ?_
        rintro e w1 ⟨rfl, rfl⟩
        go_wp2_with fail
        refine cI.mono ?_
        rintro e w1 ⟨rfl, rfl⟩
        go_wp2
        go_ret
        exact ⟨Ch.ret_int (congrArg (fun n : Nat => (n : Int)) HJ.out.symm), rfl⟩
    · have h1 : ¬ ((j : Int) < (l.length : Int)) := by omega
      have e1 : i + ov (inL L) (l.drop i) = j := by
        have := HE.out
        rw [List.drop_of_length_le (by omega), ov_nil] at this
        omega
      have HJ := Lib.hid e1
      clear e1 HE
      go_wp2
      go_ret
      exact ⟨Ch.ret_int (congrArg (fun n : Nat => (n : Int)) HJ.out.symm), rfl⟩

/-- where 'upTo' stands -/
def UpRel (l : List UInt8) (L : List Nat) (i : Nat) (w : World) (v8 v1 : Value) (wr : World) : Prop :=
  ∃ (j : Nat) (acc : List UInt8), v1 = .int .i64 (j : Int) ∧ j ≤ l.length ∧ wr.ownsRow w.heap.size 5 1 v8 acc.length (Lib.byteCells acc) ∧ Below w.heap.size w wr ∧
    acc ++ lw (fun c => !inL L c) (l.drop j) = lw (fun c => !inL L c) (l.drop i) ∧ j + ov (fun c => !inL L c) (l.drop j) = i + ov (fun c => !inL L c) (l.drop i)

theorem good_ok {c : Nat} (h : good c) : ok c := by unfold good at h; unfold ok; omega
theorem lowZ (c : Nat) : lowerZ (c : Int) = ((lowN c : Nat) : Int) := by
  unfold lowerZ lowN
  rw [Kl.greatZ_nat]
  split <;> simp
theorem ret_si {x y : List UInt8} {m n : Nat} (h : x = y) (h' : m = n) : Ending.returned (.tuple #[.string ⟨x.toArray⟩, .int .i64 (m : Int)]) = .returned (.tuple #[.string ⟨y.toArray⟩, .int .i64 (n : Int)]) := by rw [h, h']

set_option maxHeartbeats 4000000 in
set_option maxRecDepth 100000 in
theorem upTo_any (L : List Nat) (g capL i : Nat) (w : World) (hs : Sl l a cap w) (hr : Rw L g w) (hl : L.length ≤ 1000) (hi : i ≤ l.length) (hlen : l.length ≤ 1000000) :
    Calls Tryd.prog 22 #[.slice a l.length cap, .int .i64 (i : Int), .slice (some ⟨g, 0, none⟩) L.length capL] w fun e w' => e = .returned (.tuple #[.string ⟨(lw (fun c => !inL L c) (l.drop i)).toArray⟩, .int .i64 ((i + ov (fun c => !inL L c) (l.drop i) : Nat) : Int)]) ∧ Below w.heap.size w w' := by
  obtain ⟨i5, hi5, hp5⟩ := info5
  simp only [Prod.mk.injEq] at hp5
  obtain ⟨hz5, hsz5, hby5⟩ := hp5
  have HI5 := Lib.hid hi5
  have HZ5 := Lib.hid hz5
  have HS5 := Lib.hid hsz5
  have HB5 := Lib.hid hby5
  clear hi5 hz5 hsz5 hby5
  go_enter Tryd.func22, Tryd.ntmps22
  go_wp2
  go_loopw [8, 1] (fun v8 v1 wr => UpRel l L i w v8 v1 wr) (fun _ v1 _ => l.length - (RowKit.intOf v1).toNat)
  case atStart =>
    refine ⟨i, [], rfl, hi, ⟨by simp [Lib.byteCells], Or.inr ⟨w.heap.size, 0, #[], rfl, Nat.le_refl _, ?_, by simp, by simp, by simp, by simp [Lib.byteCells]⟩⟩, (Below.refl _ w).alloc (Nat.le_refl _) _, rfl, rfl⟩
    simp [World.alloc, -World.alloc_eq]
  case round =>
    obtain ⟨j, acc, rfl, hj, hown, hbw, hacc, he⟩ := hrel
    have HE := Lib.hid he
    have HAC := Lib.hid hacc
    have hal : acc.length ≤ 4 * l.length := by
      have := lw_len (fun c => !inL L c) (l.drop i)
      rw [← hacc] at this
      simp at this; omega
    have hsz := hbw.size
    have hsr := hs.below hbw
    have hrr := hr.below hbw
    clear he hacc
    by_cases hlt : j < l.length
    · have h1 : (j : Int) < (l.length : Int) := by omega
      have hN := refNext_any l a cap (j : Int) wr hsr (by omega)
      rw [nxAt_in hlt] at hN
      have hne := nx_drop hlt
      have hw := nx_width _ hne
      have hg := nx_good (l.drop j)
      simp only [List.length_drop] at hw
      have cI := in_any L g (nx (l.drop j)).1 capL wr hrr hl
      cases hp : inL L (nx (l.drop j)).1 with
      | false =>
        have hst := ov_step (p := fun c => !inL L c) hne (by simp [hp])
        rw [List.drop_drop] at hst
        have HZ := Lib.hid hst
        rw [hp] at cI
        have cL := refLower_any ((nx (l.drop j)).1 : Int) wr
        rw [lowZ] at cL
        have cU := utf_ok (lowN (nx (l.drop j)).1) wr (good_ok (lowN_good hg))
        clear hp hne hst hg
        generalize nx (l.drop j) = RR at hN cI cL cU HZ hw
        obtain ⟨c, n⟩ := RR
        simp only at hN cI cL cU HZ hw
        have hrl := (enc_len ((lowN c : Nat) : Int)).2
        go_wp2_with fail
        refine hN.mono ?_
        rintro e w1 ⟨rfl, rfl⟩
        go_wp2_with fail
        refine cI.mono ?_
        rintro e w1 ⟨rfl, rfl⟩
        go_wp2_with fail
        refine cL.mono ?_
        rintro e w1 ⟨rfl, rfl⟩
        go_wp2_with fail
        refine cU.mono ?_
        rintro e w2 ⟨cap2, rfl, hcells, hb2⟩
        have hown2 := Ch.ownsRow_below hown hb2
        have hz2 := hb2.size
        have HC := Lib.hid hcells
        clear hcells
        obtain ⟨q, hq⟩ : ∃ q, encodeRune ((lowN c : Nat) : Int) = q := ⟨_, rfl⟩
        rw [hq] at HC HZ hrl ⊢
        clear hq
        go_wp2_with (at_builtin; refine wpList_append_own _ rfl (.tmp 25) (.tmp 28) 22 rfl w.heap.size 5 i5 (.int .u8 0) 1 1 Tryd.underlying22 HI5.out HZ5.out HS5.out HB5.out rfl (by decide) _ _ _ rfl hown2 ⟨wr.heap.size, 0, none⟩ _ _ (Lib.byteCells q) rfl ?c0 ?c1 ?c2 ?c3 ?c4 ?c5 ?_)
        case c0 => rw [Lib.byteCells_length]; simp
        case c1 =>
          intro k u hk
          rw [addr_add0]
          have hkl : k < q.length := by
            rcases Nat.lt_or_ge k q.length with z | z
            · exact z
            · rw [List.getElem?_eq_none (by rw [Lib.byteCells_length]; exact z)] at hk; cases hk
          have := HC.out k hkl
          rw [Nat.zero_add] at this
          rw [this, ← hk]
          simp [Lib.byteCells, at0, List.getD_eq_getElem?_getD, List.getElem?_eq_getElem hkl]
        case c2 =>
          intro u hu
          unfold Lib.byteCells at hu
          obtain ⟨z, _, rfl⟩ := List.mem_map.1 hu
          rfl
        case c3 => unfold maxLen; omega
        case c4 => omega
        case c5 => omega
        intro v' w3 hown' hgrow _
        have HO := Lib.hid hown'
        have HB := Lib.hid ((hbw.trans (hb2.mono hsz)).grown hgrow (by omega) (fun k hk => (hown2.lt k hk).1))
        clear hown' hgrow hown hown2 hb2 hbw
        go_wp2
        go_roundw
        case rel =>
          refine ⟨j + n, acc ++ q, by go_num, by omega, ?_, HB.out, ?_, ?_⟩
          · rw [Lib.byteCells_append, List.length_append]; exact HO.out
          · rw [List.append_assoc, ← HZ.out.2]; exact HAC.out
          · have := HZ.out.1; have := HE.out; omega
        case measure => simp [RowKit.intOf]; omega
      | true =>
        have hst := ov_stop (p := fun c => !inL L c) (m := l.drop j) (by simp [hp])
        have HZ := Lib.hid hst
        rw [hp] at cI
        have hstr := string_own hown
        have HB := Lib.hid hbw
        have e1 := HE.out
        have e2 := HAC.out
        rw [HZ.out.1] at e1
        rw [HZ.out.2, List.append_nil] at e2
        have HE1 := Lib.hid e1
        have HE2 := Lib.hid e2
        clear hp hne hst hg hown hbw e1 e2
        generalize nx (l.drop j) = RR at hN cI hw
        obtain ⟨c, n⟩ := RR
        simp only at hN cI hw
        go_wp2_with fail
        refine hN.mono ?_
        rintro e w1 ⟨rfl, rfl⟩
        go_wp2_with fail
        refine cI.mono ?_
        rintro e w1 ⟨rfl, rfl⟩
        go_wp2
        go_ret2
        exact ⟨ret_si HE2.out HE1.out, HB.out⟩
    · have h1 : ¬ ((j : Int) < (l.length : Int)) := by omega
      have hstr := string_own hown
      have HB := Lib.hid hbw
      have e1 := HE.out
      have e2 := HAC.out
      rw [List.drop_of_length_le (by omega), ov_nil] at e1
      rw [List.drop_of_length_le (by omega), lw_nil, List.append_nil] at e2
      have HE1 := Lib.hid e1
      have HE2 := Lib.hid e2
      clear hown hbw e1 e2
      go_wp2
      go_ret2
      exact ⟨ret_si HE2.out HE1.out, HB.out⟩
end Go.Proofs.YtfnecdifaodamaaDoor.Tg
