/- The reference's in, over, upTo, char, letter and Begins, walked. -/
import Derived.Test.YtndcmapifihgeaaGreatDoorRText
import Derived.Test.YtndcmapifihgeaaGreatDoorTgMath
import Derived.Test.YtndcmapifihgeaaGreatDoorKlHex
import Derived.Test.YtndcmapifihgeaaGreatDoorTgCr
import Derived.Test.YtndcmapifihgeaaGreatDoorSpk
namespace Go.Proofs.YtndcmapifihgeaaGreatDoor.Tg
open Go.RowKit Go.Lib
open Ch (at0 nx nx_width nx_range at0_lt at0_drop enc_len Sl Sl.below Cells ret_str good nx_good nxAt nxAt_in nxAt_out refNext_any string_own info5 addr_add0)
open Kl (blankN greatN refLower_any refLetter_any lowerZ)

variable {l : List UInt8} {a : Option Addr} {cap : Nat} {w w' : World}

/-- a row of integers -/
def Rw (L : List Nat) (g : Nat) (w : World) : Prop := ∀ j, j < L.length → w.cell? ⟨g, j, none⟩ = some (.int .i64 ((L.getD j 0 : Nat) : Int))
theorem Rw.below {L : List Nat} {g : Nat} (h : Rw L g w) (hb : Below w.heap.size w w') : Rw L g w' := fun j hj => (hb.cell (Ch.cell_lt (h j hj))).trans (h j hj)
theorem rw_new (L : List Nat) (w : World) (cs : Array Value) (h : cs = (L.map fun n : Nat => Value.int .i64 (n : Int)).toArray) : Rw L w.heap.size (w.alloc (.cells cs 3)) := by
  intro j hj
  apply row_cell'
  rw [h]
  simp [List.getElem?_eq_getElem hj, List.getD_eq_getElem?_getD]

def inL (L : List Nat) (c : Nat) : Bool := L.any (fun x => x == c)

theorem in_yes {L : List Nat} {k c : Nat} (hk : k < L.length) (h : L.getD k 0 = c) : inL L c = true := by
  unfold inL
  rw [List.any_eq_true]
  refine ⟨L[k], List.getElem_mem hk, ?_⟩
  rw [List.getD_eq_getElem?_getD, List.getElem?_eq_getElem hk] at h
  simpa using h
theorem in_no {L : List Nat} {c : Nat} (h : ∀ j, j < L.length → L.getD j 0 ≠ c) : inL L c = false := by
  unfold inL
  rw [List.any_eq_false]
  intro x hx
  obtain ⟨k, hk, rfl⟩ := List.getElem_of_mem hx
  have := h k hk
  rw [List.getD_eq_getElem?_getD, List.getElem?_eq_getElem hk] at this
  simpa using this

set_option maxHeartbeats 1000000 in
set_option maxRecDepth 100000 in
theorem in_any (L : List Nat) (g c capL : Nat) (w : World) (hr : Rw L g w) (hl : L.length ≤ 1000) :
    Calls Tryz.prog 62 #[.int .i64 (c : Int), .slice (some ⟨g, 0, none⟩) L.length capL] w fun e w' => e = .returned (.bool (inL L c)) ∧ w = w' := by
  go_enter Tryz.func62, Tryz.ntmps62
  go_wp2
  go_loop [5] (fun v => ∃ k : Nat, v = .int .i64 k ∧ k ≤ L.length ∧ ∀ j, j < k → L.getD j 0 ≠ c) (fun v => L.length - (RowKit.intOf v).toNat)
  case atStart => exact ⟨0, rfl, by omega, fun j hj => absurd hj (by omega)⟩
  case round =>
    obtain ⟨k, rfl, hk, hah⟩ := hrel
    have HA := Lib.hid hah
    clear hah
    by_cases hlt : k < L.length
    · have c1 := hr k hlt
      have h1 : (k : Int) < (L.length : Int) := by omega
      cases he : (((L.getD k 0 : Nat) : Int) == (c : Int)) with
      | true =>
        have HI := Lib.hid (in_yes hlt (by simp only [beq_iff_eq] at he; omega : L.getD k 0 = c))
        generalize L.getD k 0 = X at c1 he
        go_wp2
        go_ret
        exact ⟨Ch.ret_bool HI.out.symm, rfl⟩
      | false =>
        have hne : L.getD k 0 ≠ c := by
          intro e
          rw [e] at he
          simp at he
        have HN := Lib.hid hne
        clear hne
        generalize hX : L.getD k 0 = X at c1 he HN
        have HX := Lib.hid hX
        clear hX
        go_wp2
        go_round
        case rel =>
          refine ⟨k + 1, by go_num, by omega, fun j hj => ?_⟩
          rcases Nat.lt_or_ge j k with q | q
          · exact HA.out j q
          · obtain rfl : j = k := by omega
            rw [HX.out]
            exact HN.out
        case measure => simp [RowKit.intOf]; omega
    · have h1 : ¬ ((k : Int) < (L.length : Int)) := by omega
      have HI := Lib.hid (in_no (L := L) (c := c) (fun j hj => HA.out j (by omega)))
      go_wp2
      go_ret
      exact ⟨Ch.ret_bool HI.out.symm, rfl⟩

theorem nx_drop {i : Nat} (h : i < l.length) : l.drop i ≠ [] := by
  intro e; have := congrArg List.length e; simp at this; omega

set_option maxHeartbeats 2000000 in
set_option maxRecDepth 100000 in
theorem over_any (L : List Nat) (g capL i : Nat) (w : World) (hs : Sl l a cap w) (hr : Rw L g w) (hl : L.length ≤ 1000) (hi : i ≤ l.length) (hlen : l.length ≤ 1000000) :
    Calls Tryz.prog 38 #[.slice a l.length cap, .int .i64 (i : Int), .slice (some ⟨g, 0, none⟩) L.length capL] w fun e w' => e = .returned (.int .i64 ((i + ov (inL L) (l.drop i) : Nat) : Int)) ∧ w = w' := by
  go_enter Tryz.func38, Tryz.ntmps38
  go_wp2
  go_loop [1] (fun v => ∃ j : Nat, v = .int .i64 (j : Int) ∧ j ≤ l.length ∧ j + ov (inL L) (l.drop j) = i + ov (inL L) (l.drop i)) (fun v => l.length - (RowKit.intOf v).toNat)
  case atStart => exact ⟨i, rfl, hi, rfl⟩
  case round =>
    obtain ⟨j, rfl, hj, he⟩ := hrel
    have HE := Lib.hid he
    clear he
    by_cases hlt : j < l.length
    · have h1 : (j : Int) < (l.length : Int) := by omega
      have hN := refNext_any l a cap (j : Int) w hs (by omega)
      rw [nxAt_in hlt] at hN
      have hne := nx_drop hlt
      have hw := nx_width _ hne
      simp only [List.length_drop] at hw
      cases hp : inL L (nx (l.drop j)).1 with
      | true =>
        have HZ := Lib.hid (ov_step (p := inL L) hne hp).1
        have cI := in_any L g (nx (l.drop j)).1 capL w hr hl
        rw [hp] at cI
        rw [List.drop_drop] at HZ
        clear hp hne
        generalize nx (l.drop j) = RR at hN cI HZ hw
        obtain ⟨c, n⟩ := RR
        simp only at hN cI HZ hw
        go_wp2_with fail
        refine hN.mono ?_
        rintro e w1 ⟨rfl, rfl⟩
        go_wp2_with fail
        refine cI.mono ?_
        rintro e w1 ⟨rfl, rfl⟩
        go_wp2
        go_round
        case rel => exact ⟨j + n, by go_num, by omega, by have := HZ.out; have := HE.out; omega⟩
        case measure => simp [RowKit.intOf]; omega
      | false =>
        have HZ := Lib.hid (ov_stop (p := inL L) hp).1
        have cI := in_any L g (nx (l.drop j)).1 capL w hr hl
        rw [hp] at cI
        have e1 : i + ov (inL L) (l.drop i) = j := by have := HE.out; rw [HZ.out] at this; omega
        have HJ := Lib.hid e1
        clear hp hne e1 HZ HE
        generalize nx (l.drop j) = RR at hN cI hw
        obtain ⟨c, n⟩ := RR
        simp only at hN cI hw
        go_wp2_with fail
        refine hN.mono ?_
        rintro e w1 ⟨rfl, rfl⟩
        go_wp2_with fail
        refine cI.mono ?_
        rintro e w1 ⟨rfl, rfl⟩
        go_wp2
        go_ret
        exact ⟨Ch.ret_int (congrArg (fun n : Nat => (n : Int)) HJ.out.symm), rfl⟩
    · have h1 : ¬ ((j : Int) < (l.length : Int)) := by omega
      have e1 : i + ov (inL L) (l.drop i) = j := by
        have := HE.out
        rw [List.drop_of_length_le (by omega), ov_nil] at this
        omega
      have HJ := Lib.hid e1
      clear e1 HE
      go_wp2
      go_ret
      exact ⟨Ch.ret_int (congrArg (fun n : Nat => (n : Int)) HJ.out.symm), rfl⟩

/-- where 'upTo' stands -/
def UpRel (l : List UInt8) (L : List Nat) (i : Nat) (w : World) (v8 v1 : Value) (wr : World) : Prop :=
  ∃ (j : Nat) (acc : List UInt8), v1 = .int .i64 (j : Int) ∧ j ≤ l.length ∧ wr.ownsRow w.heap.size 5 1 v8 acc.length (Lib.byteCells acc) ∧ Below w.heap.size w wr ∧
    acc ++ lw (fun c => !inL L c) (l.drop j) = lw (fun c => !inL L c) (l.drop i) ∧ j + ov (fun c => !inL L c) (l.drop j) = i + ov (fun c => !inL L c) (l.drop i)

theorem good_ok {c : Nat} (h : good c) : ok c := by unfold good at h; unfold ok; omega
theorem lowZ (c : Nat) : lowerZ (c : Int) = ((lowN c : Nat) : Int) := by
  unfold lowerZ lowN
  rw [Kl.greatZ_nat]
  split <;> simp
theorem ret_si {x y : List UInt8} {m n : Nat} (h : x = y) (h' : m = n) : Ending.returned (.tuple #[.string ⟨x.toArray⟩, .int .i64 (m : Int)]) = .returned (.tuple #[.string ⟨y.toArray⟩, .int .i64 (n : Int)]) := by rw [h, h']

set_option maxHeartbeats 4000000 in
set_option maxRecDepth 100000 in
theorem upTo_any (L : List Nat) (g capL i : Nat) (w : World) (hs : Sl l a cap w) (hr : Rw L g w) (hl : L.length ≤ 1000) (hi : i ≤ l.length) (hlen : l.length ≤ 1000000) :
    Calls Tryz.prog 37 #[.slice a l.length cap, .int .i64 (i : Int), .slice (some ⟨g, 0, none⟩) L.length capL] w fun e w' => e = .returned (.tuple #[.string ⟨(lw (fun c => !inL L c) (l.drop i)).toArray⟩, .int .i64 ((i + ov (fun c => !inL L c) (l.drop i) : Nat) : Int)]) ∧ Below w.heap.size w w' := by
  obtain ⟨i5, hi5, hp5⟩ := info5
  simp only [Prod.mk.injEq] at hp5
  obtain ⟨hz5, hsz5, hby5⟩ := hp5
  have HI5 := Lib.hid hi5
  have HZ5 := Lib.hid hz5
  have HS5 := Lib.hid hsz5
  have HB5 := Lib.hid hby5
  clear hi5 hz5 hsz5 hby5
  go_enter Tryz.func37, Tryz.ntmps37
  go_wp2
  go_loopw [8, 1] (fun v8 v1 wr => UpRel l L i w v8 v1 wr) (fun _ v1 _ => l.length - (RowKit.intOf v1).toNat)
  case atStart =>
    refine ⟨i, [], rfl, hi, ⟨by simp [Lib.byteCells], Or.inr ⟨w.heap.size, 0, #[], rfl, Nat.le_refl _, ?_, by simp, by simp, by simp, by simp [Lib.byteCells]⟩⟩, (Below.refl _ w).alloc (Nat.le_refl _) _, rfl, rfl⟩
    simp [World.alloc, -World.alloc_eq]
  case round =>
    obtain ⟨j, acc, rfl, hj, hown, hbw, hacc, he⟩ := hrel
    have HE := Lib.hid he
    have HAC := Lib.hid hacc
    have hal : acc.length ≤ 4 * l.length := by
      have := lw_len (fun c => !inL L c) (l.drop i)
      rw [← hacc] at this
      simp at this; omega
    have hsz := hbw.size
    have hsr := hs.below hbw
    have hrr := hr.below hbw
    clear he hacc
    by_cases hlt : j < l.length
    · have h1 : (j : Int) < (l.length : Int) := by omega
      have hN := refNext_any l a cap (j : Int) wr hsr (by omega)
      rw [nxAt_in hlt] at hN
      have hne := nx_drop hlt
      have hw := nx_width _ hne
      have hg := nx_good (l.drop j)
      simp only [List.length_drop] at hw
      have cI := in_any L g (nx (l.drop j)).1 capL wr hrr hl
      cases hp : inL L (nx (l.drop j)).1 with
      | false =>
        have hst := ov_step (p := fun c => !inL L c) hne (by simp [hp])
        rw [List.drop_drop] at hst
        have HZ := Lib.hid hst
        rw [hp] at cI
        have cL := refLower_any ((nx (l.drop j)).1 : Int) wr
        rw [lowZ] at cL
        have cU := utf_ok (lowN (nx (l.drop j)).1) wr (good_ok (lowN_good hg))
        clear hp hne hst hg
        generalize nx (l.drop j) = RR at hN cI cL cU HZ hw
        obtain ⟨c, n⟩ := RR
        simp only at hN cI cL cU HZ hw
        have hrl := (enc_len ((lowN c : Nat) : Int)).2
        go_wp2_with fail
        refine hN.mono ?_
        rintro e w1 ⟨rfl, rfl⟩
        go_wp2_with fail
        refine cI.mono ?_
        rintro e w1 ⟨rfl, rfl⟩
        go_wp2_with fail
        refine cL.mono ?_
        rintro e w1 ⟨rfl, rfl⟩
        go_wp2_with fail
        refine cU.mono ?_
        rintro e w2 ⟨cap2, rfl, hcells, hb2⟩
        have hown2 := Ch.ownsRow_below hown hb2
        have hz2 := hb2.size
        have HC := Lib.hid hcells
        clear hcells
        obtain ⟨q, hq⟩ : ∃ q, encodeRune ((lowN c : Nat) : Int) = q := ⟨_, rfl⟩
        rw [hq] at HC HZ hrl ⊢
        clear hq
        go_wp2_with (at_builtin; refine wpList_append_own _ rfl (.tmp 25) (.tmp 28) 22 rfl w.heap.size 5 i5 (.int .u8 0) 1 1 Tryz.underlying22 HI5.out HZ5.out HS5.out HB5.out rfl (by decide) _ _ _ rfl hown2 ⟨wr.heap.size, 0, none⟩ _ _ (Lib.byteCells q) rfl ?c0 ?c1 ?c2 ?c3 ?c4 ?c5 ?_)
        case c0 => rw [Lib.byteCells_length]; simp
        case c1 =>
          intro k u hk
          rw [addr_add0]
          have hkl : k < q.length := by
            rcases Nat.lt_or_ge k q.length with z | z
            · exact z
            · rw [List.getElem?_eq_none (by rw [Lib.byteCells_length]; exact z)] at hk; cases hk
          have := HC.out k hkl
          rw [Nat.zero_add] at this
          rw [this, ← hk]
          simp [Lib.byteCells, at0, List.getD_eq_getElem?_getD, List.getElem?_eq_getElem hkl]
        case c2 =>
          intro u hu
          unfold Lib.byteCells at hu
          obtain ⟨z, _, rfl⟩ := List.mem_map.1 hu
          rfl
        case c3 => unfold maxLen; omega
        case c4 => omega
        case c5 => omega
        intro v' w3 hown' hgrow _
        have HO := Lib.hid hown'
        have HB := Lib.hid ((hbw.trans (hb2.mono hsz)).grown hgrow (by omega) (fun k hk => (hown2.lt k hk).1))
        clear hown' hgrow hown hown2 hb2 hbw
        go_wp2
        go_roundw
        case rel =>
          refine ⟨j + n, acc ++ q, by go_num, by omega, ?_, HB.out, ?_, ?_⟩
          · rw [Lib.byteCells_append, List.length_append]; exact HO.out
          · rw [List.append_assoc, ← HZ.out.2]; exact HAC.out
          · have := HZ.out.1; have := HE.out; omega
        case measure => simp [RowKit.intOf]; omega
      | true =>
        have hst := ov_stop (p := fun c => !inL L c) (m := l.drop j) (by simp [hp])
        have HZ := Lib.hid hst
        rw [hp] at cI
        have hstr := string_own hown
        have HB := Lib.hid hbw
        have e1 := HE.out
        have e2 := HAC.out
        rw [HZ.out.1] at e1
        rw [HZ.out.2, List.append_nil] at e2
        have HE1 := Lib.hid e1
        have HE2 := Lib.hid e2
        clear hp hne hst hg hown hbw e1 e2
        generalize nx (l.drop j) = RR at hN cI hw
        obtain ⟨c, n⟩ := RR
        simp only at hN cI hw
        go_wp2_with fail
        refine hN.mono ?_
        rintro e w1 ⟨rfl, rfl⟩
        go_wp2_with fail
        refine cI.mono ?_
        rintro e w1 ⟨rfl, rfl⟩
        go_wp2
        go_ret2
        exact ⟨ret_si HE2.out HE1.out, HB.out⟩
    · have h1 : ¬ ((j : Int) < (l.length : Int)) := by omega
      have hstr := string_own hown
      have HB := Lib.hid hbw
      have e1 := HE.out
      have e2 := HAC.out
      rw [List.drop_of_length_le (by omega), ov_nil] at e1
      rw [List.drop_of_length_le (by omega), lw_nil, List.append_nil] at e2
      have HE1 := Lib.hid e1
      have HE2 := Lib.hid e2
      clear hown hbw e1 e2
      go_wp2
      go_ret2
      exact ⟨ret_si HE2.out HE1.out, HB.out⟩
end Go.Proofs.YtndcmapifihgeaaGreatDoor.Tg

/- The reference's char, letter, Begins and value, walked. -/
namespace Go.Proofs.YtndcmapifihgeaaGreatDoor.Tg
open Go.RowKit Go.Lib
open Ch (at0 nx nx_width nx_range at0_lt at0_drop enc_len Sl Sl.below Cells ret_str good nx_good nxAt nxAt_in nxAt_out refNext_any ret_bool)
open Kl (blankN greatN refLower_any refLetter_any lowerZ letterZ)

variable {l : List UInt8} {a : Option Addr} {cap : Nat} {w w' : World}

set_option maxHeartbeats 1000000 in
set_option maxRecDepth 100000 in
theorem rchar_any (i : Nat) (w : World) (hs : Sl l a cap w) (hi : i ≤ l.length) (hlen : l.length ≤ 1000000) : Calls Tryz.prog 63 #[.slice a l.length cap, .int .i64 (i : Int)] w fun e w' => e = .returned (.int .i64 ((hd (l.drop i) : Nat) : Int)) ∧ w = w' := by
  have cN := refNext_any l a cap (i : Int) w hs (by omega)
  rw [nxAt_hd l i hi] at cN
  generalize hd (l.drop i) = C at cN ⊢
  generalize wd (l.drop i) = D at cN
  go_enter Tryz.func63, Tryz.ntmps63
  go_wp2_with fail
  refine cN.mono ?_
  rintro e w1 ⟨rfl, rfl⟩
  go_wp2
  go_ret
  exact ⟨rfl, rfl⟩

theorem letterZ_nat' (c : Nat) : letterZ (c : Int) = letN c := by
  unfold letterZ letN
  rw [Kl.smallZ_nat, Kl.greatZ_nat]
  rfl

set_option maxHeartbeats 1000000 in
set_option maxRecDepth 100000 in
theorem rletter_any (i : Nat) (w : World) (hs : Sl l a cap w) (hlen : l.length ≤ 1000000) : Calls Tryz.prog 46 #[.slice a l.length cap, .int .i64 (i : Int)] w fun e w' => e = .returned (.bool (letN (at0 l i))) ∧ w = w' := by
  by_cases h : i < l.length
  · obtain ⟨hcap, h2 | ⟨b, off, rfl, hc⟩⟩ := hs
    · subst h2; simp at h
    · have c1 := hc i h
      have h1 : (i : Int) < (l.length : Int) := by omega
      have cL := refLetter_any ((at0 l i : Nat) : Int) w
      rw [letterZ_nat'] at cL
      have hb := at0_lt l i
      generalize letN (at0 l i) = Z at cL ⊢
      generalize at0 l i = C at c1 cL hb
      go_enter Tryz.func46, Tryz.ntmps46
      go_wp2_with fail
      refine cL.mono ?_
      rintro e w1 ⟨rfl, rfl⟩
      go_wp2
      go_ret
      exact ⟨rfl, rfl⟩
  · have h1 : ¬ ((i : Int) < (l.length : Int)) := by omega
    rw [at0_out (by omega)]
    go_enter Tryz.func46, Tryz.ntmps46
    go_wp2
    go_ret
    exact ⟨rfl, rfl⟩

theorem bg_at' (l : List UInt8) (i : Nat) (h : i < l.length) : bgAt l (i : Int) = (if at0 l i = 60 then (if letN (at0 l (i + 1)) = true then 1 else if at0 l (i + 1) = 47 ∧ letN (at0 l (i + 2)) = true then 2 else 0) else 0) := by
  have hbg : bgAt l (i : Int) = bg (l.drop i) := if_pos (by omega)
  have d0 : at0 (l.drop i) 0 = at0 l i := by rw [at0_drop]; rfl
  have d1 : at0 (l.drop i) 1 = at0 l (i + 1) := at0_drop _ _ _
  have d2 : at0 (l.drop i) 2 = at0 l (i + 2) := at0_drop _ _ _
  rw [hbg]
  unfold bg
  rw [d0, d1, d2]

set_option maxHeartbeats 2000000 in
set_option maxRecDepth 100000 in
theorem rbegins_any (x : Int) (w : World) (hs : Sl l a cap w) (hlen : l.length ≤ 1000000) : Calls Tryz.prog 22 #[.slice a l.length cap, .int .i64 x] w fun e w' => e = .returned (.int .i64 ((bgAt l x : Nat) : Int)) ∧ w = w' := by
  by_cases h : 0 ≤ x ∧ x < (l.length : Int)
  · obtain ⟨i, rfl⟩ : ∃ i : Nat, x = i := ⟨x.toNat, by omega⟩
    have hbg := bg_at' l i (by omega)
    have hil : i < 1000000 := by omega
    have g0 : ¬ ((i : Int) < 0) := by omega
    have g1 : (i : Int) < (l.length : Int) := h.2
    have c1 : Calls Tryz.prog 46 #[.slice a l.length cap, .int .i64 ((i : Int) + 1)] w _ := rletter_any (i + 1) w hs hlen
    have c2 : Calls Tryz.prog 46 #[.slice a l.length cap, .int .i64 ((i : Int) + 2)] w _ := rletter_any (i + 2) w hs hlen
    obtain ⟨hcap, h2 | ⟨b, off, rfl, hc⟩⟩ := hs
    · subst h2; simp at h; omega
    · have e0 := hc i (by omega)
      by_cases t0 : at0 l i = 60
      · rw [if_pos t0] at hbg
        have u0 : (((at0 l i : Nat) : Int) != 60) = false := by simp [t0]
        cases t1 : letN (at0 l (i + 1)) with
        | true =>
          rw [t1] at c1 hbg
          rw [if_pos rfl] at hbg
          rw [hbg]
          generalize at0 l i = C at e0 u0
          clear hbg t0 t1 c2 h hc
          go_enter Tryz.func22, Tryz.ntmps22
          go_wp2_with fail
          refine c1.mono ?_
          rintro e w1 ⟨rfl, rfl⟩
          go_wp2
          go_ret
          exact ⟨rfl, rfl⟩
        | false =>
          rw [t1] at c1 hbg
          simp only [Bool.false_eq_true, if_false] at hbg
          by_cases h1 : i + 1 < l.length
          · have g2 : (i : Int) + 1 < (l.length : Int) := by omega
            have e1 : w.cell? ⟨b, off + (i + 1), none⟩ = some (.int .u8 ((at0 l (i + 1) : Nat) : Int)) := hc (i + 1) h1
            by_cases t2 : at0 l (i + 1) = 47
            · have u2 : (((at0 l (i + 1) : Nat) : Int) == 47) = true := by simp [t2]
              simp only [t2, true_and] at hbg
              cases t3 : letN (at0 l (i + 2)) with
              | true =>
                rw [t3] at c2 hbg
                rw [if_pos rfl] at hbg
                rw [hbg]
                generalize at0 l i = C at e0 u0
                generalize at0 l (i + 1) = C1 at e1 u2
                clear hbg t0 t1 t2 t3 h hc
                go_enter Tryz.func22, Tryz.ntmps22
                go_wp2_with fail
                refine c1.mono ?_
                rintro e w1 ⟨rfl, rfl⟩
                go_wp2_with fail
                refine c2.mono ?_
                rintro e w1 ⟨rfl, rfl⟩
                go_wp2
                go_ret
                exact ⟨rfl, rfl⟩
              | false =>
                rw [t3] at c2 hbg
                simp only [Bool.false_eq_true, if_false] at hbg
                rw [hbg]
                generalize at0 l i = C at e0 u0
                generalize at0 l (i + 1) = C1 at e1 u2
                clear hbg t0 t1 t2 t3 h hc
                go_enter Tryz.func22, Tryz.ntmps22
                go_wp2_with fail
                refine c1.mono ?_
                rintro e w1 ⟨rfl, rfl⟩
                go_wp2_with fail
                refine c2.mono ?_
                rintro e w1 ⟨rfl, rfl⟩
                go_wp2
                go_ret
                exact ⟨rfl, rfl⟩
            · have u2 : (((at0 l (i + 1) : Nat) : Int) == 47) = false := by simp; omega
              simp only [t2, false_and, if_false] at hbg
              rw [hbg]
              generalize at0 l i = C at e0 u0
              generalize at0 l (i + 1) = C1 at e1 u2
              clear hbg t0 t1 t2 h hc c2
              go_enter Tryz.func22, Tryz.ntmps22
              go_wp2_with fail
              refine c1.mono ?_
              rintro e w1 ⟨rfl, rfl⟩
              go_wp2
              go_ret
              exact ⟨rfl, rfl⟩
          · have g2 : ¬ ((i : Int) + 1 < (l.length : Int)) := by omega
            have hz : at0 l (i + 1) = 0 := at0_out (by omega)
            simp only [hz, show ¬ ((0 : Nat) = 47) by decide, false_and, if_false] at hbg
            rw [hbg]
            generalize at0 l i = C at e0 u0
            clear hbg t0 t1 hz h hc c2
            go_enter Tryz.func22, Tryz.ntmps22
            go_wp2_with fail
            refine c1.mono ?_
            rintro e w1 ⟨rfl, rfl⟩
            go_wp2
            go_ret
            exact ⟨rfl, rfl⟩
      · rw [if_neg t0] at hbg
        have u0 : (((at0 l i : Nat) : Int) != 60) = true := by simp; omega
        rw [hbg]
        generalize at0 l i = C at e0 u0
        clear hbg t0 h hc c1 c2
        go_enter Tryz.func22, Tryz.ntmps22
        go_wp2
        go_ret
        exact ⟨rfl, rfl⟩
  · have hb : bgAt l x = 0 := if_neg h
    rw [hb]
    clear hb
    by_cases h0 : x < 0
    · go_enter Tryz.func22, Tryz.ntmps22
      go_wp2
      go_ret
      exact ⟨rfl, rfl⟩
    · have h1 : ¬ (x < (l.length : Int)) := by omega
      go_enter Tryz.func22, Tryz.ntmps22
      go_wp2
      go_ret
      exact ⟨rfl, rfl⟩

theorem in_blank : inL [9, 10, 12, 32] = blankN := by
  funext c
  unfold inL blankN
  rw [Bool.eq_iff_iff]; simp; omega
theorem in_gap : inL [9, 10, 12, 32, 47] = pGap := by
  funext c
  unfold inL pGap blankN
  rw [Bool.eq_iff_iff]; simp; omega
theorem in_tag : (fun c => !inL [9, 10, 12, 32, 47, 62] c) = pTag := by
  funext c
  unfold inL pTag blankN
  rw [Bool.eq_iff_iff]; simp; omega
theorem in_att : (fun c => !inL [9, 10, 12, 32, 47, 62, 61] c) = pAtt := by
  funext c
  unfold inL pAtt blankN
  rw [Bool.eq_iff_iff]; simp; omega
theorem in_bare : (fun c => !inL [9, 10, 12, 32, 62] c) = pBare := by
  funext c
  unfold inL pBare blankN
  rw [Bool.eq_iff_iff]; simp; omega
theorem in_q (q : Nat) : (fun c => !inL [q] c) = pQ q := by
  funext c
  unfold inL pQ
  rw [Bool.eq_iff_iff]; simp; omega

theorem ret_sZ {x y : List UInt8} {m : Int} {n : Nat} (h : x = y) (h' : m = (n : Int)) : Ending.returned (.tuple #[.string ⟨x.toArray⟩, .int .i64 m]) = .returned (.tuple #[.string ⟨y.toArray⟩, .int .i64 (n : Int)]) := by rw [h, h']

/-- a value whose quote is not shut -/
def vcut (m : List UInt8) : Prop := (hd m = 34 ∨ hd m = 39) ∧ m.drop (1 + ov (pQ (hd m)) (m.drop 1)) = []
/-- what the reference's value answers, from the place behind the blanks -/
def RvPost (l : List UInt8) (j : Nat) (w : World) (e : Ending) (w' : World) : Prop :=
  Below w.heap.size w w' ∧ ((vcut (l.drop j) ∧ e = .returned (.tuple #[.string ⟨#[]⟩, .int .i64 (-1)])) ∨
    (¬ vcut (l.drop j) ∧ e = .returned (.tuple #[.string ⟨(vl (l.drop j)).1.toArray⟩, .int .i64 ((j + (vl (l.drop j)).2 : Nat) : Int)])))

theorem sl_nil (hs : Sl l a cap w) (hne : l ≠ []) : (a = none → l.length = 0 ∧ cap = 0) ∧ (a = none ∨ ∃ b off, a = some ⟨b, off, none⟩) := by
  obtain ⟨-, h | ⟨b, off, rfl, -⟩⟩ := hs
  · exact absurd h hne
  · exact ⟨fun h => (by cases h), Or.inr ⟨b, off, rfl⟩⟩

set_option maxHeartbeats 4000000 in
set_option maxRecDepth 100000 in
theorem rvalue_any (i : Nat) (w : World) (hs : Sl l a cap w) (hi : i ≤ l.length) (hne : l ≠ []) (hlen : l.length ≤ 1000000) :
    Calls Tryz.prog 40 #[.slice a l.length cap, .int .i64 (i : Int)] w (RvPost l (i + ov blankN (l.drop i)) w) := by
  have hle := drop_len_ov blankN l i hi
  have hbA : Below w.heap.size w (w.alloc (.cells #[.int .i64 9, .int .i64 10, .int .i64 12, .int .i64 32] 3)) := (Below.refl _ w).alloc (Nat.le_refl _) _
  have cO := over_any [9, 10, 12, 32] w.heap.size 4 i _ (hs.below hbA) (rw_new [9, 10, 12, 32] w #[.int .i64 9, .int .i64 10, .int .i64 12, .int .i64 32] rfl) (by simp) hi hlen
  rw [in_blank] at cO
  obtain ⟨j, hj⟩ : ∃ j, i + ov blankN (l.drop i) = j := ⟨_, rfl⟩
  rw [hj] at cO hle ⊢
  clear hj
  have hw1 : (w.alloc (.cells #[.int .i64 9, .int .i64 10, .int .i64 12, .int .i64 32] 3)).heap.size = w.heap.size + 1 := by simp
  obtain ⟨w1, hW1⟩ : ∃ w1, w.alloc (.cells #[.int .i64 9, .int .i64 10, .int .i64 12, .int .i64 32] 3) = w1 := ⟨_, rfl⟩
  have hbA' := hbA
  rw [hW1] at hbA' hw1 cO
  have cC := rchar_any j w1 (hs.below hbA') hle hlen
  have hnil := sl_nil hs hne
  by_cases hq : hd (l.drop j) = 34 ∨ hd (l.drop j) = 39
  · have hdn : l.drop j ≠ [] := hd_pos (by omega)
    have hjl : j + 1 ≤ l.length := by have := List.length_pos_iff.2 hdn; simp at this; omega
    obtain ⟨C, hC⟩ : ∃ C, hd (l.drop j) = C := ⟨_, rfl⟩
    have hbB : Below w1.heap.size w1 (w1.alloc (.cells #[.int .i64 (C : Int)] 3)) := (Below.refl _ w1).alloc (Nat.le_refl _) _
    have hbAB : Below w.heap.size w (w1.alloc (.cells #[.int .i64 (C : Int)] 3)) := At.below_trans hbA' hbB
    have cU := upTo_any [C] w1.heap.size 1 (j + 1) _ (hs.below hbAB) (rw_new [C] w1 #[.int .i64 (C : Int)] rfl) (by simp) hjl hlen
    rw [in_q] at cU
    have hle2 := drop_len_ov (pQ C) l (j + 1) hjl
    obtain ⟨n, hn⟩ : ∃ n, ov (pQ C) (l.drop (j + 1)) = n := ⟨_, rfl⟩
    rw [hn] at cU hle2
    obtain ⟨S, hS⟩ : ∃ S, lw (pQ C) (l.drop (j + 1)) = S := ⟨_, rfl⟩
    rw [hS] at cU
    rw [hC] at cC
    have hdd : ∀ k, (l.drop j).drop k = l.drop (j + k) := fun k => List.drop_drop
    have hvl : vl (l.drop j) = (txt true ((l.drop (j + 1)).take n), 1 + n + wd (l.drop (j + (1 + n)))) := by
      unfold vl
      rw [if_pos hq, hC, hdd, hdd, hn]
    have hcut : vcut (l.drop j) ↔ j + 1 + n = l.length := by
      unfold vcut
      rw [hC, hdd, hdd, hn]
      constructor
      · rintro ⟨-, h⟩
        have := congrArg List.length h
        simp at this
        omega
      · intro h
        exact ⟨by rw [hC] at hq; exact hq, List.drop_of_length_le (by omega)⟩
    have hwd : j + 1 + n < l.length → wd (l.drop (j + (1 + n))) = 1 := by
      intro hlt
      have he := ov_end (pQ C) _ (l.drop (j + 1)) (Nat.le_refl _)
      rw [hn, List.drop_drop, Nat.add_assoc] at he
      rcases he with k | k
      · have := congrArg List.length k
        simp at this
        omega
      · have hcc : (nx (l.drop (j + (1 + n)))).1 = C := by simpa [pQ] using k
        rw [hC] at hq
        have q := nx_is (c := C) (by omega) (by omega) hcc
        rw [wd_ne q.2.2, q.2.1]
    have HV := Lib.hid hvl
    have HC := Lib.hid hcut
    have HWD := Lib.hid hwd
    clear hwd
    have HBAB := Lib.hid hbAB
    rw [hC] at hq
    clear hvl hcut hdd hdn hC hn hS hbB hbAB hbA hw1
    by_cases hend : j + 1 + n = l.length
    · have g1 : ¬ (((j + 1 + n : Nat) : Int) < (l.length : Int)) := by omega
      have g1' : ¬ ((j : Int) + 1 + (n : Int) < (l.length : Int)) := by omega
      rcases hq with rfl | rfl
      all_goals
        go_enter Tryz.func40, Tryz.ntmps40
        go_wp2_with fail
        refine cO.mono ?_
        rintro e w2 ⟨rfl, rfl⟩
        go_wp2_with fail
        refine cC.mono ?_
        rintro e w2 ⟨rfl, rfl⟩
        go_wp2_with fail
        refine cU.mono ?_
        rintro e w3 ⟨rfl, hb3⟩
        go_wp2
        go_ret2
        exact ⟨At.below_trans HBAB.out hb3, Or.inl ⟨HC.out.2 hend, rfl⟩⟩
    · have g1 : ((j + 1 + n : Nat) : Int) < (l.length : Int) := by omega
      have g1' : (j : Int) + 1 + (n : Int) < (l.length : Int) := by omega
      rcases hq with rfl | rfl
      all_goals
        go_enter Tryz.func40, Tryz.ntmps40
        go_wp2_with fail
        refine cO.mono ?_
        rintro e w2 ⟨rfl, rfl⟩
        go_wp2_with fail
        refine cC.mono ?_
        rintro e w2 ⟨rfl, rfl⟩
        go_wp2_with fail
        refine cU.mono ?_
        rintro e w3 ⟨rfl, hb3⟩
        have hb3' := At.below_trans HBAB.out hb3
        have cX := refText_any l a cap (j + 1) n ((j : Int) + 1) ((j : Int) + 1 + (n : Int)) true w3 (hs.below hb3') hnil.1 hnil.2 (by omega) (by omega) (by omega) hlen
        have HB3 := Lib.hid hb3'
        clear hb3 hb3'
        go_wp2_with fail
        refine cX.mono ?_
        rintro e w4 ⟨rfl, hb4⟩
        have HB4 := Lib.hid (At.below_trans HB3.out hb4)
        clear hb4
        go_wp2
        go_ret2
        refine ⟨HB4.out, Or.inr ⟨fun k => hend (HC.out.1 k), ?_⟩⟩
        rw [HV.out, HWD.out (by omega)]
        exact ret_sZ rfl (by omega)
  · have t1 : (((hd (l.drop j) : Nat) : Int) == 34) = false := by simp; omega
    have t2 : (((hd (l.drop j) : Nat) : Int) == 39) = false := by simp; omega
    have hbB : Below w1.heap.size w1 (w1.alloc (.cells #[.int .i64 9, .int .i64 10, .int .i64 12, .int .i64 32, .int .i64 62] 3)) := (Below.refl _ w1).alloc (Nat.le_refl _) _
    have hbAB := At.below_trans hbA' hbB
    have cU := upTo_any [9, 10, 12, 32, 62] w1.heap.size 5 j _ (hs.below hbAB) (rw_new [9, 10, 12, 32, 62] w1 #[.int .i64 9, .int .i64 10, .int .i64 12, .int .i64 32, .int .i64 62] rfl) (by simp) hle hlen
    rw [in_bare] at cU
    have hle2 := drop_len_ov pBare l j hle
    have hvl : vl (l.drop j) = (txt true ((l.drop j).take (ov pBare (l.drop j))), ov pBare (l.drop j)) := if_neg hq
    have hcut : ¬ vcut (l.drop j) := fun k => hq k.1
    obtain ⟨n, hn⟩ : ∃ n, ov pBare (l.drop j) = n := ⟨_, rfl⟩
    rw [hn] at cU hle2 hvl
    generalize lw pBare (l.drop j) = S at cU
    generalize hd (l.drop j) = C at cC t1 t2
    have HV := Lib.hid hvl
    have HC := Lib.hid hcut
    have HBAB := Lib.hid hbAB
    clear hvl hcut hn hbB hbAB hbA hw1 hq
    go_enter Tryz.func40, Tryz.ntmps40
    go_wp2_with fail
    refine cO.mono ?_
    rintro e w2 ⟨rfl, rfl⟩
    go_wp2_with fail
    refine cC.mono ?_
    rintro e w2 ⟨rfl, rfl⟩
    go_wp2_with fail
    refine cU.mono ?_
    rintro e w3 ⟨rfl, hb3⟩
    have hb3' := At.below_trans HBAB.out hb3
    have cX := refText_any l a cap j n (j : Int) ((j : Int) + (n : Int)) true w3 (hs.below hb3') hnil.1 hnil.2 rfl rfl (by omega) hlen
    have HB3 := Lib.hid hb3'
    clear hb3 hb3'
    go_wp2_with fail
    refine cX.mono ?_
    rintro e w4 ⟨rfl, hb4⟩
    have HB4 := Lib.hid (At.below_trans HB3.out hb4)
    clear hb4
    go_wp2
    go_ret2
    refine ⟨HB4.out, Or.inr ⟨HC.out, ?_⟩⟩
    rw [HV.out]
    exact ret_sZ rfl (by omega)
end Go.Proofs.YtndcmapifihgeaaGreatDoor.Tg
