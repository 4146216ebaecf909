/- The document's Last, walked. -/
import Derived.Test.YtnnidajflnandaaRo
import Derived.Test.YtnnidajflnandaaRc
namespace Go.Proofs.Ytnnidajflnandaa
open Go.RowKit Go.Lib
open At (Str cellsA cellsA_len Sl)

/-- a node of the program's, as the document has it, where nothing stands in any -/
def mn (n : QN) : MN := ⟨n.nm, n.ats, -1, []⟩

theorem bw_idx : ∀ {R : List Int} {t : Nat} {x : Int}, R[t]? = some x → (bw R)[t]? = some (R.length - 1 - t, x) := by
  intro R
  induction R with
  | nil => intro t x h; simp at h
  | cons i r ih =>
    intro t x h
    cases t with
    | zero =>
      simp only [List.getElem?_cons_zero, Option.some.injEq] at h
      subst h
      simp [bw]
    | succ t =>
      simp only [List.getElem?_cons_succ] at h
      simp only [bw, List.getElem?_cons_succ, ih h, List.length_cons]
      have := (List.getElem?_eq_some_iff.1 h).1
      congr 2
      omega

theorem bb_pre (R : List Int) : ∃ s, bw R = bb R ++ s := by
  obtain ⟨s, hs⟩ := List.takeWhile_prefix (l := bw R) (fun p : Nat × Int => nm p.2)
  exact ⟨s, hs.symm⟩

/-- what stands behind the last mark -/
theorem snc_bb {E : List Int} {j : Nat} {x : Int} (hj : snc E ≤ j) (hx : E[j]? = some x) : (j, x) ∈ bb E.reverse := by
  have hl := (List.getElem?_eq_some_iff.1 hx).1
  have hr : E.reverse[E.length - 1 - j]? = some x := by
    rw [List.getElem?_reverse (by omega), show E.length - 1 - (E.length - 1 - j) = j by omega]
    exact hx
  have h1 := bw_idx hr
  rw [List.length_reverse, show E.length - 1 - (E.length - 1 - j) = j by omega] at h1
  obtain ⟨s, hs⟩ := bb_pre E.reverse
  unfold snc at hj
  have hb : (bb E.reverse).length ≤ E.length := by
    have := congrArg List.length hs
    rw [bw_len, List.length_reverse, List.length_append] at this
    omega
  rw [hs, List.getElem?_append_left (by omega)] at h1
  exact List.mem_of_getElem? h1
theorem bb_ge {E : List Int} {p : Nat × Int} (h : p ∈ bb E.reverse) : snc E ≤ p.1 := by
  obtain ⟨t, ht⟩ := List.mem_iff_getElem?.1 h
  obtain ⟨s, hs⟩ := bb_pre E.reverse
  have htl := (List.getElem?_eq_some_iff.1 ht).1
  have hp : (bb E.reverse).take t ++ [p] <+: bw E.reverse := by
    rw [hs]
    refine List.IsPrefix.trans ?_ (List.prefix_append _ _)
    have := List.take_prefix (t + 1) (bb E.reverse)
    rw [List.take_add_one, ht] at this
    exact this
  have := bw_place hp
  rw [List.length_take, Nat.min_eq_left (by omega), List.length_reverse] at this
  unfold snc
  omega

theorem find_bb {L : List QN} {s : List UInt8} {x : Int} {r : List Int} (hx : x ≠ -1) (hs : nmAt L x = s) : ∀ {H : List Int}, (∀ y ∈ H, y ≠ -1 ∧ nmAt L y ≠ s) → (bb (H ++ x :: r)).find? (fun p => nmAt L p.2 == s) = some (r.length, x) := by
  intro H
  induction H with
  | nil => intro _; rw [List.nil_append, bb_cons hx, List.find?_cons_of_pos (by simp [hs])]
  | cons y H ih =>
    intro h
    obtain ⟨h1, h2⟩ := h y (List.mem_cons_self ..)
    rw [List.cons_append, bb_cons h1, List.find?_cons_of_neg (by simpa using h2)]
    exact ih fun z hz => h z (List.mem_cons_of_mem _ hz)

theorem lst_at {L : List QN} {E : List Int} {s : List UInt8} {i : Nat} {x : Int} (hi : snc E ≤ i) (hx : E[i]? = some x) (hs : nmAt L x = s) (hn : ∀ j, i < j → ∀ y, E[j]? = some y → nmAt L y ≠ s) : lst L E s = some (i, x) := by
  have hm := (bb_mem (snc_bb hi hx)).2.1
  have e := cut_at hx
  have hr : E.reverse = (E.drop (i + 1)).reverse ++ x :: (E.take i).reverse := by
    conv => lhs; rw [e]
    simp
  unfold lst
  rw [hr, find_bb hm hs]
  · have := (List.getElem?_eq_some_iff.1 hx).1
    simp
    omega
  · intro y hy
    obtain ⟨j, hj⟩ := List.mem_iff_getElem?.1 (List.mem_reverse.1 hy)
    rw [List.getElem?_drop] at hj
    exact ⟨(bb_mem (snc_bb (by omega) hj)).2.1, hn _ (by omega) y hj⟩
theorem lst_no {L : List QN} {E : List Int} {s : List UInt8} (hn : ∀ j, snc E ≤ j → ∀ y, E[j]? = some y → nmAt L y ≠ s) : lst L E s = none := by
  unfold lst
  refine find_no fun p hp => ?_
  simpa using hn p.1 (bb_ge hp) p.2 (bb_mem hp).2.2

/-- what the document's Last answers -/
def rlast (L : List QN) (E : List Int) (s : List UInt8) : Int := match lst L E s with | some p => p.2 | none => -1

set_option maxRecDepth 100000 in
set_option maxHeartbeats 2000000 in
theorem rlast_any {b0 : Nat} {w : World} {v0 v1 v2 v3 : Value} {L : List QN} (h : RA b0 w v0 v1 v2 v3 (L.map mn)) (cp : Nat) (E : List Int) (a : Option Addr) (c : Nat) (hr : Ri E a c w) (hl : E.length ≤ 1000000) (hok : Ok L E) (s : Str) :
    Calls Try.prog 29 #[rv v0 v1 v2 v3 cp, .slice a E.length c, .string ⟨s.toArray⟩] w fun e w' => e = .returned (.int .i64 (rlast L E s)) ∧ Below w.heap.size w w' := by
  have hnms : Rw 0 9 1 v0 L.length (L.map fun n => (.string ⟨n.nm.toArray⟩ : Value)) w := by
    have := h.nms
    rw [List.length_map, List.map_map] at this
    exact this
  obtain ⟨a0, c0, rfl, -⟩ := hnms.slice
  clear h
  have hbx := bx_new w #[.slice a0 L.length c0, v1, v2, v3, .int .i64 (cp : Int)] 31
  have hA : Below w.heap.size w (w.alloc (.cells #[.slice a0 L.length c0, v1, v2, v3, .int .i64 (cp : Int)] 31)) := At.below_alloc _
  have hbxs : ∀ wr, Below (w.heap.size + 1) (w.alloc (.cells #[.slice a0 L.length c0, v1, v2, v3, .int .i64 (cp : Int)] 31)) wr → Bx w.heap.size #[.slice a0 L.length c0, v1, v2, v3, .int .i64 (cp : Int)] 31 wr := fun wr hb => hbx.below (by simpa using hb)
  go_enter Try.func29, Try.ntmps29
  go_wp2
  go_loopw [7] (fun v wr => ∃ k : Nat, v = .int .i64 ((k : Int) - 1) ∧ k ≤ E.length ∧ snc E ≤ k ∧ (∀ j, k ≤ j → ∀ x, E[j]? = some x → nmAt L x ≠ s) ∧ Below (w.heap.size + 1) (w.alloc (.cells #[.slice a0 L.length c0, v1, v2, v3, .int .i64 (cp : Int)] 31)) wr) (fun v _ => (RowKit.intOf v + 1).toNat)
  case atStart => exact ⟨E.length, by go_num, by omega, snc_le E, (fun j hj x hx => by rw [List.getElem?_eq_none hj] at hx; cases hx), Below.refl _ _⟩
  case round =>
    obtain ⟨k, rfl, hk, hsk, hn, hbw⟩ := hrel
    have hbx' := hbxs wr hbw
    have hB := hA.trans (hbw.mono (Nat.le_succ _))
    have cS := since_any E a c wr (hr.below hB) hl
    have hkk : ((k : Int) - 1 ≥ (snc E : Int)) ↔ snc E < k := by omega
    have hsz : w.heap.size + 1 ≤ wr.heap.size := by have := hbw.size; simpa using this
    have HN := Lib.hid hn
    have HBX := Lib.hid hbx'
    have HB := Lib.hid hB
    have HBW := Lib.hid hbw
    clear hn hbx' hB hbw
    obtain ⟨S, hS⟩ : ∃ S, snc E = S := ⟨_, rfl⟩
    rw [hS] at cS hkk hsk
    by_cases hlt : S < k
    · obtain ⟨i, rfl⟩ : ∃ i, k = i + 1 := ⟨k - 1, by omega⟩
      have hki : ((i + 1 : Nat) : Int) - 1 = (i : Int) := by omega
      rw [hki]
      have hge : (i : Int) ≥ (S : Int) := by omega
      have hil : i < E.length := by omega
      clear hkk hki
      go_wp2_with fail
      refine cS.mono ?_
      rintro e w1 ⟨rfl, hb1⟩
      have hE : E[i]? = some E[i] := List.getElem?_eq_getElem hil
      obtain ⟨x, hx⟩ : ∃ x, E[i] = x := ⟨_, rfl⟩
      rw [hx] at hE
      have hx1 : x ≠ -1 := (bb_mem (snc_bb (by rw [hS]; omega) hE)).2.1
      obtain ⟨m, n, rfl, hm0, hLm, hnm⟩ := hok.at (List.mem_of_getElem? hE) hx1
      have hB1 := HB.out.trans (hb1.mono HB.out.size)
      obtain ⟨b, rfl, hc⟩ := (hr.below hB1).at hil
      rw [hx] at hc
      obtain ⟨g, c0', hg, -, -, hcn⟩ := (hnms.below hB1).el (j := m) (x := .string ⟨n.nm.toArray⟩) (by rw [List.getElem?_map, hLm]; rfl)
      cases hg
      have hbx1 := (HBX.out.below hb1).cell 0
      have hml : m < L.length := (List.getElem?_eq_some_iff.1 hLm).1
      have HE := Lib.hid hE
      have HNM := Lib.hid hnm
      have HB1 := Lib.hid hB1
      have HBW1 := Lib.hid (HBW.out.trans (hb1.mono hsz))
      have hm1 : (m : Int) < (L.length : Int) := by omega
      obtain ⟨sn, hsn⟩ : ∃ sn, n.nm = sn := ⟨_, rfl⟩
      rw [hsn] at hcn HNM
      clear hE hx hx1 hnm hB1 hb1 hLm HBX HB HBW hsn
      by_cases hss : sn = s
      · subst hss
        have hss' : (sn == sn) = true := by simp
        have HR := Lib.hid (show rlast L E sn = (m : Int) from by unfold rlast; rw [lst_at (by rw [hS]; omega) HE.out HNM.out (fun j hj => HN.out j hj)])
        go_wp2
        go_quiet (fail)
        go_wp2
        go_ret
        exact ⟨by rw [HR.out]; rfl, At.below_drewN HB1.out _⟩
      · have hss' : (sn == s) = false := by simpa using hss
        go_wp2
        go_quiet (fail)
        go_wp2
        go_roundw
        case rel => exact ⟨i, by go_num, by omega, by rw [hS]; omega, fun j hj y hy => by
          rcases Nat.eq_or_lt_of_le hj with g | g
          · subst g
            rw [HE.out] at hy
            cases hy
            rw [HNM.out]
            exact hss
          · exact HN.out j g y hy, At.below_drewN HBW1.out _⟩
        case measure => simp [RowKit.intOf]
    · have hge : ¬ ((k : Int) - 1 ≥ (S : Int)) := by omega
      obtain rfl : k = S := by omega
      have HR := Lib.hid (show rlast L E s = -1 from by unfold rlast; rw [lst_no (by rw [hS]; exact HN.out)])
      clear hkk
      go_wp2_with fail
      refine cS.mono ?_
      rintro e w1 ⟨rfl, hb1⟩
      go_wp2
      go_ret
      exact ⟨by rw [HR.out]; rfl, HB.out.trans (hb1.mono HB.out.size)⟩
end Go.Proofs.Ytnnidajflnandaa
