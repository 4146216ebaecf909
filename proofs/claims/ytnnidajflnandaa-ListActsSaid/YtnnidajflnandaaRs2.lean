/- The document's Push, walked. -/
import Derived.Test.YtnnidajflnandaaRp
namespace Go.Proofs.Ytnnidajflnandaa
open Go.RowKit Go.Lib
open At (Str cellsA cellsA_len Sl)

set_option maxRecDepth 100000 in
set_option maxHeartbeats 4000000 in
theorem rpush_any {b0 : Nat} {w : World} {v0 v1 v2 v3 : Value} {L : List QN} (h : RA b0 w v0 v1 v2 v3 (L.map mn)) (cp : Nat) (E : List Int) (a : Option Addr) (c : Nat) (hr : Ri E a c w) (hl : E.length ≤ 100000) (hok : Ok L E) (hal : ∀ n ∈ L, n.ats.length ≤ 1000000) (m : Nat) (n : QN) (hm : L[m]? = some n) :
    Calls Try.prog 15 #[rv v0 v1 v2 v3 cp, .slice a E.length c, .int .i64 (m : Int)] w fun e w' => ∃ v, e = .returned v ∧ Rw w.heap.size 3 1 v (psh L n E m).length (ints (psh L n E m)) w' ∧ Below w.heap.size w w' := by
  have hnms : Rw 0 9 1 v0 L.length (L.map fun n => (.string ⟨n.nm.toArray⟩ : Value)) w := by
    have := h.nms
    rw [List.length_map, List.map_map] at this
    exact this
  obtain ⟨xa, hats, hxa⟩ := h.ats
  rw [List.length_map] at hats
  have hxa' : ∀ (j : Nat) (q : QN), L[j]? = some q → ∃ a c, xa[j]? = some (.slice a q.ats.length c) ∧ Sl q.ats a c w := fun j q hq => by
    obtain ⟨a, c, h1, h2, -⟩ := hxa j (mn q) (by rw [List.getElem?_map, hq]; rfl)
    exact ⟨a, c, h1, h2⟩
  obtain ⟨a0, c0, rfl, -⟩ := hnms.slice
  obtain ⟨a1, c1, rfl, -⟩ := hats.slice
  clear h hxa
  have hbx := bx_new w #[.slice a0 L.length c0, .slice a1 L.length c1, v2, v3, .int .i64 (cp : Int)] 31
  have hA : Below w.heap.size w (w.alloc (.cells #[.slice a0 L.length c0, .slice a1 L.length c1, v2, v3, .int .i64 (cp : Int)] 31)) := At.below_alloc _
  have hbxs : ∀ wr, Below (w.heap.size + 1) (w.alloc (.cells #[.slice a0 L.length c0, .slice a1 L.length c1, v2, v3, .int .i64 (cp : Int)] 31)) wr → Bx w.heap.size #[.slice a0 L.length c0, .slice a1 L.length c1, v2, v3, .int .i64 (cp : Int)] 31 wr := fun wr hb => hbx.below (by simpa using hb)
  have cS := since_any E a c _ (hr.below hA) (by omega)
  obtain ⟨S, hS⟩ : ∃ S, snc E = S := ⟨_, rfl⟩
  rw [hS] at cS
  have hSl := snc_le E
  rw [hS] at hSl
  have HA := Lib.hid hA
  have HBXS := Lib.hid hbxs
  have HXA := Lib.hid hxa'
  clear hA hbxs hbx hxa'
  go_enter Try.func15, Try.ntmps15
  go_wp2_with fail
  refine cS.mono ?_
  rintro e w1 ⟨rfl, hb1⟩
  have HB1 := Lib.hid (show Below (w.heap.size + 1) (w.alloc (.cells #[.slice a0 L.length c0, .slice a1 L.length c1, v2, v3, .int .i64 (cp : Int)] 31)) w1 from by simpa using hb1)
  clear cS hb1
  go_wp2
  go_loopw [7, 8, 9] (fun mv fv x wr => ∃ i : Nat, x = .int .i64 (i : Int) ∧ S ≤ i ∧ i ≤ E.length ∧ mv = .int .i64 ((U L n.nm n.ats E i).length : Int) ∧ fv = .int .i64 (fh (U L n.nm n.ats E i)) ∧ Below (w.heap.size + 1) (w.alloc (.cells #[.slice a0 L.length c0, .slice a1 L.length c1, v2, v3, .int .i64 (cp : Int)] 31)) wr) (fun _ _ x _ => E.length - (RowKit.intOf x).toNat)
  case atStart => exact ⟨S, rfl, by omega, by omega, by unfold U; rw [hS, Nat.sub_self]; rfl, by unfold U; rw [hS, Nat.sub_self]; rfl, HB1.out⟩
  case round =>
    obtain ⟨i, rfl, hSi, hi, rfl, rfl, hbw⟩ := hrel
    have HBW := Lib.hid hbw
    have hB := HA.out.trans (hbw.mono (Nat.le_succ _))
    by_cases hlt : i < E.length
    · have hlti : (i : Int) < (E.length : Int) := by omega
      have hE : E[i]? = some E[i] := List.getElem?_eq_getElem hlt
      obtain ⟨x, hx⟩ : ∃ x, E[i] = x := ⟨_, rfl⟩
      rw [hx] at hE
      have hx1 : x ≠ -1 := (bb_mem (snc_bb (by rw [hS]; omega) hE)).2.1
      obtain ⟨p, q, rfl, hp0, hLp, -⟩ := hok.at (List.mem_of_getElem? hE) hx1
      obtain ⟨b, rfl, hc⟩ := (hr.below hB).at hlt
      rw [hx] at hc
      obtain ⟨g, c0', hg, -, -, -, hcp, -⟩ := (hnms.below hB).el (j := p) (x := .string ⟨q.nm.toArray⟩) (by rw [List.getElem?_map, hLp]; rfl)
      cases hg
      obtain ⟨g', c0'', hg', -, -, -, hcm, -⟩ := (hnms.below hB).el (j := m) (x := .string ⟨n.nm.toArray⟩) (by rw [List.getElem?_map, hm]; rfl)
      cases hg'
      obtain ⟨pa, pc, hxp, hsp⟩ := HXA.out p q hLp
      obtain ⟨ma, mc, hxm, hsm⟩ := HXA.out m n hm
      obtain ⟨g1, c1', hg1, -, -, -, hap, -⟩ := (hats.below hB).el hxp
      cases hg1
      obtain ⟨g1', c1'', hg1', -, -, -, ham, -⟩ := (hats.below hB).el hxm
      cases hg1'
      have hbx := HBXS.out wr hbw
      have z0 := hbx.cell 0
      have z1 := hbx.cell 1
      have hpl : (p : Int) < (L.length : Int) := by have := (List.getElem?_eq_some_iff.1 hLp).1; omega
      have hml : (m : Int) < (L.length : Int) := by have := (List.getElem?_eq_some_iff.1 hm).1; omega
      have hUl : (U L n.nm n.ats E i).length ≤ 1000000 := by
        unfold U
        refine Nat.le_trans (List.length_filter_le _ _) ?_
        rw [List.length_range']
        omega
      have hh : hit L n.nm n.ats E i = (q.nm == n.nm && At.same q.ats n.ats) := by unfold hit; rw [hE]; exact alk_at hLp
      have hqa := hal q (List.mem_of_getElem? hLp)
      have hna := hal n (List.mem_of_getElem? hm)
      have hcB : ∀ W : World, W.heap = wr.heap → Calls Try.prog 30 #[.slice pa q.ats.length pc, .slice ma n.ats.length mc] W fun e w' => e = .returned (.bool (At.same q.ats n.ats)) ∧ W = w' := fun W hW => At.rsame_any q.ats pa pc n.ats ma mc W (sl_heap (hsp.below hB) hW) (sl_heap (hsm.below hB) hW) hqa hna
      obtain ⟨qn, hqn⟩ : ∃ qn, q.nm = qn := ⟨_, rfl⟩
      obtain ⟨nn, hnn⟩ : ∃ nn, n.nm = nn := ⟨_, rfl⟩
      have hUy := U_yes (L := L) (s := n.nm) (t := n.ats) (E := E) (i := i) (by omega)
      have hUn := U_no (L := L) (s := n.nm) (t := n.ats) (E := E) (i := i) (by omega)
      obtain ⟨Ui, hUi⟩ : ∃ Ui, U L n.nm n.ats E i = Ui := ⟨_, rfl⟩
      rw [hUi] at hUl hUy hUn ⊢
      have HUY := Lib.hid hUy
      have HUN := Lib.hid hUn
      rw [hqn, hnn] at hh
      rw [hqn] at hcp
      rw [hnn] at hcm
      have HH := Lib.hid hh
      clear hUy hUn hUi hh hqa hna hsp hsm hxp hxm hE hx hx1 hB hbw hLp hbx
      by_cases hnq : qn = nn
      · have hnq' : (qn == nn) = true := by simpa using hnq
        obtain ⟨sb, hsb⟩ : ∃ sb, At.same q.ats n.ats = sb := ⟨_, rfl⟩
        rw [hsb] at hcB HH
        cases sb with
        | true =>
          have HT := Lib.hid (show hit L n.nm n.ats E i = true from by rw [hnn, HH.out, hnq']; rfl)
          by_cases hf : fh Ui < 0
          · go_wp2
            go_quiet (first | (go_at_call 30; refine (hcB _ (by rfl)).mono ?_; rintro e w' ⟨rfl, rfl⟩; exact ⟨rfl, _, rfl⟩))
            go_wp2
            go_roundw
            case rel => exact ⟨i + 1, by go_num, by omega, by omega, by rw [HUY.out HT.out, List.length_append]; rfl, by rw [HUY.out HT.out, fh_snoc, if_pos (fh_lt.1 hf)], At.below_drewN HBW.out _⟩
            case measure => simp [RowKit.intOf]; omega
          · have hf' : ¬ Ui = [] := fun e => hf (fh_lt.2 e)
            go_wp2
            go_quiet (first | (go_at_call 30; refine (hcB _ (by rfl)).mono ?_; rintro e w' ⟨rfl, rfl⟩; exact ⟨rfl, _, rfl⟩))
            go_wp2
            go_roundw
            case rel => exact ⟨i + 1, by go_num, by omega, by omega, by rw [HUY.out HT.out, List.length_append]; rfl, by rw [HUY.out HT.out, fh_snoc, if_neg hf'], At.below_drewN HBW.out _⟩
            case measure => simp [RowKit.intOf]; omega
        | false =>
          have HT := Lib.hid (show hit L n.nm n.ats E i = false from by rw [hnn, HH.out, hnq']; rfl)
          go_wp2
          go_quiet (first | (go_at_call 30; refine (hcB _ (by rfl)).mono ?_; rintro e w' ⟨rfl, rfl⟩; exact ⟨rfl, _, rfl⟩))
          go_wp2
          go_roundw
          case rel => exact ⟨i + 1, by go_num, by omega, by omega, by rw [HUN.out HT.out], by rw [HUN.out HT.out], At.below_drewN HBW.out _⟩
          case measure => simp [RowKit.intOf]; omega
      · have hnq' : (qn == nn) = false := by simpa using hnq
        have HT := Lib.hid (show hit L n.nm n.ats E i = false from by rw [hnn, HH.out, hnq']; rfl)
        go_wp2
        go_quiet (fail)
        go_wp2
        go_roundw
        case rel => exact ⟨i + 1, by go_num, by omega, by omega, by rw [HUN.out HT.out], by rw [HUN.out HT.out], At.below_drewN HBW.out _⟩
        case measure => simp [RowKit.intOf]; omega
    · obtain rfl : i = E.length := by omega
      have hlti : ¬ ((E.length : Int) < (E.length : Int)) := by omega
      have hlen := U_len L n.nm n.ats E
      have hfst := U_fst L n.nm n.ats E
      have hpsh : psh L n E m = (if 3 ≤ (U L n.nm n.ats E E.length).length then E.eraseIdx (fh (U L n.nm n.ats E E.length)).toNat else E) ++ [(m : Int)] := by unfold psh cutA; rw [hlen, hfst]
      have hfa := fst_at (L := L) (s := n.nm) (t := n.ats) (E := E)
      rw [hlen, hfst] at hfa
      have hUl : (U L n.nm n.ats E E.length).length ≤ 1000000 := by
        unfold U
        refine Nat.le_trans (List.length_filter_le _ _) ?_
        rw [List.length_range']
        omega
      obtain ⟨Ui, hUi⟩ : ∃ Ui, U L n.nm n.ats E E.length = Ui := ⟨_, rfl⟩
      rw [hUi] at hpsh hfa hUl ⊢
      clear hUi hlen hfst hbw
      have HB := Lib.hid hB
      by_cases h3 : 3 ≤ Ui.length
      · obtain ⟨p, hp, hpl⟩ := hfa (by omega)
        rw [hp]
        have HP := Lib.hid (show psh L n E m = E.eraseIdx p ++ [(m : Int)] from by rw [hpsh, if_pos h3, hp, Int.toNat_natCast])
        have cW := without_any E a c wr (hr.below hB) (by omega) p hpl
        have h3' : (Ui.length : Int) ≥ 3 := by omega
        clear hB hfa hp h3 hpsh
        go_wp2_with fail
        refine cW.mono ?_
        rintro e w2 ⟨v2', rfl, hW2, hb2⟩
        obtain ⟨a2, c2, rfl, hr2⟩ := hW2.ri
        obtain ⟨u1, x1, u2, x2, r1, r2, hR, hb3⟩ := copy_push hr2 (by rw [List.length_eraseIdx]; split <;> omega) (m : Int)
        have R1 := Lib.hid r1
        have R2 := Lib.hid r2
        have hB2 := HB.out.trans (hb2.mono HB.out.size)
        have HR := Lib.hid (And.intro (hR.base hB2.size) (hB2.trans (hb3.mono hB2.size)))
        clear hW2 hr2 r1 r2 hR hb3 hb2 hB2 cW
        go_wp2_with (at_builtin; first
          | (refine Lib.wpList_append_run _ rfl (.tmp 58) (.tmp 59) 29 29 rfl _ _ rfl rfl _ x1 R1.out ?_)
          | (refine Lib.wpList_append_run _ rfl (.tmp 60) (.tmp 62) 29 29 rfl _ _ rfl rfl _ x2 R2.out ?_))
        go_ret
        exact ⟨_, rfl, by rw [HP.out]; exact HR.out⟩
      · have HP := Lib.hid (show psh L n E m = E ++ [(m : Int)] from by rw [hpsh, if_neg h3])
        have h3' : ¬ (Ui.length : Int) ≥ 3 := by omega
        obtain ⟨u1, x1, u2, x2, r1, r2, hR, hb3⟩ := copy_push (hr.below hB) (by omega) (m : Int)
        have R1 := Lib.hid r1
        have R2 := Lib.hid r2
        have HR := Lib.hid (And.intro (hR.base hB.size) (hB.trans (hb3.mono hB.size)))
        clear hB hfa h3 hpsh r1 r2 hR hb3
        go_wp2_with (at_builtin; first
          | (refine Lib.wpList_append_run _ rfl (.tmp 58) (.tmp 59) 29 29 rfl _ _ rfl rfl _ x1 R1.out ?_)
          | (refine Lib.wpList_append_run _ rfl (.tmp 60) (.tmp 62) 29 29 rfl _ _ rfl rfl _ x2 R2.out ?_))
        go_ret
        exact ⟨_, rfl, by rw [HP.out]; exact HR.out⟩
end Go.Proofs.Ytnnidajflnandaa
