/- The law ListMarks, walked. -/
import Derived.Test.YtnnidajflnandaaMk
namespace Go.Proofs.Ytnnidajflnandaa
open Go.RowKit Go.Lib
open At (Str cellsA cellsA_len Sl)

set_option maxRecDepth 100000 in
set_option maxHeartbeats 4000000 in
theorem marks_any (N : List Str) (a : Option Addr) (c : Nat) (M : List Str) (a2 : Option Addr) (c2 : Nat) (w : World) (hs : Ns N a c w) (hs2 : Ns M a2 c2 w) :
    Calls Try.prog 5 #[.slice a N.length c, .slice a2 M.length c2] w fun e w' => e = .returned (.bool true) ∧ Below w.heap.size w w' := by
  by_cases h20 : N.length ≤ 20 ∧ M.length ≤ 20
  · go_enter Try.func5, Try.ntmps5
    have hgt : ¬ ((N.length : Int) > 20) := by omega
    have hgt2 : ¬ ((M.length : Int) > 20) := by omega
    go_wp2_with fail
    refine (speaks_any w).mono ?_
    rintro e w1 ⟨rfl, hb1⟩
    go_wp2_with fail
    refine (new_any w1).mono ?_
    rintro e w2 ⟨R, vn, rfl, ha, hb2⟩
    have cN := st_new ha hb2.size
    go_wp2_with fail
    refine cN.mono ?_
    rintro e w3 ⟨rfl, h3, hb3⟩
    have hbw : Below w.heap.size w w3 := below_trans hb1 (below_trans hb2 hb3)
    obtain ⟨Ls, hLs⟩ : ∃ Ls, w2.heap.size = Ls := ⟨_, rfl⟩
    obtain ⟨B, hB⟩ : ∃ B, w1.heap.size = B := ⟨_, rfl⟩
    have hwB : w.heap.size ≤ B := by rw [← hB]; exact hb1.size
    rw [hLs, hB] at h3
    rw [hLs]
    obtain ⟨v1, u1, a3, c3, u2, r1, r2, hN3, hb4⟩ := cat_names w3 (hs.below hbw) (hs2.below hbw) (by omega) (by omega)
    have hl40 : (N ++ M).length ≤ 40 := by simp; omega
    obtain ⟨NM, hNM⟩ : ∃ NM, N ++ M = NM := ⟨_, rfl⟩
    rw [hNM] at r2 hN3 hl40
    clear hNM
    have R1 := Lib.hid r1
    have R2 := Lib.hid r2
    have H3 := Lib.hid (h3.below hb4)
    have HB3 := Lib.hid (hbw.trans (hb4.mono hbw.size))
    have HN3 := Lib.hid hN3
    clear cN ha hb1 hb2 hb3 hLs hB r1 r2 h3 hb4 hbw hN3
    go_wp2_with (at_builtin; first
      | (refine Lib.wpList_append_run _ rfl (.tmp 41) (.tmp 42) 26 26 rfl _ _ rfl rfl _ u1 R1.out ?_)
      | (refine Lib.wpList_append_run _ rfl (.tmp 43) (.tmp 44) 26 26 rfl _ _ rfl rfl _ u2 R2.out ?_))
    go_loopw [47] (fun x wr => ∃ k : Nat, x = .int .i64 (k : Int) ∧ k ≤ NM.length ∧ Below u2.heap.size u2 wr) (fun x _ => NM.length - (RowKit.intOf x).toNat)
    case atStart => exact ⟨0, rfl, by omega, Below.refl _ _⟩
    case round =>
      obtain ⟨k, rfl, hk, hbk⟩ := hrel
      by_cases hlt : k < NM.length
      · have hlt' : (k : Int) < (NM.length : Int) := by omega
        obtain ⟨b, off, rfl, hcell⟩ := (HN3.out.below hbk).at hlt
        obtain ⟨s, hs'⟩ : ∃ s, NM[k] = s := ⟨_, rfl⟩
        rw [hs'] at hcell
        have HB := Lib.hid (HB3.out.trans (hbk.mono HB3.out.size))
        have HK := Lib.hid hbk
        by_cases hse : (s == ([] : List UInt8)) = true
        · clear hbk
          go_wp2
          go_ret
          exact ⟨rfl, HB.out⟩
        · have hse' : (s == ([] : List UInt8)) = false := by simpa using hse
          clear hbk
          go_wp2
          go_roundw
          case rel => exact ⟨k + 1, by go_num, by omega, HK.out⟩
          case measure => simp [RowKit.intOf]; omega
      · obtain rfl : k = NM.length := by omega
        have hlt' : ¬ ((NM.length : Int) < (NM.length : Int)) := by omega
        have HB := Lib.hid (HB3.out.trans (hbk.mono HB3.out.size))
        have H4 := Lib.hid (H3.out.below hbk)
        clear hbk hk H3 HB3 HN3 R1 R2
        have hB4 := HB.out
        have h4 := H4.out
        clear HB H4
        go_wp2
        go_loopw [56] (fun x wr => ∃ k : Nat, x = .int .i64 (k : Int) ∧ k ≤ N.length ∧ Below w.heap.size w wr ∧ ∃ L vn v E, L.length = k + 1 ∧ E.length ≤ k ∧ ST B wr R Ls L E vn v) (fun x _ => N.length - (RowKit.intOf x).toNat)
        case atStart => exact ⟨0, rfl, by omega, hB4, rootL, vn, _, [], rfl, by simp, h4⟩
        case round =>
          obtain ⟨k, rfl, hk, hbk, L, vn', v, E, hL, hE, hst⟩ := hrel
          clear hB4 h4
          by_cases hlt : k < N.length
          · have hlt' : (k : Int) < (N.length : Int) := by omega
            obtain ⟨b, off, rfl, hcell⟩ := (hs.below hbk).at hlt
            obtain ⟨s, hs'⟩ : ∃ s, N[k] = s := ⟨_, rfl⟩
            rw [hs'] at hcell
            have HB := Lib.hid hbk
            have HE := Lib.hid hE
            have HL := Lib.hid hL
            have HS := Lib.hid hst
            clear hst hbk hE hL
            have cE := st_elem HS.out s [] none 0 ⟨Nat.le_refl _, fun _ => ⟨rfl, rfl⟩, Or.inl rfl⟩ (by have := HL.out; omega) (Nat.zero_le _)
            go_wp2_with fail
            refine cE.mono ?_
            rintro e w5 ⟨rfl, sa, vn5, h5, ev5⟩
            have HL5 := Lib.hid (show (L ++ [(⟨s, [], sa, -1, [], .slice none 0 0⟩ : QN)]).length = k + 1 + 1 from by have := HL.out; simp; omega)
            have hn : (L ++ [(⟨s, [], sa, -1, [], .slice none 0 0⟩ : QN)])[L.length]? = some ⟨s, [], sa, -1, [], .slice none 0 0⟩ := by simp
            have cP := st_push h5 (by have := HE.out; omega) L.length _ (by have := HL.out; omega) hn
            have HP := Lib.hid (show (psh (L ++ [(⟨s, [], sa, -1, [], .slice none 0 0⟩ : QN)]) ⟨s, [], sa, -1, [], .slice none 0 0⟩ E L.length).length ≤ k + 1 from by
              have := psh_len (L ++ [(⟨s, [], sa, -1, [], .slice none 0 0⟩ : QN)]) ⟨s, [], sa, -1, [], .slice none 0 0⟩ E L.length
              have := HE.out
              omega)
            have HB5 := Lib.hid (HB.out.trans (ev5.below.mono hwB))
            clear cE h5 ev5 hn
            go_wp2_with fail
            refine cP.mono ?_
            rintro e w6 ⟨rfl, v6, h6, ev6⟩
            have H6 := Lib.hid h6
            have HB6 := Lib.hid (HB5.out.trans (ev6.below.mono hwB))
            clear h6 ev6 cP
            go_wp2
            go_roundw
            case rel => exact ⟨k + 1, by go_num, by omega, HB6.out, _, vn5, v6, _, HL5.out, HP.out, H6.out⟩
            case measure => simp [RowKit.intOf]; omega
          · obtain rfl : k = N.length := by omega
            have hlt' : ¬ ((N.length : Int) < (N.length : Int)) := by omega
            clear hk
            have HB := Lib.hid hbk
            have HE := Lib.hid (show E.length ≤ 20 from by omega)
            have HL := Lib.hid hL
            have cA := all_any hst.lr (by omega)
            have hLl := hst.lr.lt
            have HS := Lib.hid hst
            clear hst hbk hE hL
            go_wp2_with fail
            refine cA.mono ?_
            rintro e w4 ⟨u, rfl, hu, hb4⟩
            have hap : Apart u v := by
              cases ho : u.ownBlock with
              | none => exact Or.inl ho
              | some g =>
                refine Or.inr fun e => ?_
                have h1 := (hu.lt g ho).1
                have h2 := (HS.out.lr.row.lt g (by rw [← e, ho])).2
                omega
            have S4 := Lib.hid (HS.out.below hb4)
            obtain ⟨a4, c4, rfl, -⟩ := hu.slice
            have cM := st_mark S4.out (by have := HE.out; omega)
            have U4 := Lib.hid hu
            have A4 := Lib.hid hap
            have B4 := Lib.hid (HB.out.trans (hb4.mono HB.out.size))
            clear hu hap hb4 cA HS HB S4
            go_wp2_with fail
            refine cM.mono ?_
            rintro e w5 ⟨rfl, v5, h5, ev5⟩
            obtain ⟨hu5, hap5⟩ := ev5.row U4.out (by decide) (by decide) (by decide) (by decide) (by decide) A4.out
            have hB5 := B4.out.trans (ev5.below.mono hwB)
            clear cM ev5 U4 A4 B4
            have HU5 := Lib.hid hu5
            have HA5 := Lib.hid hap5
            clear hu5 hap5
            go_wp2
            go_loopw [72] (fun x wr => ∃ k : Nat, x = .int .i64 (k : Int) ∧ k ≤ N.length ∧ Below w5.heap.size w5 wr) (fun x _ => N.length - (RowKit.intOf x).toNat)
            case atStart => exact ⟨0, rfl, by omega, Below.refl _ _⟩
            case round =>
              obtain ⟨k, rfl, hk, hbk⟩ := hrel
              by_cases hlt : k < N.length
              · have hlt' : (k : Int) < (N.length : Int) := by omega
                obtain ⟨b, off, rfl, hcell⟩ := ((hs.below hB5).below hbk).at hlt
                obtain ⟨s, hs'⟩ : ∃ s, N[k] = s := ⟨_, rfl⟩
                rw [hs'] at hcell
                have hst := h5.below hbk
                have cL := last_any hst.ar hst.lr hst.ok (by have := HE.out; simp; omega) s
                rw [lst_mark] at cL
                have HK := Lib.hid hbk
                have H5 := Lib.hid h5
                have HB5 := Lib.hid hB5
                clear hbk h5 hB5 hst
                go_wp2_with fail
                refine cL.mono ?_
                rintro e w6 ⟨rfl, hb6⟩
                have HK6 := Lib.hid (HK.out.trans (hb6.mono HK.out.size))
                clear hb6 cL
                unfold resL
                go_wp2
                go_roundw
                case rel => exact ⟨k + 1, by go_num, by omega, HK6.out⟩
                case measure => simp [RowKit.intOf]; omega
              · obtain rfl : k = N.length := by omega
                have hlt' : ¬ ((N.length : Int) < (N.length : Int)) := by omega
                have hst := h5.below hbk
                have hB := hB5.trans (hbk.mono hB5.size)
                have hu := HU5.out.below hbk
                clear hbk h5 hB5 HU5 hk
                have HW := HA5.out
                go_wp2
                go_loopw [86] (fun x wr => ∃ k : Nat, x = .int .i64 (k : Int) ∧ k ≤ M.length ∧ Below w.heap.size w wr ∧ ∃ L vn v G B', L.length = N.length + k + 1 ∧ G.length ≤ k ∧ (∀ x ∈ G, x ≠ -1) ∧ ST B wr R Ls L (E ++ -1 :: G) vn v ∧ Rw B' 3 1 (.slice a4 E.length c4) E.length (ints E) wr ∧ Apart (.slice a4 E.length c4) v) (fun x _ => M.length - (RowKit.intOf x).toNat)
                case atStart => exact ⟨0, rfl, by omega, hB, L, vn', v5, [], _, by have := HL.out; omega, by simp, (fun x hx => by cases hx), hst, hu, HW⟩
                case round =>
                  clear hst hu HW HL HA5 hB
                  obtain ⟨k, rfl, hk, hbk, L, vn', v, G, B', hL, hG, hGm, hst, hu, hap⟩ := hrel
                  by_cases hlt : k < M.length
                  · have hlt' : (k : Int) < (M.length : Int) := by omega
                    obtain ⟨b, off, rfl, hcell⟩ := (hs2.below hbk).at hlt
                    obtain ⟨s, hs'⟩ : ∃ s, M[k] = s := ⟨_, rfl⟩
                    rw [hs'] at hcell
                    obtain ⟨m, hm⟩ : ∃ m, L.length = m := ⟨_, rfl⟩
                    have hnm := hst.ok.notin m (by omega)
                    have cE := st_elem hst s [] none 0 ⟨Nat.le_refl _, fun _ => ⟨rfl, rfl⟩, Or.inl rfl⟩ (by omega) (Nat.zero_le _)
                    rw [hm] at cE
                    have HG := Lib.hid (And.intro hG hGm)
                    have HL := Lib.hid (And.intro hL hm)
                    have HU := Lib.hid hu
                    have HA := Lib.hid hap
                    have HB := Lib.hid hbk
                    have HNM := Lib.hid hnm
                    clear hst hu hap hbk hG hGm hL hm hnm
                    go_wp2_with fail
                    refine cE.mono ?_
                    rintro e w6 ⟨rfl, sa, vn6, h6, ev6⟩
                    have hn : (L ++ [(⟨s, [], sa, -1, [], .slice none 0 0⟩ : QN)])[m]? = some ⟨s, [], sa, -1, [], .slice none 0 0⟩ := by rw [← HL.out.2]; simp
                    obtain ⟨G', hp, hG', hGs⟩ := psh_behind (L := L ++ [(⟨s, [], sa, -1, [], .slice none 0 0⟩ : QN)]) (n := ⟨s, [], sa, -1, [], .slice none 0 0⟩) (W := E) HG.out.2 m
                    have cP := st_push h6 (by have := HE.out; have := HG.out.1; simp; omega) m _ (by have := HL.out; omega) hn
                    rw [hp] at cP
                    have L6 := Lib.hid (show (L ++ [(⟨s, [], sa, -1, [], .slice none 0 0⟩ : QN)]).length = N.length + (k + 1) + 1 from by have := HL.out; simp; omega)
                    have HN := Lib.hid hn
                    have HG' := Lib.hid (And.intro (show G'.length ≤ k from Nat.le_trans hG' HG.out.1) (fun x hx => HG.out.2 x (hGs x hx) : ∀ x ∈ G', x ≠ -1))
                    have HM' := Lib.hid (show (m : Int) ∉ E ++ -1 :: G' from fun h => HNM.out (by
                      rcases List.mem_append.1 h with h | h
                      · exact List.mem_append_left _ h
                      · rcases List.mem_cons.1 h with h | h
                        · exact List.mem_append_right _ (by rw [h]; exact List.mem_cons_self ..)
                        · exact List.mem_append_right _ (List.mem_cons_of_mem _ (hGs _ h))))
                    have V6 := Lib.hid ev6
                    obtain ⟨L2, hL2⟩ : ∃ L2, L ++ [(⟨s, [], sa, -1, [], .slice none 0 0⟩ : QN)] = L2 := ⟨_, rfl⟩
                    rw [hL2] at cP L6 HN
                    have hmp : m ≠ 0 := by have := HL.out; omega
                    clear cE h6 ev6 hn hG' hGs hp HNM HG HL hL2
                    go_wp2_with fail
                    refine cP.mono ?_
                    rintro e w7 ⟨rfl, v7, h7, ev7⟩
                    have hE7 : E ++ -1 :: (G' ++ [(m : Int)]) = (E ++ -1 :: G') ++ [(m : Int)] := by simp
                    have V7 := Lib.hid (V6.out.trans ev7)
                    have HlE := Lib.hid (show (E ++ -1 :: (G' ++ [(m : Int)])).length ≤ 1000000 from by have := HE.out; have := HG'.out.1; simp; omega)
                    have cL := last_any h7.ar h7.lr h7.ok HlE.out s
                    rw [hE7, lst_last HN.out rfl] at cL
                    have H7 := Lib.hid h7
                    have HE7 := Lib.hid hE7
                    clear h7 ev7 V6 cP hE7
                    go_wp2_with fail
                    refine cL.mono ?_
                    rintro e w8 ⟨rfl, hb8⟩
                    unfold resL
                    have H8 := Lib.hid (H7.out.below hb8)
                    have V8 := Lib.hid (V7.out.trans (H7.out.ev hb8))
                    have cF := find_any H8.out.lr HlE.out (m : Int)
                    rw [HE7.out, plc_mid (D := []) (by omega) HM'.out (by simp)] at cF
                    obtain ⟨P, hP⟩ : ∃ P, (E ++ -1 :: G').length = P := ⟨_, rfl⟩
                    rw [hP] at cF
                    have hP1 : P = E.length + 1 + G'.length := by rw [← hP]; simp; omega
                    have hPE : (E.length : Int) + 1 ≤ (P : Int) := by omega
                    have hPs : P ≤ 100 := by have := HE.out; have := HG'.out.1; omega
                    have hP0 : k = 0 → (P : Int) = (E.length : Int) + 1 := by have := HG'.out.1; omega
                    clear hb8 H7 V7 cL hP hP1
                    by_cases hk0 : k = 0
                    · have hPP := hP0 hk0
                      subst hk0
                      clear hP0
                      have hW : wrap64 ((E.length : Int) + 1) = (E.length : Int) + 1 := by
                        have := HE.out
                        unfold wrap64
                        omega
                      go_wp2_with fail
                      refine cF.mono ?_
                      rintro e w9 ⟨rfl, hb9⟩
                      have H9 := Lib.hid (H8.out.below hb9)
                      have V9 := Lib.hid (V8.out.trans (H8.out.ev hb9))
                      have cF2 := find_any H9.out.lr HlE.out (m : Int)
                      rw [HE7.out, plc_mid (D := []) (by omega) HM'.out (by simp)] at cF2
                      rw [show ((E ++ -1 :: G').length : Int) = (P : Int) from by rw [hPP]; have := HG'.out.1; simp; omega] at cF2
                      clear hb9 H8 V8 cF
                      go_wp2_with fail
                      refine cF2.mono ?_
                      rintro e w10 ⟨rfl, hb10⟩
                      have H10 := Lib.hid (H9.out.below hb10)
                      have V10 := Lib.hid (V9.out.trans (H9.out.ev hb10))
                      clear hb10 H9 V9 cF2
                      go_wp2
                      go_roundw
                      case rel =>
                        obtain ⟨hu9, hap9⟩ := V10.out.row HU.out (by decide) (by decide) (by decide) (by decide) (by decide) HA.out
                        exact ⟨0 + 1, by go_num, by omega, HB.out.trans (V10.out.below.mono hwB), _, vn6, v7, G' ++ [(m : Int)], B', L6.out, by have := HG'.out.1; rw [List.length_append, List.length_singleton]; omega, fun x hx => by
                          rcases List.mem_append.1 hx with h | h
                          · exact HG'.out.2 x h
                          · simp only [List.mem_singleton] at h
                            omega, H10.out, hu9, hap9⟩
                      case measure => simp [RowKit.intOf]; omega
                    · have hk0' : ((k : Int) == 0) = false := by simp; omega
                      have hPn : ¬ ((P : Int) < (E.length : Int) + 1) := by omega
                      clear hP0 hPE hPs
                      have hW : wrap64 ((E.length : Int) + 1) = (E.length : Int) + 1 := by
                        have := HE.out
                        unfold wrap64
                        omega
                      go_wp2_with fail
                      refine cF.mono ?_
                      rintro e w9 ⟨rfl, hb9⟩
                      have H9 := Lib.hid (H8.out.below hb9)
                      have V9 := Lib.hid (V8.out.trans (H8.out.ev hb9))
                      clear hb9 H8 V8 cF
                      go_wp2
                      go_roundw
                      case rel =>
                        obtain ⟨hu9, hap9⟩ := V9.out.row HU.out (by decide) (by decide) (by decide) (by decide) (by decide) HA.out
                        exact ⟨k + 1, by go_num, by omega, HB.out.trans (V9.out.below.mono hwB), _, vn6, v7, G' ++ [(m : Int)], B', L6.out, by have := HG'.out.1; rw [List.length_append, List.length_singleton]; omega, fun x hx => by
                          rcases List.mem_append.1 hx with h | h
                          · exact HG'.out.2 x h
                          · simp only [List.mem_singleton] at h
                            omega, H9.out, hu9, hap9⟩
                      case measure => simp [RowKit.intOf]; omega
                  · obtain rfl : k = M.length := by omega
                    have hlt' : ¬ ((M.length : Int) < (M.length : Int)) := by omega
                    have cC := st_clear hst (by have := HE.out; simp; omega)
                    rw [clr_behind hGm] at cC
                    have HU := Lib.hid hu
                    have HA := Lib.hid hap
                    have HB := Lib.hid hbk
                    clear hst hu hap hbk hL hG hGm hk
                    go_wp2_with fail
                    refine cC.mono ?_
                    rintro e w6 ⟨rfl, v6, h6, ev6⟩
                    have V6 := Lib.hid ev6
                    have H6 := Lib.hid h6
                    have cA2 := all_any h6.lr (by have := HE.out; omega)
                    clear h6 ev6 cC
                    go_wp2_with fail
                    refine cA2.mono ?_
                    rintro e w7 ⟨u7, rfl, hu7, hb7⟩
                    have V7 := Lib.hid (V6.out.trans (H6.out.ev hb7))
                    have hu4 := (V7.out.row HU.out (by decide) (by decide) (by decide) (by decide) (by decide) HA.out).1
                    obtain ⟨a7, c7, rfl, hr7⟩ := hu7.ri
                    obtain ⟨a4', c4', e4, hr4⟩ := hu4.ri
                    cases e4
                    have cS := same_ints E E a7 _ c7 _ _ hr7 hr4 (by have := HE.out; omega) (by have := HE.out; omega)
                    have H7 := Lib.hid (HB.out.trans (V7.out.below.mono hwB))
                    clear V7 V6 H6 cA2 hu7 hu4 hr7 hr4 hb7 HU HA HB
                    go_wp2_with fail
                    refine cS.mono ?_
                    rintro e w8 ⟨rfl, hb8⟩
                    go_wp2
                    go_ret
                    exact ⟨by simp, H7.out.trans (hb8.mono H7.out.size)⟩
  · by_cases hN : N.length ≤ 20
    · have hle : ¬ ((N.length : Int) > 20) := by omega
      have hgt : ((M.length : Int) > 20) := by omega
      clear h20
      go_enter Try.func5, Try.ntmps5
      go_wp2_with fail
      refine (speaks_any w).mono ?_
      rintro e w1 ⟨rfl, hb1⟩
      go_wp2_with fail
      refine (speaks_any w1).mono ?_
      rintro e w2 ⟨rfl, hb2⟩
      go_wp2
      go_ret
      exact ⟨rfl, below_trans hb1 hb2⟩
    · have hgt : ((N.length : Int) > 20) := by omega
      clear h20
      go_enter Try.func5, Try.ntmps5
      go_wp2_with fail
      refine (speaks_any w).mono ?_
      rintro e w1 ⟨rfl, hb1⟩
      go_wp2_with fail
      refine (speaks_any w1).mono ?_
      rintro e w2 ⟨rfl, hb2⟩
      go_wp2
      go_ret
      exact ⟨rfl, below_trans hb1 hb2⟩
end Go.Proofs.Ytnnidajflnandaa
