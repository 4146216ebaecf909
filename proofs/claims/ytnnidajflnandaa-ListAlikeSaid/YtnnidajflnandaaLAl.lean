/- The law ListAlike, walked. -/
import Derived.Test.YtnnidajflnandaaLj
import Derived.Test.YtnnidajflnandaaAtRSame
namespace Go.Proofs.Ytnnidajflnandaa
open Go.RowKit Go.Lib
open At (Str cellsA cellsA_len Sl)

theorem sm_sl {A : List At.At} {a : Option Addr} {c : Nat} {w : World} (h : Sl A a c w) (j : Nat) : ∃ a' c', (if j % 2 = 1 then Value.slice none 0 0 else .slice a A.length c) = .slice a' (sm A j).length c' ∧ Sl (sm A j) a' c' w := by
  unfold sm
  split
  · exact ⟨none, 0, rfl, Nat.le_refl _, fun _ => ⟨rfl, rfl⟩, Or.inl rfl⟩
  · exact ⟨a, c, rfl, h⟩

theorem push_own {B : Nat} {v : Value} {E : List Int} {w : World} (h : Rw B 3 1 v E.length (ints E) w) (x : Int) (hl : E.length + 1 ≤ 8000000) (hB : B ≤ w.heap.size) :
    ∃ v' w2, (Builtin.append_ #[29, 29] 29 #[v, .slice (some ⟨w.heap.size, 0, none⟩) 1 1]).run Try.prog (w.alloc (.cells #[.int .i64 x] 3)) = .ok v' w2 ∧ Rw B 3 1 v' (E ++ [x]).length (ints (E ++ [x])) w2 ∧ Below B w w2 := by
  obtain ⟨v', w2, hr, h1, hg, -⟩ := push_int h x hl hB
  rw [← ints_append] at h1
  exact ⟨v', w2, hr, by simpa using h1, ((At.below_alloc _).mono hB).grown hg (by simp; omega) (fun q hq => (h.lt q hq).1)⟩

theorem kf_at (N : List Str) (A : List At.At) (i j : Nat) : kf N A ((i + 1 : Nat) : Int) = kf N A ((j + 1 : Nat) : Int) ↔ N.getD i [] = N.getD j [] ∧ (A = [] ∨ i % 2 = j % 2) := by
  unfold kf
  simp only [Int.toNat_natCast, Nat.add_sub_cancel, Prod.mk.injEq]
  by_cases hA : A = []
  · simp [hA]
  · simp [hA]

theorem cu_step {α : Type} [DecidableEq α] (key : Int → α) (a : α) {lo kk : Nat} (h : lo ≤ kk) : cu key a lo (kk + 1 - lo) = cu key a lo (kk - lo) + (if key ((kk + 1 : Nat) : Int) = a then 1 else 0) := by
  rw [show kk + 1 - lo = (kk - lo) + 1 by omega]
  simp only [cu]
  rw [show lo + (kk - lo) + 1 = kk + 1 by omega]

set_option maxRecDepth 100000 in
set_option maxHeartbeats 4000000 in
theorem alikes_any (N : List Str) (a : Option Addr) (c : Nat) (A : List At.At) (a2 : Option Addr) (c2 : Nat) (w : World) (hs : Ns N a c w) (hs2 : Sl A a2 c2 w) :
    Calls Try.prog 4 #[.slice a N.length c, .slice a2 A.length c2] w fun e w' => e = .returned (.bool true) ∧ Below w.heap.size w w' := by
  by_cases h20 : N.length ≤ 40 ∧ A.length ≤ 10
  · go_enter Try.func4, Try.ntmps4
    have hgt : ¬ ((N.length : Int) > 40) := by omega
    have hgt2 : ¬ ((A.length : Int) > 10) := by omega
    go_wp2_with fail
    refine (speaks_any w).mono ?_
    rintro e w1 ⟨rfl, hb1⟩
    go_wp2_with fail
    refine (new_any w1).mono ?_
    rintro e w2 ⟨R, vn, rfl, ha, hb2⟩
    have cN := st_new ha hb2.size
    go_wp2_with fail
    refine cN.mono ?_
    rintro e w3 ⟨rfl, h3, hb3⟩
    have hbw : Below w.heap.size w w3 := below_trans hb1 (below_trans hb2 hb3)
    obtain ⟨Ls, hLs⟩ : ∃ Ls, w2.heap.size = Ls := ⟨_, rfl⟩
    obtain ⟨B, hB⟩ : ∃ B, w1.heap.size = B := ⟨_, rfl⟩
    have hwB : w.heap.size ≤ B := by rw [← hB]; exact hb1.size
    rw [hLs, hB] at h3
    rw [hLs]
    clear cN ha hb1 hb2 hb3 hLs hB
    go_wp2
    go_loopw [37] (fun x wr => ∃ k : Nat, x = .int .i64 (k : Int) ∧ k ≤ N.length ∧ Below w.heap.size w wr ∧ ∃ L vn v E, Em N A L k ∧ E.length ≤ k ∧ (At.same A A = true → E.reverse = keepF (kf N A) (fun _ => 0) (ids k)) ∧ ST B wr R Ls L E vn v) (fun x _ => N.length - (RowKit.intOf x).toNat)
    case atStart => exact ⟨0, rfl, by omega, hbw, rootL, vn, _, [], ⟨rfl, fun j hj => by omega⟩, by simp, fun _ => rfl, h3⟩
    case round =>
      obtain ⟨k, rfl, hk, hbk, L, vn', v, E, hL, hE, hEk, hst⟩ := hrel
      clear h3 hbw
      by_cases hlt : k < N.length
      · have hlt' : (k : Int) < (N.length : Int) := by omega
        obtain ⟨b, off, rfl, hcell⟩ := (hs.below hbk).at hlt
        have hND : N.getD k [] = N[k] := by rw [List.getD_eq_getElem?_getD, List.getElem?_eq_getElem hlt]; rfl
        obtain ⟨s, hs'⟩ : ∃ s, N[k] = s := ⟨_, rfl⟩
        rw [hs'] at hcell hND
        by_cases hse : (s == ([] : List UInt8)) = true
        · have HB := Lib.hid hbk
          clear hst hbk hE hEk hL
          go_wp2
          go_ret
          exact ⟨rfl, HB.out⟩
        · have hse' : (s == ([] : List UInt8)) = false := by simpa using hse
          have HB := Lib.hid hbk
          have HE := Lib.hid (And.intro hE hEk)
          have HL := Lib.hid hL
          have HS := Lib.hid hst
          have HND := Lib.hid hND
          by_cases h2 : k % 2 = 1
          · have HX := Lib.hid (show sm A k = [] from by unfold sm; rw [if_pos h2])
            have cO := At.of_any [] none 0 wr (⟨Nat.le_refl _, fun _ => ⟨rfl, rfl⟩, Or.inl rfl⟩) (by simp)
            have hb2 : ((k : Int) % 2 == 1) = true := by simp; omega
            clear hst hbk hE hEk hL hND h2
            go_wp2_with fail
            refine cO.mono ?_
            rintro e w5 ⟨v5, rfl, ho5, hb5⟩
            obtain ⟨a5, c5, rfl, hs5⟩ := (Rw.of_own ho5).sl
            have cE := st_elem (HS.out.below hb5) s [] a5 c5 hs5 (by have := HL.out.1; omega) (by simp)
            rw [HL.out.1] at cE
            have HB5 := Lib.hid (HB.out.trans (hb5.mono HB.out.size))
            clear ho5 hb5 hs5 cO
            go_wp2_with fail
            refine cE.mono ?_
            rintro e w6 ⟨rfl, sa, vn6, h6, ev6⟩
            obtain ⟨n, hn⟩ : ∃ n : QN, (⟨s, [], sa, -1, [], .slice none 0 0⟩ : QN) = n := ⟨_, rfl⟩
            have hn1 : n.nm = N.getD k [] := by rw [← hn, HND.out]
            have hn2 : n.ats = sm A k := by rw [← hn, HX.out]
            rw [hn] at h6
            have hL6 := HL.out.more n hn1 hn2
            have hE6 : (psh (L ++ [n]) n E (k + 1)).length ≤ k + 1 := by
              have := psh_len (L ++ [n]) n E (k + 1)
              have := HE.out.1
              omega
            have hK6 : At.same A A = true → (psh (L ++ [n]) n E (k + 1)).reverse = keepF (kf N A) (fun _ => 0) (ids (k + 1)) := fun hA => psh_keep hL6 hA (HE.out.2 hA) n hn1 hn2
            have cP := st_push h6 (by have := HE.out.1; omega) (k + 1) n (by omega) (by rw [List.getElem?_append_right (by have := HL.out.1; omega), HL.out.1, Nat.sub_self]; rfl)
            have H6 := Lib.hid (And.intro hL6 (And.intro hE6 hK6))
            have HB6 := Lib.hid (HB5.out.trans (ev6.below.mono hwB))
            clear cE h6 ev6 hL6 hE6 hK6 hn1 hn2 hn HL HE HS HB HX HND
            go_wp2_with fail
            refine cP.mono ?_
            rintro e w7 ⟨rfl, v7, h7, ev7⟩
            have H7 := Lib.hid h7
            have HB7 := Lib.hid (HB6.out.trans (ev7.below.mono hwB))
            clear h7 ev7 cP
            go_wp2
            go_roundw
            case rel => exact ⟨k + 1, by go_num, by omega, HB7.out, _, vn6, v7, _, H6.out.1, H6.out.2.1, H6.out.2.2, H7.out⟩
            case measure => simp [RowKit.intOf]; omega
          · have HX := Lib.hid (show sm A k = A from by unfold sm; rw [if_neg h2])
            have cO := At.of_any A a2 c2 wr (hs2.below hbk) (by omega)
            have hb2 : ((k : Int) % 2 == 1) = false := by simp; omega
            clear hst hbk hE hEk hL hND h2
            go_wp2_with fail
            refine cO.mono ?_
            rintro e w5 ⟨v5, rfl, ho5, hb5⟩
            obtain ⟨a5, c5, rfl, hs5⟩ := (Rw.of_own ho5).sl
            have cE := st_elem (HS.out.below hb5) s A a5 c5 hs5 (by have := HL.out.1; omega) (by omega)
            rw [HL.out.1] at cE
            have HB5 := Lib.hid (HB.out.trans (hb5.mono HB.out.size))
            clear ho5 hb5 hs5 cO
            go_wp2_with fail
            refine cE.mono ?_
            rintro e w6 ⟨rfl, sa, vn6, h6, ev6⟩
            obtain ⟨n, hn⟩ : ∃ n : QN, (⟨s, A, sa, -1, [], .slice none 0 0⟩ : QN) = n := ⟨_, rfl⟩
            have hn1 : n.nm = N.getD k [] := by rw [← hn, HND.out]
            have hn2 : n.ats = sm A k := by rw [← hn, HX.out]
            rw [hn] at h6
            have hL6 := HL.out.more n hn1 hn2
            have hE6 : (psh (L ++ [n]) n E (k + 1)).length ≤ k + 1 := by
              have := psh_len (L ++ [n]) n E (k + 1)
              have := HE.out.1
              omega
            have hK6 : At.same A A = true → (psh (L ++ [n]) n E (k + 1)).reverse = keepF (kf N A) (fun _ => 0) (ids (k + 1)) := fun hA => psh_keep hL6 hA (HE.out.2 hA) n hn1 hn2
            have cP := st_push h6 (by have := HE.out.1; omega) (k + 1) n (by omega) (by rw [List.getElem?_append_right (by have := HL.out.1; omega), HL.out.1, Nat.sub_self]; rfl)
            have H6 := Lib.hid (And.intro hL6 (And.intro hE6 hK6))
            have HB6 := Lib.hid (HB5.out.trans (ev6.below.mono hwB))
            clear cE h6 ev6 hL6 hE6 hK6 hn1 hn2 hn HL HE HS HB HX HND
            go_wp2_with fail
            refine cP.mono ?_
            rintro e w7 ⟨rfl, v7, h7, ev7⟩
            have H7 := Lib.hid h7
            have HB7 := Lib.hid (HB6.out.trans (ev7.below.mono hwB))
            clear h7 ev7 cP
            go_wp2
            go_roundw
            case rel => exact ⟨k + 1, by go_num, by omega, HB7.out, _, vn6, v7, _, H6.out.1, H6.out.2.1, H6.out.2.2, H7.out⟩
            case measure => simp [RowKit.intOf]; omega
      · obtain rfl : k = N.length := by omega
        have hlt' : ¬ ((N.length : Int) < (N.length : Int)) := by omega
        have HE := Lib.hid (And.intro hE hEk)
        have HB := Lib.hid hbk
        have HS := Lib.hid hst
        obtain ⟨w0, hw0⟩ : ∃ w0, wr = w0 := ⟨_, rfl⟩
        rw [hw0] at HB HS
        have hs0 := Lib.hid (show Ns N a c w0 from by rw [← hw0]; exact hs.below hbk)
        clear hE hEk hbk hst hL hk
        have hB0 : B ≤ w0.heap.size := HS.out.hB
        clear hB0
        go_wp2
        go_loopw [10, 58] (fun o x wr => ∃ i : Nat, x = .int .i64 (i : Int) ∧ i ≤ N.length ∧ Below w0.heap.size w0 wr ∧ ∃ W : List Int, Rw w0.heap.size 3 1 o W.length (ints W) wr ∧ W.length ≤ i ∧ W.reverse = D (kf N A) N.length i) (fun _ x _ => N.length - (RowKit.intOf x).toNat)
        case atStart => exact ⟨0, rfl, by omega, Below.refl _ _, [], Rw.nil _ _ _ _, by simp, rfl⟩
        case round =>
          obtain ⟨i, rfl, hi, hbi, W, hW, hWl, hWD⟩ := hrel
          by_cases hlt : i < N.length
          · have hlti : (i : Int) < (N.length : Int) := by omega
            obtain ⟨b, off, rfl, hcell⟩ := (hs0.out.below hbi).at hlt
            have hND : N.getD i [] = N[i] := by rw [List.getD_eq_getElem?_getD, List.getElem?_eq_getElem hlt]; rfl
            obtain ⟨s, hs'⟩ : ∃ s, N[i] = s := ⟨_, rfl⟩
            rw [hs'] at hcell hND
            obtain ⟨wo, hwo⟩ : ∃ wo, wo = wr := ⟨_, rfl⟩
            rw [← hwo] at hbi hW hcell
            have HBi := Lib.hid hbi
            have HW := Lib.hid (And.intro hW (And.intro hWl hWD))
            have HND := Lib.hid hND
            clear hbi hW hWl hWD hND hs'
            rw [← hwo]
            clear hwo
            go_wp2
            go_loopw [13, 14] (fun bh x wr => ∃ kk c0 : Nat, x = .int .i64 (kk : Int) ∧ i + 1 ≤ kk ∧ kk ≤ N.length ∧ cu (kf N A) (kf N A ((i + 1 : Nat) : Int)) (i + 1) (kk - (i + 1)) = c0 ∧ bh = .int .i64 (c0 : Int) ∧ Below wo.heap.size wo wr) (fun _ x _ => N.length - (RowKit.intOf x).toNat)
            case atStart => exact ⟨i + 1, 0, by go_num, by omega, by omega, by rw [Nat.sub_self]; rfl, rfl, Below.refl _ _⟩
            case round =>
              obtain ⟨kk, c0, rfl, hik, hkn, hc, rfl, hbk⟩ := hrel
              have hc0 : c0 ≤ 100 := by
                have := cu_le (kf N A) (kf N A ((i + 1 : Nat) : Int)) (i + 1) (kk - (i + 1))
                omega
              by_cases hltk : kk < N.length
              · have hltk' : (kk : Int) < (N.length : Int) := by omega
                obtain ⟨b', off', hbo, hcell2⟩ := ((hs0.out.below HBi.out).below hbk).at hltk
                cases hbo
                have hND2 : N.getD kk [] = N[kk] := by rw [List.getD_eq_getElem?_getD, List.getElem?_eq_getElem hltk]; rfl
                obtain ⟨s2, hs2'⟩ : ∃ s2, N[kk] = s2 := ⟨_, rfl⟩
                rw [hs2'] at hcell2 hND2
                have hkf := kf_at N A kk i
                rw [hND2, HND.out] at hkf
                have HC := Lib.hid hc
                have HBk := Lib.hid hbk
                clear hc hbk hND2 hs2' hcell
                by_cases hss : s2 = s
                · have hss' : (s2 == s) = true := by simpa using hss
                  by_cases h2 : kk % 2 = i % 2
                  · have hkey := Lib.hid (hkf.2 ⟨hss, Or.inr h2⟩)
                    have h2' : ((kk : Int) % 2 == (i : Int) % 2) = true := by simp; omega
                    clear hkf hss h2
                    go_wp2
                    go_roundw
                    case rel => exact ⟨kk + 1, c0 + 1, by go_num, by omega, by omega, by rw [cu_step _ _ hik, HC.out, if_pos hkey.out], by go_num, HBk.out⟩
                    case measure => simp [RowKit.intOf]; omega
                  · have h2' : ((kk : Int) % 2 == (i : Int) % 2) = false := by simp; omega
                    by_cases hA : A = []
                    · have hkey := Lib.hid (hkf.2 ⟨hss, Or.inl hA⟩)
                      have hA' : ((A.length : Int) == 0) = true := by simp [hA]
                      clear hkf hss h2 hA
                      go_wp2
                      go_roundw
                      case rel => exact ⟨kk + 1, c0 + 1, by go_num, by omega, by omega, by rw [cu_step _ _ hik, HC.out, if_pos hkey.out], by go_num, HBk.out⟩
                      case measure => simp [RowKit.intOf]; omega
                    · have hkey := Lib.hid (fun e => (hkf.1 e).2.elim hA h2 : ¬ kf N A ((kk + 1 : Nat) : Int) = kf N A ((i + 1 : Nat) : Int))
                      have hA' : ((A.length : Int) == 0) = false := by simp [hA]
                      clear hkf hss h2 hA
                      go_wp2
                      go_roundw
                      case rel => exact ⟨kk + 1, c0, by go_num, by omega, by omega, by rw [cu_step _ _ hik, HC.out, if_neg hkey.out, Nat.add_zero], by go_num, HBk.out⟩
                      case measure => simp [RowKit.intOf]; omega
                · have hss' : (s2 == s) = false := by simpa using hss
                  have hkey := Lib.hid (fun e => hss (hkf.1 e).1 : ¬ kf N A ((kk + 1 : Nat) : Int) = kf N A ((i + 1 : Nat) : Int))
                  clear hkf hss
                  go_wp2
                  go_roundw
                  case rel => exact ⟨kk + 1, c0, by go_num, by omega, by omega, by rw [cu_step _ _ hik, HC.out, if_neg hkey.out, Nat.add_zero], by go_num, HBk.out⟩
                  case measure => simp [RowKit.intOf]; omega
              · obtain rfl : kk = N.length := by omega
                have hltk' : ¬ ((N.length : Int) < (N.length : Int)) := by omega
                have hD := D_step (kf N A) hlt
                rw [hc] at hD
                have HBk := Lib.hid hbk
                have HO := Lib.hid (HBi.out.trans (hbk.mono HBi.out.size))
                have hW1 := HW.out.1.below (hbk)
                by_cases h3 : c0 < 3
                · rw [if_pos h3] at hD
                  obtain ⟨v2, w2, hr, hW2, hb2⟩ := push_own hW1 ((i + 1 : Nat) : Int) (by have := HW.out.2.1; omega) (by have := HO.out.size; omega)
                  have h3' : (c0 : Int) < 3 := by omega
                  have HR := Lib.hid hr
                  have HW2 := Lib.hid (And.intro hW2 (HO.out.trans hb2))
                  have HD := Lib.hid hD
                  clear hr hW2 hb2 hD hW1 hbk hc HBk HO h3
                  go_wp2_with (at_builtin; refine Lib.wpList_append_run _ rfl (.tmp 93) (.tmp 96) 29 29 rfl _ _ rfl rfl _ w2 HR.out ?_)
                  go_roundw
                  case rel => exact ⟨i + 1, by go_num, by omega, HW2.out.2, W ++ [((i + 1 : Nat) : Int)], HW2.out.1, by have := HW.out.2.1; simp; omega, by rw [HD.out, ← HW.out.2.2]; simp⟩
                  case measure => simp [RowKit.intOf]; omega
                · rw [if_neg h3] at hD
                  have h3' : ¬ ((c0 : Int) < 3) := by omega
                  have HD := Lib.hid hD
                  have HW1 := Lib.hid hW1
                  clear hD hW1 hbk hc HBk h3
                  go_wp2
                  go_roundw
                  case rel => exact ⟨i + 1, by go_num, by omega, HO.out, W, HW1.out, by have := HW.out.2.1; omega, by rw [HD.out, ← HW.out.2.2]⟩
                  case measure => simp [RowKit.intOf]; omega
          · obtain rfl : i = N.length := by omega
            have hlti : ¬ ((N.length : Int) < (N.length : Int)) := by omega
            rw [D_end] at hWD
            have HBi := Lib.hid hbi
            have HBt := Lib.hid (HB.out.trans (hbi.mono HB.out.size))
            have HW := Lib.hid (And.intro hW (And.intro hWl hWD))
            have cR := At.rsame_any A a2 c2 A a2 c2 wr ((hs2.below HB.out).below hbi) ((hs2.below HB.out).below hbi) (by omega) (by omega)
            have S1 := Lib.hid (HS.out.below hbi)
            clear hW hWl hWD hbi hi
            go_wp2_with fail
            refine cR.mono ?_
            rintro e w4 ⟨rfl, rfl⟩
            by_cases hAA : At.same A A = true
            · have hE := HE.out.2 hAA
              have hWE : W = E := by
                have := HW.out.2.2
                rw [← hE] at this
                exact List.reverse_inj.1 this
              have HAA := hAA
              rw [hAA]
              have cA := all_any S1.out.lr (by have := HE.out.1; omega)
              clear cR hE
              go_wp2_with fail
              refine cA.mono ?_
              rintro e w5 ⟨u5, rfl, hu5, hb5⟩
              have hW5 := HW.out.1.below hb5
              obtain ⟨a5, c5, rfl, hr5⟩ := hu5.ri
              obtain ⟨a6, c6, rfl, hr6⟩ := hW5.ri
              have cS := same_ints E W a5 a6 c5 c6 _ hr5 hr6 (by have := HE.out.1; omega) (by have := HW.out.2.1; omega)
              have H5 := Lib.hid (HBt.out.trans (hb5.mono HBt.out.size))
              have HWE := Lib.hid hWE
              clear cA hu5 hW5 hr5 hr6 hb5 hWE
              go_wp2_with fail
              refine cS.mono ?_
              rintro e w6 ⟨rfl, hb6⟩
              go_wp2
              go_ret
              exact ⟨by rw [HWE.out]; simp, H5.out.trans (hb6.mono H5.out.size)⟩
            · have hAA' : At.same A A = false := by simpa using hAA
              rw [hAA']
              clear cR
              go_wp2
              go_ret
              exact ⟨rfl, HBt.out⟩
  · by_cases hN : N.length ≤ 40
    · have hle : ¬ ((N.length : Int) > 40) := by omega
      have hgt : ((A.length : Int) > 10) := by omega
      clear h20
      go_enter Try.func4, Try.ntmps4
      go_wp2_with fail
      refine (speaks_any w).mono ?_
      rintro e w1 ⟨rfl, hb1⟩
      go_wp2_with fail
      refine (speaks_any w1).mono ?_
      rintro e w2 ⟨rfl, hb2⟩
      go_wp2
      go_ret
      exact ⟨rfl, below_trans hb1 hb2⟩
    · have hgt : ((N.length : Int) > 40) := by omega
      clear h20
      go_enter Try.func4, Try.ntmps4
      go_wp2_with fail
      refine (speaks_any w).mono ?_
      rintro e w1 ⟨rfl, hb1⟩
      go_wp2_with fail
      refine (speaks_any w1).mono ?_
      rintro e w2 ⟨rfl, hb2⟩
      go_wp2
      go_ret
      exact ⟨rfl, below_trans hb1 hb2⟩
end Go.Proofs.Ytnnidajflnandaa
