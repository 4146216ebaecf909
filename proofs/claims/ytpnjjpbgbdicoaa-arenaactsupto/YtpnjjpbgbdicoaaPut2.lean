/- ArenaMoves' closure, walked: nodes put into an arena, one by one. -/
import Derived.Test.YtpnjjpbgbdicoaaPut
namespace Go.Proofs.Ytpnjjpbgbdicoaa
open Go.RowKit Go.Lib
open At (Str cellsA cellsA_len Sl)

set_option maxHeartbeats 4000000 in
set_option maxRecDepth 100000 in
theorem mput_any (B R cp g3 g4 : Nat) (fv : Value) (hfv : fv = .func (.func 42) #[] #[.pointer (some ⟨g3, 0, none⟩), .pointer (some ⟨g4, 0, none⟩)]) (n : Nat) : ∀ (f : F) (P : Nat → Prop) (a : Option Addr) (c : Nat) (w : World) (L : List QN) (vn : Value) (K k lo : Nat) (nk : QN) (d : F), f.wt = n → f.small 400000 → f.len ≤ 400000 → (∀ b, P b → b < B) → NSl w P f a c →
    AR B w R L cp vn → ClF R g3 g4 71 fv w → Par L → Nmd (L.map ab) → L[k]? = some nk → TG (L.map ab) lo (nk.inn.map abp) d → k ≤ lo → lo < L.length → Bd K L → K + f.wt ≤ 4000000 →
    Calls Try.prog 42 #[.int .i64 (k : Int), .slice a f.len c, .pointer (some ⟨g3, 0, none⟩), .pointer (some ⟨g4, 0, none⟩)] w (PutPost B R cp L k lo nk (F.mg d f) (K + f.wt) (.tuple #[]) w) := by
  induction n using Nat.strongRecOn with
  | _ n ih =>
    intro f P a c w L vn K k lo nk d hf hsm hlm hP hs hA hC hPar hNm hnk hT hkl0 hlo hBd hK
    have HP := Lib.hid hP
    have HS0 := Lib.hid (PutR.start hkl0 hPar hNm hnk hT)
    have HLO := Lib.hid hlo
    have HC := Lib.hid hC
    have HAR := Lib.hid hA
    have HBD := Lib.hid hBd
    have HK := Lib.hid hK
    have hkl : k < L.length := (List.getElem?_eq_some_iff.1 hnk).1
    have hkb : k ≤ 4000000 := by have := hBd.len; omega
    have HKL := Lib.hid hkl
    clear hP hPar hNm hnk hT hBd hC hA hkl hK hlo hkl0
    have hBw : B ≤ w.heap.size := Nat.le_trans HAR.out.hB (Nat.le_of_lt HAR.out.lt)
    have HBW := Lib.hid hBw
    have HF := Lib.hid hf
    have HSM := Lib.hid hsm
    have hat : f = .nil ∨ ∃ b off, a = some ⟨b, off, none⟩ ∧ b < B ∧ At4 w P f b off := by
      rcases hs.2 with h | ⟨b, off, us, rfl, hp, hc, hv⟩
      · exact Or.inl h
      · exact Or.inr ⟨b, off, rfl, HP.out b hp, us, hc, hv⟩
    clear hs hf hsm hBw
    rcases hat with rfl | ⟨b, off, rfl, hbB, h4⟩
    · have HPP := Lib.hid (show PutPost B R cp L k lo nk (F.mg d .nil) (K + 0) (.tuple #[]) w (.returned (.tuple #[])) w from ⟨rfl, L, vn, HAR.out, Chg.refl _ _, HS0.out, HBD.out⟩)
      go_enter Try.func42, Try.ntmps42
      go_wp2
      go_loopw [11] (fun v11 wr => v11 = .int .i64 0 ∧ wr = w) (fun _ _ => 0)
      case atStart => exact ⟨rfl, rfl⟩
      case round =>
        obtain ⟨rfl, rfl⟩ := hrel
        go_wp2
        go_end0
        exact HPP.out
    · have IH := Lib.hid ih
      have HB := Lib.hid hbB
      clear ih hbB
      go_enter Try.func42, Try.ntmps42
      go_wp2
      go_loopw [11] (fun v11 wr => PtRel B R cp L k lo nk d f K P b off w v11 wr) (fun v _ => f.len - (RowKit.intOf v).toNat)
      case atStart => exact ⟨f, d, 0, L, vn, K, rfl, by omega, Nat.le_refl _, rfl, by simpa using h4, HSM.out, HAR.out, Chg.refl _ _, HS0.out, HBD.out, Nat.le_refl _⟩
      case round =>
        obtain ⟨g, dd, i, L1, vn1, K1, rfl, hi, hw, hdg, hat, hgs, hA1, hC1, hR1, hB1, hK1⟩ := hrel
        have HA1 := Lib.hid hA1
        have HC1 := Lib.hid hC1
        have HR1 := Lib.hid hR1
        have HB1 := Lib.hid hB1
        clear h4
        cases g with
        | nil =>
          have hi' : i = f.len := by simpa [F.len] using hi
          subst hi'
          have h1 : ¬ ((f.len : Int) < (f.len : Int)) := by omega
          have HPP := Lib.hid (show PutPost B R cp L k lo nk (F.mg d f) (K + f.wt) (.tuple #[]) w (.returned (.tuple #[])) wr from ⟨rfl, L1, vn1, hA1, hC1, by rw [← hdg]; exact hR1, hB1.mono (by simpa [F.wt] using hK1)⟩)
          clear hat hi hw hdg hgs hA1 hC1 hR1 hB1 hK1
          go_wp2
          go_end0
          exact HPP.out
        | cons nm ats tx inn rest =>
          simp only [F.len, F.wt] at hi hw hK1
          have h1 : (i : Int) < (f.len : Int) := by omega
          have hat2 := hat.chg HP.out HB.out hC1.below
          obtain ⟨aa, ca, a', c', c0, c1, c2, c3, ⟨hsl, hpa⟩, hin, -⟩ := hat2.cons
          have hs0 : i ≤ 400000 := by omega
          have HSI := Lib.hid hgs
          have HH := Lib.hid (show i + (rest.len + 1) = f.len ∧ nm.length + F.atw ats + tx.length + inn.wt + rest.wt + 5 ≤ f.wt ∧ F.mg dd (.cons nm ats tx inn rest) = F.mg d f ∧ K1 + (nm.length + F.atw ats + tx.length + inn.wt + rest.wt + 5) ≤ K + f.wt ∧ At4 w P (.cons nm ats tx inn rest) b (off + i * 4) from ⟨hi, hw, hdg, hK1, hat⟩)
          have hClr := HC.out.chg (Or.inr rfl) hC1
          obtain ⟨n', hn', -⟩ := hR1.at_
          obtain ⟨W, hW⟩ : ∃ W, wr.alloc (.cells #[.string ⟨nm.toArray⟩, .slice aa ats.length ca, .string ⟨tx.toArray⟩, .slice a' inn.len c'] 69) = W := ⟨_, rfl⟩
          have hAW : Below wr.heap.size wr W := by rw [← hW]; exact At.below_alloc _
          have hVr : Var4 wr.heap.size (.string ⟨nm.toArray⟩) (.slice aa ats.length ca) (.string ⟨tx.toArray⟩) (.slice a' inn.len c') W := by rw [← hW]; exact ⟨by simp, by simp, by simp, by simp⟩
          have hBwr : B ≤ wr.heap.size := Nat.le_trans HBW.out hC1.below.size
          have hCW : Chg B wr W := Chg.of_below hBwr hAW
          have hV : StV R g3 g4 71 fv wr.heap.size (.string ⟨nm.toArray⟩) (.slice aa ats.length ca) (.string ⟨tx.toArray⟩) (.slice a' inn.len c') W := ⟨hClr.chg (Or.inr rfl) hCW, by rw [← hW]; exact ⟨_, _, heap_alloc_new wr _⟩, hVr⟩
          have HV := Lib.hid hV
          have HCW := Lib.hid (hC1.trans hCW)
          have HAW := Lib.hid (hA1.below hAW)
          have HN' := Lib.hid hn'
          obtain ⟨d0, d1, d2, d3⟩ := id hVr
          have e3 := hClr.c3
          have k3 := hV.cl.c3
          by_cases hnm : nm = []
          · subst hnm
            have cT := put_text HAW.out HR1.out HB1.out hn' tx (by have := HK.out; omega)
            clear hat hat2 hsl hpa hin hi hw hdg hgs hA1 hC1 hR1 hB1 hK1 hClr hAW hVr hBwr hCW hV hn'
            go_wp2_with fail
            refine cT.mono ?_
            rintro e w2 ⟨rfl, L2, h2, hc2, hr2, hb2⟩
            have H2 := Lib.hid h2
            have HC2 := Lib.hid hc2
            have HR2 := Lib.hid hr2
            have HB2 := Lib.hid hb2
            clear h2 hc2 hr2 hb2 cT
            go_wp2
            go_roundw
            case rel =>
              obtain ⟨hi, hw, hdg, hK1, hat⟩ := HH.out
              rw [F.mg, if_pos rfl] at hdg
              obtain ⟨_, _, _, _, -, -, -, -, -, -, hr⟩ := hat.cons
              rw [show off + i * 4 + 4 = off + (i + 1) * 4 by omega] at hr
              exact ⟨rest, dd.addT tx, i + 1, L2, vn1, K1 + tx.length + 1, by go_num, by omega, by omega, hdg, hr, HSI.out.2.2.2, H2.out, HCW.out.trans HC2.out, HR2.out, HB2.out, by omega⟩
            case measure => simp [RowKit.intOf]; omega
          · have hne : (nm == []) = false := str_ne hnm
            have hatl : ats.length ≤ 400000 := HSI.out.1
            have hWd : Below wr.heap.size wr W.drew := hAW.drew
            have cA := At.of_any ats aa ca W.drew (hsl.below hWd) hatl
            have hBW : B ≤ W.drew.heap.size := Nat.le_trans hBwr hWd.size
            have hVd : StV R g3 g4 71 fv wr.heap.size (.string ⟨nm.toArray⟩) (.slice aa ats.length ca) (.string ⟨tx.toArray⟩) (.slice a' inn.len c') W.drew := hV.chg (Or.inr rfl) (Chg.of_below (Nat.le_trans hBwr hAW.size) (below_drew W))
            have V3 := Lib.hid (fun w3 (hb3 : Below W.drew.heap.size W.drew w3) => hVd.chg (Or.inr rfl) (Chg.of_below hBW hb3))
            have C3 := Lib.hid (fun w3 (hb3 : Below W.drew.heap.size W.drew w3) => ((HCW.out.trans (Chg.of_below (Nat.le_trans hBwr hAW.size) (below_drew W))).trans (Chg.of_below hBW hb3)))
            have hl8 : L1.length + 1 ≤ 8000000 := by have := hB1.len; have := HK.out; omega
            have EL := Lib.hid (fun w3 (hb3 : Below W.drew.heap.size W.drew w3) a6 c6 (hs6 : Sl ats a6 c6 w3) => element_any ((HAW.out.below (below_drew W)).below hb3) nm ats a6 c6 hs6 hl8 (by omega))
            have HIN := Lib.hid (fun w5 (hc5 : Chg B w w5) => (show NSl w5 P inn a' c' from by
              obtain ⟨_, _, _, _, _, z1, _, z3, -, hin0, -⟩ := hat.cons
              have hbl : b < B := HB.out
              have y3 := (hC1.below.cell (p := ⟨b, off + i * 4 + 3, none⟩) hbl).trans z3
              rw [c3] at y3
              injection y3 with y3
              injection y3 with e1 _ e2
              subst e1 e2
              exact hin0.chg HP.out hc5.below))
            have p1 := hVd.s3
            have HVd := Lib.hid hVd
            have e1' := k3
            obtain ⟨s0, s1, s2⟩ := hVd.s3
            have hk1 : k < L1.length := (List.getElem?_eq_some_iff.1 hn').1
            have HKL1 := Lib.hid hk1
            have hL1 : L1.length ≤ 4000000 := by have := hB1.len; have := HK.out; omega
            clear hat hat2 hsl hpa hin hi hw hdg hgs hA1 hC1 hR1 hB1 hK1 hClr hAW hVr hBwr hCW hV hn' hWd hBW hVd hl8 hatl hk1
            go_wp2_with fail
            go_region_held3 (fun wx => wx.cell? ⟨g3, 0, none⟩ = some (.pointer (some ⟨R, 0, none⟩)) ∧ wx.cell? ⟨wr.heap.size, 0, none⟩ = some (.string ⟨nm.toArray⟩) ∧ wx.cell? ⟨wr.heap.size, 1, none⟩ = some (.slice aa ats.length ca))
              (first | with_reducible exact p1 | with_reducible exact p3 | with_reducible exact p4)
              (first
                | (go_at_call 14; refine cA.mono ?_; rintro e w3 ⟨va, rfl, hoa, hb3⟩; obtain ⟨a6, c6, rfl, hs6⟩ := At.sl_own hoa; have cE := EL.out w3 hb3 a6 c6 hs6; have HV3 := Lib.hid (V3.out w3 hb3); have HC3 := Lib.hid (C3.out w3 hb3); have p3 := HV3.out.s3; obtain ⟨q0, q1, q2⟩ := HV3.out.s3; clear hoa hb3 hs6)
                | (go_at_call 13; refine cE.mono ?_; rintro e w4 ⟨rfl, sa, vn4, h4, hc4⟩; have HV4 := Lib.hid (HV3.out.chg (Or.inr rfl) hc4); have p4 := HV4.out.s3; obtain ⟨r0, r1, r2⟩ := HV4.out.s3; have HA4 := Lib.hid h4; have HC4 := Lib.hid (HC3.out.trans hc4); clear h4 hc4))
            have cP := put_app HA4.out HR1.out.par HN'.out HB1.out (by have := HK.out; have := HH.out.2.2.2.1; omega) rfl rfl
            clear cA cE d0 d1 d2 d3 p1 p3 p4 s0 s1 s2 q0 q1 q2 e3 k3 c0 c1 c2 c3
            go_wp2_with fail
            refine cP.mono ?_
            rintro e w5 ⟨rfl, vi, h5, hc5⟩
            have HV5 := Lib.hid (HV4.out.chg (Or.inr rfl) hc5)
            have HC5 := Lib.hid (HC4.out.trans hc5)
            have H5 := Lib.hid h5
            have t3 := HV5.out.cl.c3
            have t4 := HV5.out.cl.c4
            rw [hfv] at t4
            obtain ⟨-, -, -, t5⟩ := HV5.out.vr
            clear h5 hc5 cP r0 r1 r2
            have cI := IH.out inn.wt (by have := HF.out; have := HH.out.2.1; omega) inn P a' c' w5 _ vn4 (K1 + 1) L1.length L1.length _ .nil rfl HSI.out.2.2.1 HSI.out.2.1 HP.out (HIN.out w5 HC5.out) H5.out HV5.out.cl (withElem_par HR1.out.par HN'.out) (withElem_nmd HR1.out.nmd HN'.out hnm) (withElem_new HKL1.out) (by show TG _ _ [] .nil; simp only [TG]) (Nat.le_refl _) (by rw [withElem_len]; omega) (withElem_bd HB1.out HN'.out rfl) (by have := HK.out; have := HH.out.2.2.2.1; omega)
            go_wp2_with fail
            refine cI.mono ?_
            rintro e w6 ⟨rfl, L3, vn6, h6, hc6, hr6, hb6⟩
            have H6 := Lib.hid h6
            have HC6 := Lib.hid (HC5.out.trans hc6)
            have HR6 := Lib.hid hr6
            have HB6 := Lib.hid hb6
            clear h6 hc6 hr6 hb6 cI
            go_wp2
            go_roundw
            case rel =>
              obtain ⟨hi, hw, hdg, hK1, hat⟩ := HH.out
              rw [F.mg, if_neg hnm] at hdg
              obtain ⟨_, _, _, _, -, -, -, -, -, -, hr⟩ := hat.cons
              rw [show off + i * 4 + 4 = off + (i + 1) * 4 by omega] at hr
              exact ⟨rest, dd.app (.cons nm ats [] (F.mg .nil inn) .nil), i + 1, L3, vn6, K1 + 1 + inn.wt, by go_num, by omega, by omega, hdg, hr, HSI.out.2.2.2, H6.out, HC6.out, HR1.out.elem HLO.out HN'.out HR6.out, HB6.out, by omega⟩
            case measure => simp [RowKit.intOf]; omega
end Go.Proofs.Ytpnjjpbgbdicoaa
