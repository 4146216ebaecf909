/- The law ListPlaces, walked. -/
import Derived.Test.YtnnidajflnandaaNs
namespace Go.Proofs.Ytnnidajflnandaa
open Go.RowKit Go.Lib
open At (Str cellsA cellsA_len Sl)

theorem bw_of : ∀ {R : List Int} {p : Nat} {x : Int} {E : List Int}, E.reverse = R → E[p]? = some x → (p, x) ∈ bw R := by
  intro R
  induction R with
  | nil =>
    intro p x E hE hp
    have : E = [] := by simpa using hE
    subst this
    simp at hp
  | cons i r ih =>
    intro p x E hE hp
    have e : E = r.reverse ++ [i] := by
      have := congrArg List.reverse hE
      rw [List.reverse_reverse] at this
      rw [this]
      simp
    rw [e] at hp
    by_cases hl : p < r.reverse.length
    · rw [List.getElem?_append_left hl] at hp
      exact List.mem_cons_of_mem _ (ih (by simp) hp)
    · rw [List.getElem?_append_right (by omega)] at hp
      have h0 : p - r.reverse.length = 0 := by
        have := (List.getElem?_eq_some_iff.1 hp).1
        simp only [List.length_singleton] at this
        omega
      rw [h0] at hp
      simp only [List.getElem?_cons_zero, Option.some.injEq] at hp
      subst hp
      have : p = r.length := by simp at hl h0; omega
      subst this
      exact List.mem_cons_self ..

theorem plc_none {E : List Int} {i : Int} (h : i ∉ E) : plc E i = -1 := by
  rcases plc_cases E i with h1 | ⟨p, -, -, hp⟩
  · exact h1
  · exact absurd (List.mem_of_getElem? hp) h

theorem plc_at {E : List Int} {i : Int} {p : Nat} (hi : i ≠ -1) (hp : E[p]? = some i) (hu : ∀ q, E[q]? = some i → q = p) : plc E i = (p : Int) := by
  rcases plc_cases E i with h1 | ⟨q, h1, -, hq⟩
  · exfalso
    unfold plc at h1
    rw [if_neg hi] at h1
    have hm := bw_of (R := E.reverse) rfl hp
    cases hf : (bw E.reverse).find? (fun p => p.2 == i) with
    | none =>
      have := List.find?_eq_none.1 hf _ hm
      simp at this
    | some q =>
      rw [hf] at h1
      simp only at h1
      omega
  · rw [h1, hu q hq]

/-- one element between others -/
theorem mid_at {A D : List Int} {i : Int} (hA : i ∉ A) (hD : i ∉ D) : ∀ q, (A ++ i :: D)[q]? = some i → q = A.length := by
  intro q hq
  rcases Nat.lt_trichotomy q A.length with h | h | h
  · rw [List.getElem?_append_left h] at hq
    exact absurd (List.mem_of_getElem? hq) hA
  · exact h
  · rw [List.getElem?_append_right (by omega), show q - A.length = (q - A.length - 1) + 1 by omega, List.getElem?_cons_succ] at hq
    exact absurd (List.mem_of_getElem? hq) hD
theorem plc_mid {A D : List Int} {i : Int} (hi : i ≠ -1) (hA : i ∉ A) (hD : i ∉ D) : plc (A ++ i :: D) i = (A.length : Int) :=
  plc_at hi (by simp) (mid_at hA hD)
theorem rpl_mid {A D : List Int} {i y : Int} (hi : i ≠ -1) (hA : i ∉ A) (hD : i ∉ D) : rpl (A ++ i :: D) i y = A ++ y :: D := by
  unfold rpl
  rw [plc_mid hi hA hD, if_neg (by omega), Int.toNat_natCast]
  simp
theorem rmv_mid {A D : List Int} {i : Int} (hi : i ≠ -1) (hA : i ∉ A) (hD : i ∉ D) : rmv (A ++ i :: D) i = A ++ D := by
  unfold rmv
  rw [plc_mid hi hA hD, if_neg (by omega), Int.toNat_natCast]
  rw [List.eraseIdx_append_of_length_le (Nat.le_refl _)]
  simp
theorem rmv_none {E : List Int} {i : Int} (h : i ∉ E) : rmv E i = E := by unfold rmv; rw [if_pos (plc_none h)]

set_option maxRecDepth 100000 in
set_option maxHeartbeats 4000000 in
theorem places_any (N : List Str) (a : Option Addr) (c q : Nat) (hq : q < 256) (w : World) (hs : Ns N a c w) :
    Calls Try.prog 6 #[.slice a N.length c, .int .u8 (q : Int)] w fun e w' => e = .returned (.bool true) ∧ Below w.heap.size w w' := by
  by_cases h20 : N.length ≤ 20
  · go_enter Try.func6, Try.ntmps6
    have hgt : ¬ ((N.length : Int) > 20) := by omega
    go_wp2_with fail
    refine (speaks_any w).mono ?_
    rintro e w1 ⟨rfl, hb1⟩
    go_wp2_with fail
    refine (new_any w1).mono ?_
    rintro e w2 ⟨R, vn, rfl, ha, hb2⟩
    have cN := st_new ha hb2.size
    go_wp2_with fail
    refine cN.mono ?_
    rintro e w3 ⟨rfl, h3, hb3⟩
    have hbw : Below w.heap.size w w3 := below_trans hb1 (below_trans hb2 hb3)
    obtain ⟨Ls, hLs⟩ : ∃ Ls, w2.heap.size = Ls := ⟨_, rfl⟩
    obtain ⟨B, hB⟩ : ∃ B, w1.heap.size = B := ⟨_, rfl⟩
    have hwB : w.heap.size ≤ B := by rw [← hB]; exact hb1.size
    rw [hLs, hB] at h3
    rw [hLs]
    clear cN ha hb1 hb2 hb3 hLs hB
    go_wp2
    go_loopw [30] (fun x wr => ∃ k : Nat, x = .int .i64 (k : Int) ∧ k ≤ N.length ∧ Below w.heap.size w wr ∧ ∃ L vn v E, L.length = k + 1 ∧ E.length ≤ 2 * k ∧ ST B wr R Ls L E vn v) (fun x _ => N.length - (RowKit.intOf x).toNat)
    case atStart => exact ⟨0, rfl, by omega, hbw, rootL, vn, _, [], rfl, by simp, h3⟩
    case round =>
      obtain ⟨k, rfl, hk, hbk, L, vn', v, E, hL, hE, hst⟩ := hrel
      clear h3 hbw
      by_cases hlt : k < N.length
      · have hlt' : (k : Int) < (N.length : Int) := by omega
        obtain ⟨b, off, rfl, hcell⟩ := (hs.below hbk).at hlt
        obtain ⟨s, hs'⟩ : ∃ s, N[k] = s := ⟨_, rfl⟩
        rw [hs'] at hcell
        by_cases hse : (s == ([] : List UInt8)) = true
        · have HB := Lib.hid hbk
          clear hst hbk
          go_wp2
          go_ret
          exact ⟨rfl, HB.out⟩
        · have hse' : (s == ([] : List UInt8)) = false := by simpa using hse
          have HB := Lib.hid hbk
          have HE := Lib.hid hE
          have HL := Lib.hid hL
          have HS := Lib.hid hst
          clear hst hbk hE hL
          go_wp2_with fail
          · refine (st_mark HS.out (by have := HE.out; omega)).mono ?_
            rintro e w4 ⟨rfl, v4, h4, ev4⟩
            have HE4 := Lib.hid (show (E ++ [-1]).length ≤ 2 * k + 1 from by have := HE.out; simp; omega)
            have HB4 := Lib.hid (HB.out.trans (ev4.below.mono hwB))
            have H4 := Lib.hid h4
            clear h4 ev4
            go_wp2_with fail
            have cE := st_elem H4.out s [] none 0 ⟨Nat.le_refl _, fun _ => ⟨rfl, rfl⟩, Or.inl rfl⟩ (by have := HL.out; omega) (Nat.zero_le _)
            refine cE.mono ?_
            rintro e w5 ⟨rfl, sa, vn5, h5, ev5⟩
            have HL5 := Lib.hid (show (L ++ [(⟨s, [], sa, -1, [], .slice none 0 0⟩ : QN)]).length = k + 1 + 1 from by have := HL.out; simp; omega)
            have hn : (L ++ [(⟨s, [], sa, -1, [], .slice none 0 0⟩ : QN)])[L.length]? = some ⟨s, [], sa, -1, [], .slice none 0 0⟩ := by simp
            have cP := st_push h5 (by have := HE4.out; omega) L.length _ (by have := HL.out; omega) hn
            have HP := Lib.hid (show (psh (L ++ [(⟨s, [], sa, -1, [], .slice none 0 0⟩ : QN)]) ⟨s, [], sa, -1, [], .slice none 0 0⟩ (E ++ [-1]) L.length).length ≤ 2 * (k + 1) from by
              have := psh_len (L ++ [(⟨s, [], sa, -1, [], .slice none 0 0⟩ : QN)]) ⟨s, [], sa, -1, [], .slice none 0 0⟩ (E ++ [-1]) L.length
              have := HE4.out
              omega)
            have HB5 := Lib.hid (HB4.out.trans (ev5.below.mono hwB))
            clear cE h5 ev5 hn
            go_wp2_with fail
            refine cP.mono ?_
            rintro e w6 ⟨rfl, v6, h6, ev6⟩
            have H6 := Lib.hid h6
            have HB6 := Lib.hid (HB5.out.trans (ev6.below.mono hwB))
            clear h6 ev6 cP
            go_wp2
            go_roundw
            case rel => exact ⟨k + 1, by go_num, by omega, HB6.out, _, vn5, v6, _, HL5.out, HP.out, H6.out⟩
            case measure => simp [RowKit.intOf]; omega
          · have HE4 := Lib.hid (show E.length ≤ 2 * k + 1 from by have := HE.out; omega)
            have cE := st_elem HS.out s [] none 0 ⟨Nat.le_refl _, fun _ => ⟨rfl, rfl⟩, Or.inl rfl⟩ (by have := HL.out; omega) (Nat.zero_le _)
            refine cE.mono ?_
            rintro e w5 ⟨rfl, sa, vn5, h5, ev5⟩
            have HL5 := Lib.hid (show (L ++ [(⟨s, [], sa, -1, [], .slice none 0 0⟩ : QN)]).length = k + 1 + 1 from by have := HL.out; simp; omega)
            have hn : (L ++ [(⟨s, [], sa, -1, [], .slice none 0 0⟩ : QN)])[L.length]? = some ⟨s, [], sa, -1, [], .slice none 0 0⟩ := by simp
            have cP := st_push h5 (by have := HE4.out; omega) L.length _ (by have := HL.out; omega) hn
            have HP := Lib.hid (show (psh (L ++ [(⟨s, [], sa, -1, [], .slice none 0 0⟩ : QN)]) ⟨s, [], sa, -1, [], .slice none 0 0⟩ (E) L.length).length ≤ 2 * (k + 1) from by
              have := psh_len (L ++ [(⟨s, [], sa, -1, [], .slice none 0 0⟩ : QN)]) ⟨s, [], sa, -1, [], .slice none 0 0⟩ (E) L.length
              have := HE4.out
              omega)
            have HB5 := Lib.hid (HB.out.trans (ev5.below.mono hwB))
            clear cE h5 ev5 hn
            go_wp2_with fail
            refine cP.mono ?_
            rintro e w6 ⟨rfl, v6, h6, ev6⟩
            have H6 := Lib.hid h6
            have HB6 := Lib.hid (HB5.out.trans (ev6.below.mono hwB))
            clear h6 ev6 cP
            go_wp2
            go_roundw
            case rel => exact ⟨k + 1, by go_num, by omega, HB6.out, _, vn5, v6, _, HL5.out, HP.out, H6.out⟩
            case measure => simp [RowKit.intOf]; omega
      · obtain rfl : k = N.length := by omega
        have hlt' : ¬ ((N.length : Int) < (N.length : Int)) := by omega
        clear hs hk
        have HB := Lib.hid hbk
        have HE := Lib.hid hE
        have HL := Lib.hid hL
        have cA := all_any hst.lr (by omega)
        have hLl := hst.lr.lt
        have HS := Lib.hid hst
        clear hst hbk hE hL
        go_wp2_with fail
        refine cA.mono ?_
        rintro e w4 ⟨u, rfl, hu, hb4⟩
        have hap : Apart u v := by
          cases ho : u.ownBlock with
          | none => exact Or.inl ho
          | some g =>
            refine Or.inr fun e => ?_
            have h1 := (hu.lt g ho).1
            have h2 := (HS.out.lr.row.lt g (by rw [← e, ho])).2
            omega
        have S4 := Lib.hid (HS.out.below hb4)
        obtain ⟨a4, c4, rfl, -⟩ := hu.slice
        have U4 := Lib.hid hu
        have A4 := Lib.hid hap
        have B4 := Lib.hid (HB.out.trans (hb4.mono HB.out.size))
        clear hu hap hb4 cA HS HB
        obtain ⟨kk, hkk⟩ : ∃ kk : Nat, q % (E.length + 1) = kk := ⟨_, rfl⟩
        have hk : kk ≤ E.length := by have := Nat.mod_lt q (show 0 < E.length + 1 by omega); omega
        have hW : wrap64 ((E.length : Int) + 1) = ((E.length + 1 : Nat) : Int) := by
          have := HE.out
          unfold wrap64
          omega
        have hkq : (q : Int) % ((E.length + 1 : Nat) : Int) = (kk : Int) := by rw [← hkk]; omega
        go_wp2_with fail
        rw [show (q : Int) % ((E.length : Int) + 1) = (kk : Int) from hkq]
        refine (st_elem S4.out [98] [] none 0 ⟨Nat.le_refl _, fun _ => ⟨rfl, rfl⟩, Or.inl rfl⟩ (by have := HL.out; omega) (Nat.zero_le _)).mono ?_
        rintro e w5 ⟨rfl, sa, vn5, h5, ev5⟩
        have S5 := Lib.hid h5
        have V5 := Lib.hid ev5
        have L5 := Lib.hid (show (L ++ [(⟨[98], [], sa, -1, [], .slice none 0 0⟩ : QN)]).length = L.length + 1 from by simp)
        have N5 := Lib.hid (S4.out.ok.notin L.length (Nat.le_refl _))
        have M5 := Lib.hid (show ((L.length : Int) + 1) ∉ E from by have := S4.out.ok.notin (L.length + 1) (by omega); simpa using this)
        clear h5 ev5 hW hkq hkk S4
        obtain ⟨L1, hL1⟩ : ∃ L1, L ++ [(⟨[98], [], sa, -1, [], .slice none 0 0⟩ : QN)] = L1 := ⟨_, rfl⟩
        rw [hL1] at S5 L5
        have c5 := st_elem S5.out [98] [] none 0 ⟨Nat.le_refl _, fun _ => ⟨rfl, rfl⟩, Or.inl rfl⟩ (by have := HL.out; have := L5.out; omega) (Nat.zero_le _)
        rw [L5.out] at c5
        go_wp2_with fail
        refine c5.mono ?_
        rintro e w6 ⟨rfl, sa6, vn6, h6, ev6⟩
        have S6 := Lib.hid h6
        have V6 := Lib.hid (V5.out.trans ev6)
        have L6 := Lib.hid (show (L1 ++ [(⟨[98], [], sa6, -1, [], .slice none 0 0⟩ : QN)]).length = L.length + 2 from by have := L5.out; simp; omega)
        clear h6 ev6 S5 V5 c5
        obtain ⟨L2, hL2⟩ : ∃ L2, L1 ++ [(⟨[98], [], sa6, -1, [], .slice none 0 0⟩ : QN)] = L2 := ⟨_, rfl⟩
        rw [hL2] at S6 L6
        clear hL1 hL2 L5
        have HEl := Lib.hid (show E.length ≤ 100 from by have := HE.out; omega)
        obtain ⟨A, D, hAD, hA⟩ : ∃ A D : List Int, E = A ++ D ∧ A.length = kk := ⟨E.take kk, E.drop kk, (List.take_append_drop kk E).symm, by simp; omega⟩
        have hT : E.take kk = A := by rw [hAD, ← hA]; simp
        have hD : E.drop kk = D := by rw [hAD, ← hA]; simp
        obtain ⟨m, hm⟩ : ∃ m, L.length = m := ⟨_, rfl⟩
        have hmp : 0 < m := by rw [← hm]; have := HL.out; omega
        rw [hm] at N5 M5 L6 ⊢
        have mA : (m : Int) ∉ A := fun h => N5.out (by rw [hAD]; exact List.mem_append_left _ h)
        have mD : (m : Int) ∉ D := fun h => N5.out (by rw [hAD]; exact List.mem_append_right _ h)
        have nA : ((m : Int) + 1) ∉ A := fun h => M5.out (by rw [hAD]; exact List.mem_append_left _ h)
        have nD : ((m : Int) + 1) ∉ D := fun h => M5.out (by rw [hAD]; exact List.mem_append_right _ h)
        have HAD := Lib.hid hAD
        have HF := Lib.hid (And.intro (And.intro mA mD) (And.intro nA nD))
        have HA := Lib.hid hA
        have lAD : A.length + D.length = E.length := by rw [hAD]; simp
        have HlAD := Lib.hid lAD
        have cI := st_insert S6.out (by have := HEl.out; omega) kk hk (m : Int) ⟨by omega, by have := L6.out; omega⟩
        rw [hT, hD] at cI
        clear mA mD nA nD hA lAD hT hD hAD N5 M5 S6 hm HL HE
        go_wp2_with fail
        refine cI.mono ?_
        rintro e w7 ⟨rfl, v7, h7, ev7⟩
        have S7 := Lib.hid h7
        have V7 := Lib.hid (V6.out.trans ev7)
        have cF := find_any S7.out.lr (by have := HlAD.out; have := HEl.out; simp; omega) (m : Int)
        rw [plc_mid (by omega) HF.out.1.1 HF.out.1.2, HA.out] at cF
        clear h7 ev7 V6 cI
        go_wp2_with fail
        refine cF.mono ?_
        rintro e w8 ⟨rfl, hb8⟩
        have S8 := Lib.hid (S7.out.below hb8)
        have V8 := Lib.hid (V7.out.trans (S7.out.ev hb8))
        have cA := all_any S8.out.lr (by have := HlAD.out; have := HEl.out; simp; omega)
        rw [show (A ++ (m : Int) :: D).length = E.length + 1 from by have := HlAD.out; simp; omega] at cA
        clear S7 V7 cF hb8
        go_wp2_with fail
        refine cA.mono ?_
        rintro e w9 ⟨u9, rfl, hu9, hb9⟩
        obtain ⟨a9, c9, rfl, -⟩ := hu9.slice
        have S9 := Lib.hid (S8.out.below hb9)
        have V9 := Lib.hid (V8.out.trans (S8.out.ev hb9))
        have cR := st_replace S9.out (by have := HlAD.out; have := HEl.out; simp; omega) (m : Int) ((m : Int) + 1) ⟨by omega, by have := L6.out; omega⟩
        rw [rpl_mid (by omega) HF.out.1.1 HF.out.1.2] at cR
        have hW : wrap64 ((E.length : Int) + 1) = (E.length : Int) + 1 := by
          have := HEl.out
          unfold wrap64
          omega
        clear S8 V8 cA hu9 hb9
        go_wp2_with fail
        refine cR.mono ?_
        rintro e w10 ⟨rfl, v10, h10, ev10⟩
        have S10 := Lib.hid h10
        have V10 := Lib.hid (V9.out.trans ev10)
        have hnm : (m : Int) ∉ A ++ ((m : Int) + 1) :: D := fun h => by
          rcases List.mem_append.1 h with h | h
          · exact HF.out.1.1 h
          · rcases List.mem_cons.1 h with h | h
            · omega
            · exact HF.out.1.2 h
        have cF1 := find_any S10.out.lr (by have := HlAD.out; have := HEl.out; simp; omega) (m : Int)
        rw [plc_none hnm] at cF1
        clear h10 ev10 V9 S9 cR hnm hW
        go_wp2_with fail
        refine cF1.mono ?_
        rintro e w11 ⟨rfl, hb11⟩
        have S11 := Lib.hid (S10.out.below hb11)
        have V11 := Lib.hid (V10.out.trans (S10.out.ev hb11))
        have cF2 := find_any S11.out.lr (by have := HlAD.out; have := HEl.out; simp; omega) ((m : Int) + 1)
        rw [plc_mid (by omega) HF.out.2.1 HF.out.2.2, HA.out] at cF2
        clear hb11 V10 S10 cF1
        go_wp2_with fail
        refine cF2.mono ?_
        rintro e w12 ⟨rfl, hb12⟩
        have S12 := Lib.hid (S11.out.below hb12)
        have V12 := Lib.hid (V11.out.trans (S11.out.ev hb12))
        have cM1 := st_remove S12.out (by have := HlAD.out; have := HEl.out; simp; omega) ((m : Int) + 1)
        rw [rmv_mid (by omega) HF.out.2.1 HF.out.2.2, ← HAD.out] at cM1
        clear hb12 V11 S11 cF2
        go_wp2_with fail
        refine cM1.mono ?_
        rintro e w13 ⟨rfl, v13, h13, ev13⟩
        have S13 := Lib.hid h13
        have V13 := Lib.hid (V12.out.trans ev13)
        have cM2 := st_remove S13.out (by have := HEl.out; omega) (m : Int)
        rw [rmv_none (show (m : Int) ∉ E from fun h => by
          rw [HAD.out] at h
          rcases List.mem_append.1 h with h | h
          · exact HF.out.1.1 h
          · exact HF.out.1.2 h)] at cM2
        clear h13 ev13 V12 S12 cM1
        go_wp2_with fail
        refine cM2.mono ?_
        rintro e w14 ⟨rfl, v14, h14, ev14⟩
        have S14 := Lib.hid h14
        have V14 := Lib.hid (V13.out.trans ev14)
        have cA2 := all_any S14.out.lr (by have := HEl.out; omega)
        clear h14 ev14 V13 S13 cM2
        go_wp2_with fail
        refine cA2.mono ?_
        rintro e w15 ⟨u15, rfl, hu15, hb15⟩
        have V15 := Lib.hid (V14.out.trans (S14.out.ev hb15))
        have hu4 := (V15.out.row U4.out (by decide) (by decide) (by decide) (by decide) (by decide) A4.out).1
        obtain ⟨a15, c15, rfl, hr15⟩ := hu15.ri
        obtain ⟨a4', c4', e4, hr4⟩ := hu4.ri
        cases e4
        have cS := same_ints E E a15 _ c15 _ _ hr15 hr4 (by have := HEl.out; omega) (by have := HEl.out; omega)
        have H15 := Lib.hid (B4.out.trans (V15.out.below.mono hwB))
        clear V14 V15 S14 cA2 hu15 hu4 hr15 hr4 hb15 U4 A4 B4
        go_wp2_with fail
        refine cS.mono ?_
        rintro e w16 ⟨rfl, hb16⟩
        go_wp2
        go_ret
        exact ⟨by simp, H15.out.trans (hb16.mono H15.out.size)⟩
  · have hgt : ((N.length : Int) > 20) := by omega
    go_enter Try.func6, Try.ntmps6
    go_wp2_with fail
    refine (speaks_any w).mono ?_
    rintro e w1 ⟨rfl, hb1⟩
    go_wp2_with fail
    refine (speaks_any w1).mono ?_
    rintro e w2 ⟨rfl, hb2⟩
    go_wp2
    go_ret
    exact ⟨rfl, below_trans hb1 hb2⟩
end Go.Proofs.Ytnnidajflnandaa
