/- References by number, on: the whole of one, in the program and in the reference. -/
import Derived.Test.YtndcmapifihgeaaGreatDoorNum
import Derived.Test.YtndcmapifihgeaaGreatDoorChRAll
import Derived.OwnWalk
namespace Go.Proofs.YtndcmapifihgeaaGreatDoor
open Go.RowKit Go.Lib
open Ch (at0 nx nx_width at0_lt at0_drop enc_len Sl Sl.below Cells ret_two enc_one enc_two enc_three enc_four)

/-- what the program answers -/
def resP : Option (List UInt8 × Nat) → Value
  | none => .tuple #[.string ⟨#[]⟩, .int .i64 0, .bool false]
  | some p => .tuple #[.string ⟨p.1.toArray⟩, .int .i64 (p.2 : Int), .bool true]
/-- what the reference answers -/
def resR : Option (List UInt8 × Nat) → Value
  | none => .tuple #[.string ⟨#[]⟩, .int .i64 (-1)]
  | some p => .tuple #[.string ⟨p.1.toArray⟩, .int .i64 (p.2 : Int)]

theorem resP_none {o : Option (List UInt8 × Nat)} (h : o = none) : resP o = .tuple #[.string ⟨#[]⟩, .int .i64 0, .bool false] := by rw [h]; rfl
theorem resP_some {o : Option (List UInt8 × Nat)} {s : List UInt8} {e : Nat} {x : Int} (h : o = some (s, e)) (hx : x = (e : Int)) : resP o = .tuple #[.string ⟨s.toArray⟩, .int .i64 x, .bool true] := by rw [h, hx]; rfl
theorem resR_none {o : Option (List UInt8 × Nat)} (h : o = none) : resR o = .tuple #[.string ⟨#[]⟩, .int .i64 (-1)] := by rw [h]; rfl
theorem resR_some {o : Option (List UInt8 × Nat)} {s : List UInt8} {e : Nat} {x : Int} (h : o = some (s, e)) (hx : x = (e : Int)) : resR o = .tuple #[.string ⟨s.toArray⟩, .int .i64 x] := by rw [h, hx]; rfl

theorem lookZ_is {l : List UInt8} {j c : Nat} {z : Int} (h : at0 l j = c) (hc : c ≠ 0) (hz : z = (c : Int)) : lookZ l (j : Int) = z := by
  rw [lookZ_in (at0_in (by rw [h]; exact hc)), h, hz]
theorem lookZ_not {l : List UInt8} {j c : Nat} {z : Int} (h : at0 l j ≠ c) (hc : c ≠ 0) (hz : z = (c : Int)) : (lookZ l (j : Int) == z) = false := by
  subst hz
  by_cases hj : j < l.length
  · rw [lookZ_in hj]
    simp
    omega
  · rw [lookZ_out (by omega)]
    rw [beq_eq_false_iff_ne]
    omega

/-- the number, by the list's place -/
theorem numM_at {l : List UInt8} {i k base : Nat} {N : Nat × Nat} (hk : kM (l.drop i) = k) (hb : baseM (l.drop i) = base) (hN : numR base (l.drop (i + k)) 0 = N) :
    sh i (numM (l.drop i)) = if N.2 = 0 then none else some (encodeRune (pt (N.1 : Int) : Int), i + k + N.2 + if at0 l (i + k + N.2) = 59 then 1 else 0) := by
  have e : numV (l.drop i) = N := by unfold numV; rw [hk, hb, List.drop_drop, hN]
  unfold numM
  rw [e, hk]
  by_cases h : N.2 = 0
  · rw [if_pos h, if_pos h]; rfl
  · rw [if_neg h, if_neg h]
    unfold sh semiN
    simp only [Option.map_some, at0_drop]
    rw [show i + (k + N.2) = i + k + N.2 by omega, show i + (k + N.2 + if at0 l (i + k + N.2) = 59 then 1 else 0) = i + k + N.2 + if at0 l (i + k + N.2) = 59 then 1 else 0 by omega]

theorem num_none {l : List UInt8} {i k base : Nat} {N : Nat × Nat} (hk : kM (l.drop i) = k) (hb : baseM (l.drop i) = base) (hN : numR base (l.drop (i + k)) 0 = N) (h : N.2 = 0) : sh i (numM (l.drop i)) = none := by
  rw [numM_at hk hb hN, if_pos h]
theorem num_semi {l : List UInt8} {i k base : Nat} {N : Nat × Nat} (hk : kM (l.drop i) = k) (hb : baseM (l.drop i) = base) (hN : numR base (l.drop (i + k)) 0 = N) (h : N.2 ≠ 0) (hs : at0 l (i + k + N.2) = 59) : sh i (numM (l.drop i)) = some (encodeRune (pt (N.1 : Int) : Int), i + k + N.2 + 1) := by
  rw [numM_at hk hb hN, if_neg h, if_pos hs]
theorem num_bare {l : List UInt8} {i k base : Nat} {N : Nat × Nat} (hk : kM (l.drop i) = k) (hb : baseM (l.drop i) = base) (hN : numR base (l.drop (i + k)) 0 = N) (h : N.2 ≠ 0) (hs : at0 l (i + k + N.2) ≠ 59) : sh i (numM (l.drop i)) = some (encodeRune (pt (N.1 : Int) : Int), i + k + N.2) := by
  rw [numM_at hk hb hN, if_neg h, if_neg hs]; rfl

theorem kM_yes {l : List UInt8} {i : Nat} (h : at0 l i = 120 ∨ at0 l i = 88) : kM (l.drop i) = 1 ∧ baseM (l.drop i) = 16 := by
  unfold kM baseM; rw [drop_at, if_pos h, if_pos h]; exact ⟨rfl, rfl⟩
theorem kM_no {l : List UInt8} {i : Nat} (h : at0 l i ≠ 120) (h' : at0 l i ≠ 88) : kM (l.drop i) = 0 ∧ baseM (l.drop i) = 10 := by
  unfold kM baseM; rw [drop_at, if_neg (by omega), if_neg (by omega)]; exact ⟨rfl, rfl⟩

theorem byteZ (z : Int) (n : Nat) (h : z = n) : z.toNat.toUInt8 = UInt8.ofNat n := by subst h; rfl
theorem ok_cases {c : Nat} (h : ok c) : (c ≤ 127) ∨ (128 ≤ c ∧ c ≤ 2047) ∨ ((2048 ≤ c ∧ c < 55296) ∨ (57343 < c ∧ c ≤ 65535)) ∨ (65536 ≤ c ∧ c ≤ 1114111) := by
  unfold ok at h; omega
theorem encode_ok (c : Nat) (h : ok c) : Utf8.encode (c : Int) = ⟨(encodeRune (c : Int)).toArray⟩ := by
  have hv : Utf8.valid (c : Int) = true := by
    unfold Utf8.valid; unfold ok at h; simp; omega
  unfold Utf8.encode
  simp only [hv, if_true, Int.toNat_natCast]
  rcases ok_cases h with k | k | k | k
  · rw [if_pos (by omega), enc_one c k]; rfl
  · rw [if_neg (by omega), if_pos (by omega), enc_two c k.1 k.2, byteZ _ (192 + c / 64) (by omega), byteZ _ (128 + c % 64) (by omega)]
  · rw [if_neg (by omega), if_neg (by omega), if_pos (by omega), enc_three c k, byteZ _ (224 + c / 4096) (by omega), byteZ _ (128 + c / 64 % 64) (by omega), byteZ _ (128 + c % 64) (by omega)]
  · rw [if_neg (by omega), if_neg (by omega), if_neg (by omega), enc_four c k.1 k.2, byteZ _ (240 + c / 262144) (by omega), byteZ _ (128 + c / 4096 % 64) (by omega), byteZ _ (128 + c / 64 % 64) (by omega), byteZ _ (128 + c % 64) (by omega)]

set_option maxRecDepth 100000 in
/-- 'string(r)' -/
theorem conv_rune (c : Nat) (h : ok c) (w : World) : (convert 21 9 (.int .i32 (c : Int))).run Tryz.prog w = .ok (.string ⟨(encodeRune (c : Int)).toArray⟩) w := by
  rw [← encode_ok c h]; exact run_convert_int_string w 21 9 .i32 c rfl Tryz.underlying9

theorem ret_is {v u : Value} (h : u = v) : Ending.returned v = .returned u := by rw [h]

set_option maxHeartbeats 8000000 in
set_option maxRecDepth 100000 in
theorem byNumber_any (l : List UInt8) (a : Option Addr) (cap : Nat) (i : Nat) (x : Int) (w : World) (hs : Sl l a cap w) (hx0 : x = (i : Int)) (hi : i ≤ l.length) (hl : l.length ≤ 4000000000000000000) (hM : Mv w) :
    Calls Tryz.prog 94 #[.slice a l.length cap, .int .i64 x] w fun e w' => e = .returned (resP (sh i (numM (l.drop i)))) ∧ w = w' := by
  subst hx0
  obtain ⟨R, hR⟩ : ∃ R, resP (sh i (numM (l.drop i))) = R := ⟨_, rfl⟩
  rw [hR]
  have HR := Lib.hid hR
  clear hR
  have hL := look_at l a cap i i w hs rfl
  by_cases c1 : at0 l i = 120
  · have hin := at0_in (m := l) (j := i) (by omega)
    rw [lookZ_is c1 (by decide) (z := 120) rfl] at hL
    obtain ⟨hk, hb⟩ := kM_yes (Or.inl c1)
    have HK := Lib.hid hk
    have HB := Lib.hid hb
    clear c1 hk hb
    have hN := number16 l a cap (i + 1) ((i : Int) + 1) w hs (by omega) (by omega) (by omega)
    obtain ⟨N, hN0⟩ : ∃ N, numR 16 (l.drop (i + 1)) 0 = N := ⟨_, rfl⟩
    rw [hN0] at hN
    have HN := Lib.hid hN0
    have hNb := numR_le 16 (l.drop (i + 1)) 0 (by omega)
    rw [hN0] at hNb
    simp only [List.length_drop] at hNb
    clear hN0
    have hP := point_any (N.1 : Int) w hM
    have hok := pt_ok (N.1 : Int)
    have hconv := fun w => conv_rune (pt (N.1 : Int)) hok w
    obtain ⟨q, hq⟩ : ∃ q, encodeRune (pt (N.1 : Int) : Int) = q := ⟨_, rfl⟩
    rw [hq] at hconv
    have HQ := Lib.hid hq
    have HOK := Lib.hid hok
    clear hq hok
    obtain ⟨E, hE⟩ : ∃ E, i + 1 + N.2 = E := ⟨_, rfl⟩
    rw [hE] at hN
    have HE := Lib.hid hE
    have hEb : E ≤ l.length := by omega
    have hL2 := look_at l a cap (E : Int) (E : Int) w hs rfl
    by_cases hz : N.2 = 0
    · have t0 : ((E : Int) == (i : Int) + 1) = true := by simp; omega
      have HR2 := Lib.hid (resP_none (num_none HK.out HB.out HN.out hz))
      clear hz hE
      generalize pt (N.1 : Int) = C at hP hconv HQ HOK
      go_enter Tryz.func94, Tryz.ntmps94
      go_wp2_with fail
      refine hL.mono ?_
      rintro e w' ⟨rfl, rfl⟩
      go_wp2_with fail
      refine hN.mono ?_
      rintro e w' ⟨rfl, rfl⟩
      go_wp2
      go_ret3
      exact ⟨ret_is (HR.out.symm.trans HR2.out), rfl⟩
    · have t0 : ((E : Int) == (i : Int) + 1) = false := by simp; omega
      by_cases h59 : at0 l E = 59
      · rw [lookZ_is h59 (by decide) (z := 59) rfl] at hL2
        have HR2 := Lib.hid (resP_some (x := (E : Int) + 1) (num_semi HK.out HB.out HN.out hz (by rw [hE]; exact h59)) (by omega))
        rw [HQ.out] at HR2
        clear hz h59 hE
        generalize pt (N.1 : Int) = C at hP hconv HQ HOK
        go_enter Tryz.func94, Tryz.ntmps94
        go_wp2_with fail
        refine hL.mono ?_
        rintro e w' ⟨rfl, rfl⟩
        go_wp2_with fail
        refine hN.mono ?_
        rintro e w' ⟨rfl, rfl⟩
        go_wp2_with fail
        refine hL2.mono ?_
        rintro e w' ⟨rfl, rfl⟩
        go_wp2_with fail
        refine hP.mono ?_
        rintro e w' ⟨rfl, rfl⟩
        go_wp2
        go_ret3
        exact ⟨ret_is (HR.out.symm.trans HR2.out), rfl⟩
      · have t1 := lookZ_not h59 (by decide) (z := 59) rfl
        have HR2 := Lib.hid (resP_some (x := (E : Int)) (num_bare HK.out HB.out HN.out hz (by rw [hE]; exact h59)) (by omega))
        rw [HQ.out] at HR2
        clear hz h59 hE
        generalize lookZ l (E : Int) = L2 at hL2 t1
        generalize pt (N.1 : Int) = C at hP hconv HQ HOK
        go_enter Tryz.func94, Tryz.ntmps94
        go_wp2_with fail
        refine hL.mono ?_
        rintro e w' ⟨rfl, rfl⟩
        go_wp2_with fail
        refine hN.mono ?_
        rintro e w' ⟨rfl, rfl⟩
        go_wp2_with fail
        refine hL2.mono ?_
        rintro e w' ⟨rfl, rfl⟩
        go_wp2_with fail
        refine hP.mono ?_
        rintro e w' ⟨rfl, rfl⟩
        go_wp2
        go_ret3
        exact ⟨ret_is (HR.out.symm.trans HR2.out), rfl⟩
  · by_cases c2 : at0 l i = 88
    · have hin := at0_in (m := l) (j := i) (by omega)
      rw [lookZ_is c2 (by decide) (z := 88) rfl] at hL
      obtain ⟨hk, hb⟩ := kM_yes (Or.inr c2)
      have HK := Lib.hid hk
      have HB := Lib.hid hb
      clear c1 c2 hk hb
      have hN := number16 l a cap (i + 1) ((i : Int) + 1) w hs (by omega) (by omega) (by omega)
      obtain ⟨N, hN0⟩ : ∃ N, numR 16 (l.drop (i + 1)) 0 = N := ⟨_, rfl⟩
      rw [hN0] at hN
      have HN := Lib.hid hN0
      have hNb := numR_le 16 (l.drop (i + 1)) 0 (by omega)
      rw [hN0] at hNb
      simp only [List.length_drop] at hNb
      clear hN0
      have hP := point_any (N.1 : Int) w hM
      have hok := pt_ok (N.1 : Int)
      have hconv := fun w => conv_rune (pt (N.1 : Int)) hok w
      obtain ⟨q, hq⟩ : ∃ q, encodeRune (pt (N.1 : Int) : Int) = q := ⟨_, rfl⟩
      rw [hq] at hconv
      have HQ := Lib.hid hq
      have HOK := Lib.hid hok
      clear hq hok
      obtain ⟨E, hE⟩ : ∃ E, i + 1 + N.2 = E := ⟨_, rfl⟩
      rw [hE] at hN
      have HE := Lib.hid hE
      have hEb : E ≤ l.length := by omega
      have hL2 := look_at l a cap (E : Int) (E : Int) w hs rfl
      by_cases hz : N.2 = 0
      · have t0 : ((E : Int) == (i : Int) + 1) = true := by simp; omega
        have HR2 := Lib.hid (resP_none (num_none HK.out HB.out HN.out hz))
        clear hz hE
        generalize pt (N.1 : Int) = C at hP hconv HQ HOK
        go_enter Tryz.func94, Tryz.ntmps94
        go_wp2_with fail
        refine hL.mono ?_
        rintro e w' ⟨rfl, rfl⟩
        go_wp2_with fail
        refine hN.mono ?_
        rintro e w' ⟨rfl, rfl⟩
        go_wp2
        go_ret3
        exact ⟨ret_is (HR.out.symm.trans HR2.out), rfl⟩
      · have t0 : ((E : Int) == (i : Int) + 1) = false := by simp; omega
        by_cases h59 : at0 l E = 59
        · rw [lookZ_is h59 (by decide) (z := 59) rfl] at hL2
          have HR2 := Lib.hid (resP_some (x := (E : Int) + 1) (num_semi HK.out HB.out HN.out hz (by rw [hE]; exact h59)) (by omega))
          rw [HQ.out] at HR2
          clear hz h59 hE
          generalize pt (N.1 : Int) = C at hP hconv HQ HOK
          go_enter Tryz.func94, Tryz.ntmps94
          go_wp2_with fail
          refine hL.mono ?_
          rintro e w' ⟨rfl, rfl⟩
          go_wp2_with fail
          refine hN.mono ?_
          rintro e w' ⟨rfl, rfl⟩
          go_wp2_with fail
          refine hL2.mono ?_
          rintro e w' ⟨rfl, rfl⟩
          go_wp2_with fail
          refine hP.mono ?_
          rintro e w' ⟨rfl, rfl⟩
          go_wp2
          go_ret3
          exact ⟨ret_is (HR.out.symm.trans HR2.out), rfl⟩
        · have t1 := lookZ_not h59 (by decide) (z := 59) rfl
          have HR2 := Lib.hid (resP_some (x := (E : Int)) (num_bare HK.out HB.out HN.out hz (by rw [hE]; exact h59)) (by omega))
          rw [HQ.out] at HR2
          clear hz h59 hE
          generalize lookZ l (E : Int) = L2 at hL2 t1
          generalize pt (N.1 : Int) = C at hP hconv HQ HOK
          go_enter Tryz.func94, Tryz.ntmps94
          go_wp2_with fail
          refine hL.mono ?_
          rintro e w' ⟨rfl, rfl⟩
          go_wp2_with fail
          refine hN.mono ?_
          rintro e w' ⟨rfl, rfl⟩
          go_wp2_with fail
          refine hL2.mono ?_
          rintro e w' ⟨rfl, rfl⟩
          go_wp2_with fail
          refine hP.mono ?_
          rintro e w' ⟨rfl, rfl⟩
          go_wp2
          go_ret3
          exact ⟨ret_is (HR.out.symm.trans HR2.out), rfl⟩
    · have u1 := lookZ_not c1 (by decide) (z := 120) rfl
      have u2 := lookZ_not c2 (by decide) (z := 88) rfl
      obtain ⟨hk, hb⟩ := kM_no c1 c2
      have HK := Lib.hid hk
      have HB := Lib.hid hb
      clear c1 c2 hk hb
      generalize lookZ l (i : Int) = L1 at hL u1 u2
      have hN := number10 l a cap (i + 0) ((i : Int)) w hs (by omega) (by omega) (by omega)
      obtain ⟨N, hN0⟩ : ∃ N, numR 10 (l.drop (i + 0)) 0 = N := ⟨_, rfl⟩
      rw [hN0] at hN
      have HN := Lib.hid hN0
      have hNb := numR_le 10 (l.drop (i + 0)) 0 (by omega)
      rw [hN0] at hNb
      simp only [List.length_drop] at hNb
      clear hN0
      have hP := point_any (N.1 : Int) w hM
      have hok := pt_ok (N.1 : Int)
      have hconv := fun w => conv_rune (pt (N.1 : Int)) hok w
      obtain ⟨q, hq⟩ : ∃ q, encodeRune (pt (N.1 : Int) : Int) = q := ⟨_, rfl⟩
      rw [hq] at hconv
      have HQ := Lib.hid hq
      have HOK := Lib.hid hok
      clear hq hok
      obtain ⟨E, hE⟩ : ∃ E, i + 0 + N.2 = E := ⟨_, rfl⟩
      rw [hE] at hN
      have HE := Lib.hid hE
      have hEb : E ≤ l.length := by omega
      have hL2 := look_at l a cap (E : Int) (E : Int) w hs rfl
      by_cases hz : N.2 = 0
      · have t0 : ((E : Int) == (i : Int)) = true := by simp; omega
        have HR2 := Lib.hid (resP_none (num_none HK.out HB.out HN.out hz))
        clear hz hE
        generalize pt (N.1 : Int) = C at hP hconv HQ HOK
        go_enter Tryz.func94, Tryz.ntmps94
        go_wp2_with fail
        refine hL.mono ?_
        rintro e w' ⟨rfl, rfl⟩
        go_wp2_with fail
        refine hN.mono ?_
        rintro e w' ⟨rfl, rfl⟩
        go_wp2
        go_ret3
        exact ⟨ret_is (HR.out.symm.trans HR2.out), rfl⟩
      · have t0 : ((E : Int) == (i : Int)) = false := by simp; omega
        by_cases h59 : at0 l E = 59
        · rw [lookZ_is h59 (by decide) (z := 59) rfl] at hL2
          have HR2 := Lib.hid (resP_some (x := (E : Int) + 1) (num_semi HK.out HB.out HN.out hz (by rw [hE]; exact h59)) (by omega))
          rw [HQ.out] at HR2
          clear hz h59 hE
          generalize pt (N.1 : Int) = C at hP hconv HQ HOK
          go_enter Tryz.func94, Tryz.ntmps94
          go_wp2_with fail
          refine hL.mono ?_
          rintro e w' ⟨rfl, rfl⟩
          go_wp2_with fail
          refine hN.mono ?_
          rintro e w' ⟨rfl, rfl⟩
          go_wp2_with fail
          refine hL2.mono ?_
          rintro e w' ⟨rfl, rfl⟩
          go_wp2_with fail
          refine hP.mono ?_
          rintro e w' ⟨rfl, rfl⟩
          go_wp2
          go_ret3
          exact ⟨ret_is (HR.out.symm.trans HR2.out), rfl⟩
        · have t1 := lookZ_not h59 (by decide) (z := 59) rfl
          have HR2 := Lib.hid (resP_some (x := (E : Int)) (num_bare HK.out HB.out HN.out hz (by rw [hE]; exact h59)) (by omega))
          rw [HQ.out] at HR2
          clear hz h59 hE
          generalize lookZ l (E : Int) = L2 at hL2 t1
          generalize pt (N.1 : Int) = C at hP hconv HQ HOK
          go_enter Tryz.func94, Tryz.ntmps94
          go_wp2_with fail
          refine hL.mono ?_
          rintro e w' ⟨rfl, rfl⟩
          go_wp2_with fail
          refine hN.mono ?_
          rintro e w' ⟨rfl, rfl⟩
          go_wp2_with fail
          refine hL2.mono ?_
          rintro e w' ⟨rfl, rfl⟩
          go_wp2_with fail
          refine hP.mono ?_
          rintro e w' ⟨rfl, rfl⟩
          go_wp2
          go_ret3
          exact ⟨ret_is (HR.out.symm.trans HR2.out), rfl⟩
end Go.Proofs.YtndcmapifihgeaaGreatDoor
