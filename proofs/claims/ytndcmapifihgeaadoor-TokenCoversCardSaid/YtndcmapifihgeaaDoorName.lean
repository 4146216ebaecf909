/- References by name, in the program. -/
import Derived.Test.YtndcmapifihgeaaDoorByN
import Derived.Test.YtndcmapifihgeaaDoorEnFind
namespace Go.Proofs.YtndcmapifihgeaaDoor
open Go.RowKit Go.Lib
open Ch (at0 nx nx_width at0_lt at0_drop enc_len Sl Sl.below Cells ret_two Cells.drop)
open En (findL)

/-- 'string(b)' of bytes that lie in memory -/
theorem string_cells {t : List UInt8} {b off n cap : Nat} {w : World} (hc : Cells t b off w) (hn : t.length = n) :
    (convert 22 9 (.slice (some ⟨b, off, none⟩) n cap)).run Tryd.prog w = .ok (.string ⟨t.toArray⟩) w := by
  subst hn
  refine run_convert_bytes_back w 22 9 5 ⟨b, off, none⟩ cap t Tryd.underlying22 Tryd.underlying5 Tryd.underlying9 fun j hj => ?_
  have := hc j hj
  have e : (⟨b, off, none⟩ : Addr).add j = ⟨b, off + j, none⟩ := by unfold Addr.add; split <;> simp_all
  rw [e, this]
  simp [at0, List.getD_eq_getElem?_getD, List.getElem?_eq_getElem hj]

theorem Cells.take {l : List UInt8} {b off : Nat} {w : World} (h : Cells l b off w) (n : Nat) : Cells (l.take n) b off w := by
  intro j hj
  simp only [List.length_take] at hj
  have e : at0 (l.take n) j = at0 l j := by
    unfold at0
    rw [List.getD_eq_getElem?_getD, List.getD_eq_getElem?_getD, List.getElem?_take, if_pos (by omega)]
  rw [e]
  exact h j (by omega)

theorem name_none {l : List UInt8} {i : Nat} {attr : Bool} {F : Nat × List UInt8} (hF : findL (l.drop i) = F) (h : F.1 = 0) : sh i (nameM (l.drop i) attr) = none := by
  unfold nameM; rw [hF, if_pos h]; rfl
theorem name_not {l : List UInt8} {i : Nat} {F : Nat × List UInt8} (hF : findL (l.drop i) = F) (h : F.1 ≠ 0) (h1 : at0 l (i + F.1 - 1) ≠ 59) (h2 : goesN (at0 l (i + F.1)) = true) : sh i (nameM (l.drop i) true) = none := by
  unfold nameM
  rw [hF, if_neg h, at0_drop, at0_drop, show i + (F.1 - 1) = i + F.1 - 1 by omega, if_pos ⟨⟨rfl, h1⟩, h2⟩]
  rfl
theorem name_yes {l : List UInt8} {i : Nat} {attr : Bool} {F : Nat × List UInt8} (hF : findL (l.drop i) = F) (h : F.1 ≠ 0) (h1 : attr = false ∨ at0 l (i + F.1 - 1) = 59 ∨ goesN (at0 l (i + F.1)) = false) : sh i (nameM (l.drop i) attr) = some (F.2, i + F.1) := by
  unfold nameM
  rw [hF, if_neg h, at0_drop, at0_drop, show i + (F.1 - 1) = i + F.1 - 1 by omega, if_neg]
  · rfl
  · rintro ⟨⟨a, c⟩, d⟩
    rcases h1 with e | e | e
    · rw [a] at e; cases e
    · exact c e
    · rw [d] at e; cases e

theorem goes_look (l : List UInt8) (j : Nat) : goesZ (lookZ l (j : Int)) = goesN (at0 l j) := by
  by_cases h : j < l.length
  · rw [lookZ_in h, goesZ_nat]
  · rw [lookZ_out (by omega), at0_out (by omega)]; decide

set_option maxHeartbeats 4000000 in
set_option maxRecDepth 100000 in
theorem byName_in (l : List UInt8) (b off cap : Nat) (i : Nat) (attr : Bool) (w : World) (hc : Cells l b off w) (hcap : l.length ≤ cap) (hi : i ≤ l.length) (hlt : i < cap) (hl : l.length ≤ 4000000000000000000) :
    Calls Tryd.prog 62 #[.slice (some ⟨b, off, none⟩) l.length cap, .int .i64 (i : Int), .bool attr] w fun e w' => e = .returned (resP (sh i (nameM (l.drop i) attr))) ∧ w = w' := by
  obtain ⟨R, hR⟩ : ∃ R, resP (sh i (nameM (l.drop i) attr)) = R := ⟨_, rfl⟩
  rw [hR]
  have HR := Lib.hid hR
  clear hR
  obtain ⟨M, hM⟩ : ∃ M, min (i + 8) l.length = M := ⟨_, rfl⟩
  have hm : min ((i : Int) + 8) (l.length : Int) = (M : Int) := by omega
  have hMi : i ≤ M := by omega
  have hMl : M ≤ l.length := by omega
  have hlen : ((l.drop i).take 8).length = M - i := by simp; omega
  have hstr := string_cells (cap := cap - i) (Cells.take (hc.drop i) 8) hlen
  have hFind := En.find_any ((l.drop i).take 8) w (by rw [hlen]; omega)
  rw [findL_eight] at hFind
  have hbd := findL_bd (l.drop i)
  obtain ⟨F, hF⟩ : ∃ F, findL (l.drop i) = F := ⟨_, rfl⟩
  rw [hF] at hFind hbd
  simp only [List.length_drop] at hbd
  have HF := Lib.hid hF
  clear hM hF hlen
  generalize (l.drop i).take 8 = T at hstr hFind
  obtain ⟨n, t⟩ := F
  simp only at hbd hFind
  by_cases hz : n = 0
  · subst hz
    have HR2 := Lib.hid (resP_none (name_none (attr := attr) HF.out rfl))
    clear hbd
    go_enter Tryd.func62, Tryd.ntmps62
    go_wp2_with fail
    refine hFind.mono ?_
    rintro e w' ⟨rfl, rfl⟩
    go_wp2
    go_ret3
    exact ⟨ret_is (HR.out.symm.trans HR2.out), rfl⟩
  · have hbd' : 2 ≤ n ∧ n ≤ l.length - i := by omega
    have t0 : ((n : Int) == 0) = false := by simp; omega
    have hcell := hc (i + n - 1) (by omega)
    have hidx : (i : Int) + (n : Int) - 1 = ((i + n - 1 : Nat) : Int) := by omega
    have hidx2 : i + n - 1 < l.length := by omega
    clear hbd
    cases attr with
    | false =>
      have HR2 := Lib.hid (resP_some (x := (i : Int) + (n : Int)) (name_yes (attr := false) HF.out hz (Or.inl rfl)) (by simp))
      clear hz
      go_enter Tryd.func62, Tryd.ntmps62
      go_wp2_with fail
      refine hFind.mono ?_
      rintro e w' ⟨rfl, rfl⟩
      go_wp2
      go_ret3
      exact ⟨ret_is (HR.out.symm.trans HR2.out), rfl⟩
    | true =>
      by_cases h59 : at0 l (i + n - 1) = 59
      · have HR2 := Lib.hid (resP_some (x := (i : Int) + (n : Int)) (name_yes (attr := true) HF.out hz (Or.inr (Or.inl h59))) (by simp))
        have t1 : (((at0 l (i + n - 1) : Nat) : Int) != 59) = false := by rw [h59]; rfl
        clear hz h59
        go_enter Tryd.func62, Tryd.ntmps62
        go_wp2_with fail
        refine hFind.mono ?_
        rintro e w' ⟨rfl, rfl⟩
        go_wp2
        go_ret3
        exact ⟨ret_is (HR.out.symm.trans HR2.out), rfl⟩
      · have t1 : (((at0 l (i + n - 1) : Nat) : Int) != 59) = true := by simp; omega
        have hL := look_at l (some ⟨b, off, none⟩) cap ((i : Int) + (n : Int)) ((i + n : Nat) : Int) w ⟨hcap, Or.inr ⟨b, off, rfl, hc⟩⟩ (by omega)
        have hG := goesOn_any (lookZ l ((i + n : Nat) : Int)) w
        rw [goes_look] at hG
        cases hg : goesN (at0 l (i + n)) with
        | true =>
          have HR2 := Lib.hid (resP_none (name_not HF.out hz h59 hg))
          rw [hg] at hG
          clear hz h59 hg
          generalize lookZ l ((i + n : Nat) : Int) = L at hL hG
          go_enter Tryd.func62, Tryd.ntmps62
          go_wp2_with fail
          refine hFind.mono ?_
          rintro e w' ⟨rfl, rfl⟩
          go_wp2_with fail
          refine hL.mono ?_
          rintro e w' ⟨rfl, rfl⟩
          go_wp2_with fail
          refine hG.mono ?_
          rintro e w' ⟨rfl, rfl⟩
          go_wp2
          go_ret3
          exact ⟨ret_is (HR.out.symm.trans HR2.out), rfl⟩
        | false =>
          have HR2 := Lib.hid (resP_some (x := (i : Int) + (n : Int)) (name_yes (attr := true) HF.out hz (Or.inr (Or.inr hg))) (by simp))
          rw [hg] at hG
          clear hz h59 hg
          generalize lookZ l ((i + n : Nat) : Int) = L at hL hG
          go_enter Tryd.func62, Tryd.ntmps62
          go_wp2_with fail
          refine hFind.mono ?_
          rintro e w' ⟨rfl, rfl⟩
          go_wp2_with fail
          refine hL.mono ?_
          rintro e w' ⟨rfl, rfl⟩
          go_wp2_with fail
          refine hG.mono ?_
          rintro e w' ⟨rfl, rfl⟩
          go_wp2
          go_ret3
          exact ⟨ret_is (HR.out.symm.trans HR2.out), rfl⟩

set_option maxHeartbeats 4000000 in
set_option maxRecDepth 100000 in
theorem byName_end (l : List UInt8) (b off : Nat) (attr : Bool) (w : World) (hl : l.length ≤ 4000000000000000000) :
    Calls Tryd.prog 62 #[.slice (some ⟨b, off, none⟩) l.length l.length, .int .i64 (l.length : Int), .bool attr] w fun e w' => e = .returned (resP (sh l.length (nameM (l.drop l.length) attr))) ∧ w = w' := by
  have hd : l.drop l.length = [] := List.drop_length
  rw [hd, show sh l.length (nameM [] attr) = none from rfl]
  have hm : min ((l.length : Int) + 8) (l.length : Int) = (l.length : Int) := by omega
  have hstr := string_cells (t := []) (b := b) (off := off) (n := 0) (cap := 0) (w := w) (fun j hj => absurd hj (by simp)) rfl
  have hFind := En.find_any [] w (by simp)
  rw [show findL [] = (0, []) from rfl] at hFind
  generalize l.length = n at hl hm ⊢
  go_enter Tryd.func62, Tryd.ntmps62
  go_wp2_with fail
  refine hFind.mono ?_
  rintro e w' ⟨rfl, rfl⟩
  go_wp2
  go_ret3
  exact ⟨rfl, rfl⟩

theorem byName_any (l : List UInt8) (b off cap : Nat) (i : Nat) (x : Int) (attr : Bool) (w : World) (hc : Cells l b off w) (hcap : l.length ≤ cap) (hx : x = (i : Int)) (hi : i ≤ l.length) (hl : l.length ≤ 4000000000000000000) :
    Calls Tryd.prog 62 #[.slice (some ⟨b, off, none⟩) l.length cap, .int .i64 x, .bool attr] w fun e w' => e = .returned (resP (sh i (nameM (l.drop i) attr))) ∧ w = w' := by
  subst hx
  by_cases h : i < cap
  · exact byName_in l b off cap i attr w hc hcap hi h hl
  · obtain rfl : i = l.length := by omega
    obtain rfl : cap = l.length := by omega
    exact byName_end l b off attr w hl
end Go.Proofs.YtndcmapifihgeaaDoor
