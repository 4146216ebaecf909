/- References by name, in the program. -/
import Derived.Test.YtndcmapifihgeaaGreatDoorByN
import Derived.Test.YtndcmapifihgeaaGreatDoorEnFind
import Derived.Test.YtndcmapifihgeaaGreatDoorChAll
import Derived.Test.YtndcmapifihgeaaGreatDoorChRAll
import Derived.Test.YtndcmapifihgeaaGreatDoorPt
import Derived.Lib.AppendStr
import Derived.Lib.FrozenHead
import Derived.Lib.SlBytesConst
namespace Go.Proofs.YtndcmapifihgeaaGreatDoor
open Go.RowKit Go.Lib
open Ch (at0 nx nx_width at0_lt at0_drop enc_len Sl Sl.below Cells ret_two Cells.drop)
open En (findL)

/-- 'string(b)' of bytes that lie in memory -/
theorem string_cells {t : List UInt8} {b off n cap : Nat} {w : World} (hc : Cells t b off w) (hn : t.length = n) :
    (convert 22 9 (.slice (some ⟨b, off, none⟩) n cap)).run Tryz.prog w = .ok (.string ⟨t.toArray⟩) w := by
  subst hn
  refine run_convert_bytes_back w 22 9 5 ⟨b, off, none⟩ cap t Tryz.underlying22 Tryz.underlying5 Tryz.underlying9 fun j hj => ?_
  have := hc j hj
  have e : (⟨b, off, none⟩ : Addr).add j = ⟨b, off + j, none⟩ := by unfold Addr.add; split <;> simp_all
  rw [e, this]
  simp [at0, List.getD_eq_getElem?_getD, List.getElem?_eq_getElem hj]

theorem Cells.take {l : List UInt8} {b off : Nat} {w : World} (h : Cells l b off w) (n : Nat) : Cells (l.take n) b off w := by
  intro j hj
  simp only [List.length_take] at hj
  have e : at0 (l.take n) j = at0 l j := by
    unfold at0
    rw [List.getD_eq_getElem?_getD, List.getD_eq_getElem?_getD, List.getElem?_take, if_pos (by omega)]
  rw [e]
  exact h j (by omega)

theorem name_none {l : List UInt8} {i : Nat} {attr : Bool} {F : Nat × List UInt8} (hF : findL (l.drop i) = F) (h : F.1 = 0) : sh i (nameM (l.drop i) attr) = none := by
  unfold nameM; rw [hF, if_pos h]; rfl
theorem name_not {l : List UInt8} {i : Nat} {F : Nat × List UInt8} (hF : findL (l.drop i) = F) (h : F.1 ≠ 0) (h1 : at0 l (i + F.1 - 1) ≠ 59) (h2 : goesN (at0 l (i + F.1)) = true) : sh i (nameM (l.drop i) true) = none := by
  unfold nameM
  rw [hF, if_neg h, at0_drop, at0_drop, show i + (F.1 - 1) = i + F.1 - 1 by omega, if_pos ⟨⟨rfl, h1⟩, h2⟩]
  rfl
theorem name_yes {l : List UInt8} {i : Nat} {attr : Bool} {F : Nat × List UInt8} (hF : findL (l.drop i) = F) (h : F.1 ≠ 0) (h1 : attr = false ∨ at0 l (i + F.1 - 1) = 59 ∨ goesN (at0 l (i + F.1)) = false) : sh i (nameM (l.drop i) attr) = some (F.2, i + F.1) := by
  unfold nameM
  rw [hF, if_neg h, at0_drop, at0_drop, show i + (F.1 - 1) = i + F.1 - 1 by omega, if_neg]
  · rfl
  · rintro ⟨⟨a, c⟩, d⟩
    rcases h1 with e | e | e
    · rw [a] at e; cases e
    · exact c e
    · rw [d] at e; cases e

theorem goes_look (l : List UInt8) (j : Nat) : goesZ (lookZ l (j : Int)) = goesN (at0 l j) := by
  by_cases h : j < l.length
  · rw [lookZ_in h, goesZ_nat]
  · rw [lookZ_out (by omega), at0_out (by omega)]; decide

set_option maxHeartbeats 4000000 in
set_option maxRecDepth 100000 in
theorem byName_in (l : List UInt8) (b off cap : Nat) (i : Nat) (attr : Bool) (w : World) (hc : Cells l b off w) (hcap : l.length ≤ cap) (hi : i ≤ l.length) (hlt : i < cap) (hl : l.length ≤ 4000000000000000000) :
    Calls Tryz.prog 95 #[.slice (some ⟨b, off, none⟩) l.length cap, .int .i64 (i : Int), .bool attr] w fun e w' => e = .returned (resP (sh i (nameM (l.drop i) attr))) ∧ w = w' := by
  obtain ⟨R, hR⟩ : ∃ R, resP (sh i (nameM (l.drop i) attr)) = R := ⟨_, rfl⟩
  rw [hR]
  have HR := Lib.hid hR
  clear hR
  obtain ⟨M, hM⟩ : ∃ M, min (i + 8) l.length = M := ⟨_, rfl⟩
  have hm : min ((i : Int) + 8) (l.length : Int) = (M : Int) := by omega
  have hMi : i ≤ M := by omega
  have hMl : M ≤ l.length := by omega
  have hlen : ((l.drop i).take 8).length = M - i := by simp; omega
  have hstr := string_cells (cap := cap - i) (Cells.take (hc.drop i) 8) hlen
  have hFind := En.find_any ((l.drop i).take 8) w (by rw [hlen]; omega)
  rw [findL_eight] at hFind
  have hbd := findL_bd (l.drop i)
  obtain ⟨F, hF⟩ : ∃ F, findL (l.drop i) = F := ⟨_, rfl⟩
  rw [hF] at hFind hbd
  simp only [List.length_drop] at hbd
  have HF := Lib.hid hF
  clear hM hF hlen
  generalize (l.drop i).take 8 = T at hstr hFind
  obtain ⟨n, t⟩ := F
  simp only at hbd hFind
  by_cases hz : n = 0
  · subst hz
    have HR2 := Lib.hid (resP_none (name_none (attr := attr) HF.out rfl))
    clear hbd
    go_enter Tryz.func95, Tryz.ntmps95
    go_wp2_with fail
    refine hFind.mono ?_
    rintro e w' ⟨rfl, rfl⟩
    go_wp2
    go_ret3
    exact ⟨ret_is (HR.out.symm.trans HR2.out), rfl⟩
  · have hbd' : 2 ≤ n ∧ n ≤ l.length - i := by omega
    have t0 : ((n : Int) == 0) = false := by simp; omega
    have hcell := hc (i + n - 1) (by omega)
    have hidx : (i : Int) + (n : Int) - 1 = ((i + n - 1 : Nat) : Int) := by omega
    have hidx2 : i + n - 1 < l.length := by omega
    clear hbd
    cases attr with
    | false =>
      have HR2 := Lib.hid (resP_some (x := (i : Int) + (n : Int)) (name_yes (attr := false) HF.out hz (Or.inl rfl)) (by simp))
      clear hz
      go_enter Tryz.func95, Tryz.ntmps95
      go_wp2_with fail
      refine hFind.mono ?_
      rintro e w' ⟨rfl, rfl⟩
      go_wp2
      go_ret3
      exact ⟨ret_is (HR.out.symm.trans HR2.out), rfl⟩
    | true =>
      by_cases h59 : at0 l (i + n - 1) = 59
      · have HR2 := Lib.hid (resP_some (x := (i : Int) + (n : Int)) (name_yes (attr := true) HF.out hz (Or.inr (Or.inl h59))) (by simp))
        have t1 : (((at0 l (i + n - 1) : Nat) : Int) != 59) = false := by rw [h59]; rfl
        clear hz h59
        go_enter Tryz.func95, Tryz.ntmps95
        go_wp2_with fail
        refine hFind.mono ?_
        rintro e w' ⟨rfl, rfl⟩
        go_wp2
        go_ret3
        exact ⟨ret_is (HR.out.symm.trans HR2.out), rfl⟩
      · have t1 : (((at0 l (i + n - 1) : Nat) : Int) != 59) = true := by simp; omega
        have hL := look_at l (some ⟨b, off, none⟩) cap ((i : Int) + (n : Int)) ((i + n : Nat) : Int) w ⟨hcap, Or.inr ⟨b, off, rfl, hc⟩⟩ (by omega)
        have hG := goesOn_any (lookZ l ((i + n : Nat) : Int)) w
        rw [goes_look] at hG
        cases hg : goesN (at0 l (i + n)) with
        | true =>
          have HR2 := Lib.hid (resP_none (name_not HF.out hz h59 hg))
          rw [hg] at hG
          clear hz h59 hg
          generalize lookZ l ((i + n : Nat) : Int) = L at hL hG
          go_enter Tryz.func95, Tryz.ntmps95
          go_wp2_with fail
          refine hFind.mono ?_
          rintro e w' ⟨rfl, rfl⟩
          go_wp2_with fail
          refine hL.mono ?_
          rintro e w' ⟨rfl, rfl⟩
          go_wp2_with fail
          refine hG.mono ?_
          rintro e w' ⟨rfl, rfl⟩
          go_wp2
          go_ret3
          exact ⟨ret_is (HR.out.symm.trans HR2.out), rfl⟩
        | false =>
          have HR2 := Lib.hid (resP_some (x := (i : Int) + (n : Int)) (name_yes (attr := true) HF.out hz (Or.inr (Or.inr hg))) (by simp))
          rw [hg] at hG
          clear hz h59 hg
          generalize lookZ l ((i + n : Nat) : Int) = L at hL hG
          go_enter Tryz.func95, Tryz.ntmps95
          go_wp2_with fail
          refine hFind.mono ?_
          rintro e w' ⟨rfl, rfl⟩
          go_wp2_with fail
          refine hL.mono ?_
          rintro e w' ⟨rfl, rfl⟩
          go_wp2_with fail
          refine hG.mono ?_
          rintro e w' ⟨rfl, rfl⟩
          go_wp2
          go_ret3
          exact ⟨ret_is (HR.out.symm.trans HR2.out), rfl⟩

set_option maxHeartbeats 4000000 in
set_option maxRecDepth 100000 in
theorem byName_end (l : List UInt8) (b off : Nat) (attr : Bool) (w : World) (hl : l.length ≤ 4000000000000000000) :
    Calls Tryz.prog 95 #[.slice (some ⟨b, off, none⟩) l.length l.length, .int .i64 (l.length : Int), .bool attr] w fun e w' => e = .returned (resP (sh l.length (nameM (l.drop l.length) attr))) ∧ w = w' := by
  have hd : l.drop l.length = [] := List.drop_length
  rw [hd, show sh l.length (nameM [] attr) = none from rfl]
  have hm : min ((l.length : Int) + 8) (l.length : Int) = (l.length : Int) := by omega
  have hstr := string_cells (t := []) (b := b) (off := off) (n := 0) (cap := 0) (w := w) (fun j hj => absurd hj (by simp)) rfl
  have hFind := En.find_any [] w (by simp)
  rw [show findL [] = (0, []) from rfl] at hFind
  generalize l.length = n at hl hm ⊢
  go_enter Tryz.func95, Tryz.ntmps95
  go_wp2_with fail
  refine hFind.mono ?_
  rintro e w' ⟨rfl, rfl⟩
  go_wp2
  go_ret3
  exact ⟨rfl, rfl⟩

theorem byName_any (l : List UInt8) (b off cap : Nat) (i : Nat) (x : Int) (attr : Bool) (w : World) (hc : Cells l b off w) (hcap : l.length ≤ cap) (hx : x = (i : Int)) (hi : i ≤ l.length) (hl : l.length ≤ 4000000000000000000) :
    Calls Tryz.prog 95 #[.slice (some ⟨b, off, none⟩) l.length cap, .int .i64 x, .bool attr] w fun e w' => e = .returned (resP (sh i (nameM (l.drop i) attr))) ∧ w = w' := by
  subst hx
  by_cases h : i < cap
  · exact byName_in l b off cap i attr w hc hcap hi h hl
  · obtain rfl : i = l.length := by omega
    obtain rfl : cap = l.length := by omega
    exact byName_end l b off attr w hl
end Go.Proofs.YtndcmapifihgeaaGreatDoor

/- The program's Read: the reference that begins at a byte. -/
namespace Go.Proofs.YtndcmapifihgeaaGreatDoor
open Go.RowKit Go.Lib
open Ch (at0 nx nx_width at0_lt at0_drop enc_len Sl Sl.below Cells ret_two Cells.drop)
open En (findL)

theorem sh_sh (i k : Nat) (o : Option (List UInt8 × Nat)) : sh i (sh k o) = sh (i + k) o := by
  cases o with
  | none => rfl
  | some p => simp [sh, Nat.add_assoc]

theorem rdAt_out {l : List UInt8} {x : Int} {attr : Bool} (h : ¬ (0 ≤ x ∧ x < (l.length : Int))) : rdAt l x attr = none := if_neg h
theorem rdAt_in {l : List UInt8} {i : Nat} {attr : Bool} (h : i < l.length) : rdAt l (i : Int) attr = sh i (rd (l.drop i) attr) := by
  unfold rdAt; rw [if_pos (by omega)]; rfl
theorem rdAt_no {l : List UInt8} {i : Nat} {attr : Bool} (h : at0 l i ≠ 38) : rdAt l (i : Int) attr = none := by
  by_cases hi : i < l.length
  · rw [rdAt_in hi]; unfold rd; rw [drop_at, if_neg h]; rfl
  · exact rdAt_out (by omega)
theorem rdAt_num {l : List UInt8} {i : Nat} {attr : Bool} (h : at0 l i = 38) (h1 : at0 l (i + 1) = 35) : rdAt l (i : Int) attr = sh (i + 2) (numM (l.drop (i + 2))) := by
  rw [rdAt_in (at0_in (by omega))]
  unfold rd
  rw [drop_at, if_pos h, at0_drop, if_pos h1, sh_sh, List.drop_drop]
theorem rdAt_name {l : List UInt8} {i : Nat} {attr : Bool} (h : at0 l i = 38) (h1 : at0 l (i + 1) ≠ 35) : rdAt l (i : Int) attr = sh (i + 1) (nameM (l.drop (i + 1)) attr) := by
  rw [rdAt_in (at0_in (by omega))]
  unfold rd
  rw [drop_at, if_pos h, at0_drop, if_neg h1, sh_sh, List.drop_drop]

set_option maxHeartbeats 4000000 in
set_option maxRecDepth 100000 in
theorem read_any (l : List UInt8) (a : Option Addr) (cap : Nat) (x : Int) (attr : Bool) (w : World) (hs : Sl l a cap w) (hl : l.length ≤ 4000000000000000) (hM : Mv w) :
    Calls Tryz.prog 67 #[.slice a l.length cap, .int .i64 x, .bool attr] w fun e w' => e = .returned (resP (rdAt l x attr)) ∧ w = w' := by
  have hL := look_any l a cap x w hs
  by_cases hx : 0 ≤ x ∧ x < (l.length : Int)
  · obtain ⟨i, rfl⟩ : ∃ i : Nat, x = i := ⟨x.toNat, by omega⟩
    have hi : i < l.length := by omega
    clear hx
    by_cases c1 : at0 l i = 38
    · obtain ⟨hcap, h2 | ⟨b, off, rfl, hc⟩⟩ := hs
      · subst h2; simp at hi
      · have hs : Sl l (some ⟨b, off, none⟩) cap w := ⟨hcap, Or.inr ⟨b, off, rfl, hc⟩⟩
        rw [lookZ_is c1 (by decide) (z := 38) rfl] at hL
        have hL2 := look_at l (some ⟨b, off, none⟩) cap ((i : Int) + 1) ((i + 1 : Nat) : Int) w hs (by omega)
        by_cases c2 : at0 l (i + 1) = 35
        · rw [rdAt_num c1 c2]
          rw [lookZ_is c2 (by decide) (z := 35) rfl] at hL2
          have hi2 := at0_in (m := l) (j := i + 1) (by omega)
          have hN := byNumber_any l (some ⟨b, off, none⟩) cap (i + 2) ((i : Int) + 2) w hs (by omega) (by omega) (by omega) hM
          cases hr : sh (i + 2) (numM (l.drop (i + 2))) with
          | none =>
            rw [hr, resP_none rfl] at hN
            rw [resP_none rfl]
            clear hr c1 c2
            go_enter Tryz.func67, Tryz.ntmps67
            go_wp2_with fail
            refine hL.mono ?_
            rintro e w' ⟨rfl, rfl⟩
            go_wp2_with fail
            refine hL2.mono ?_
            rintro e w' ⟨rfl, rfl⟩
            go_wp2_with fail
            refine hN.mono ?_
            rintro e w' ⟨rfl, rfl⟩
            go_wp2
            go_ret3
            exact ⟨rfl, rfl⟩
          | some p =>
            obtain ⟨s, e⟩ := p
            rw [hr, resP_some rfl rfl] at hN
            rw [resP_some rfl rfl]
            clear hr c1 c2
            go_enter Tryz.func67, Tryz.ntmps67
            go_wp2_with fail
            refine hL.mono ?_
            rintro e w' ⟨rfl, rfl⟩
            go_wp2_with fail
            refine hL2.mono ?_
            rintro e w' ⟨rfl, rfl⟩
            go_wp2_with fail
            refine hN.mono ?_
            rintro e w' ⟨rfl, rfl⟩
            go_wp2
            go_ret3
            exact ⟨rfl, rfl⟩
        · rw [rdAt_name c1 c2]
          have u1 := lookZ_not c2 (by decide) (z := 35) rfl
          have hN := byName_any l b off cap (i + 1) ((i : Int) + 1) attr w hc hcap (by omega) (by omega) (by omega)
          generalize lookZ l ((i + 1 : Nat) : Int) = L at hL2 u1
          cases hr : sh (i + 1) (nameM (l.drop (i + 1)) attr) with
          | none =>
            rw [hr, resP_none rfl] at hN
            rw [resP_none rfl]
            clear hr c1 c2
            go_enter Tryz.func67, Tryz.ntmps67
            go_wp2_with fail
            refine hL.mono ?_
            rintro e w' ⟨rfl, rfl⟩
            go_wp2_with fail
            refine hL2.mono ?_
            rintro e w' ⟨rfl, rfl⟩
            go_wp2_with fail
            refine hN.mono ?_
            rintro e w' ⟨rfl, rfl⟩
            go_wp2
            go_ret3
            exact ⟨rfl, rfl⟩
          | some p =>
            obtain ⟨s, e⟩ := p
            rw [hr, resP_some rfl rfl] at hN
            rw [resP_some rfl rfl]
            clear hr c1 c2
            go_enter Tryz.func67, Tryz.ntmps67
            go_wp2_with fail
            refine hL.mono ?_
            rintro e w' ⟨rfl, rfl⟩
            go_wp2_with fail
            refine hL2.mono ?_
            rintro e w' ⟨rfl, rfl⟩
            go_wp2_with fail
            refine hN.mono ?_
            rintro e w' ⟨rfl, rfl⟩
            go_wp2
            go_ret3
            exact ⟨rfl, rfl⟩
    · rw [rdAt_no c1, resP_none rfl]
      have u1 := lookZ_not c1 (by decide) (z := 38) rfl
      have u2 : (lookZ l (i : Int) != 38) = true := by unfold bne; rw [u1]; rfl
      generalize lookZ l (i : Int) = L at hL u1 u2
      clear c1
      go_enter Tryz.func67, Tryz.ntmps67
      go_wp2_with fail
      refine hL.mono ?_
      rintro e w' ⟨rfl, rfl⟩
      go_wp2
      go_ret3
      exact ⟨rfl, rfl⟩
  · rw [rdAt_out hx, resP_none rfl]
    rw [lookZ_out hx] at hL
    clear hx
    go_enter Tryz.func67, Tryz.ntmps67
    go_wp2_with fail
    refine hL.mono ?_
    rintro e w' ⟨rfl, rfl⟩
    go_wp2
    go_ret3
    exact ⟨rfl, rfl⟩
end Go.Proofs.YtndcmapifihgeaaGreatDoor

/- A builder's WriteString at this program's numbers; the program's tables over a call. -/
namespace Go.Proofs.YtndcmapifihgeaaGreatDoor
open Go.RowKit Go.Lib

theorem strCells_list (l : List UInt8) : strCells ⟨l.toArray⟩ = byteCells l := rfl

set_option maxHeartbeats 4000000 in
set_option maxRecDepth 100000 in
theorem writeString (B b : Nat) (bs : List Value) (l : List UInt8) (w : World) (h : Lib.IsBuilderF 79 5 B b bs w) (hlen : bs.length + l.length ≤ 140737488355328) (hBw : B ≤ w.heap.size) :
    Calls Tryz.prog 68 #[.pointer (some ⟨b, 0, none⟩), .string ⟨l.toArray⟩] w fun e w' => e = .returned (.tuple #[.int .i64 l.length, .nilIface]) ∧ Lib.IsBuilderF 79 5 B b (bs ++ Lib.byteCells l) w' ∧ Below B w w' := by
  obtain ⟨i5, hi5, hp5⟩ := Ch.info5
  simp only [Prod.mk.injEq] at hp5
  obtain ⟨hz5, hsz5, hby5⟩ := hp5
  have HI5 := Lib.hid hi5
  have HZ5 := Lib.hid hz5
  have HS5 := Lib.hid hsz5
  have HB5 := Lib.hid hby5
  clear hi5 hz5 hsz5 hby5
  go_enter Tryz.func68, Tryz.ntmps68
  go_wp2_with fail
  refine (Ch.check_any B b bs _ h).mono ?_
  rintro e w1 ⟨rfl, ⟨hB, v, hbk, hown, hne⟩, hb1⟩
  have hz1 := hb1.size
  have hsize : (⟨l.toArray⟩ : ByteArray).size = l.length := Ch.str_size l
  have hex : ∃ ao cap, v = .slice ao bs.length cap := by
    rcases hown.2 with ⟨hv, h0⟩ | ⟨g, cap, cur, fz, hv, _⟩
    · exact ⟨none, 0, by rw [hv, h0]⟩
    · exact ⟨_, _, hv⟩
  obtain ⟨ao, cap, rfl⟩ := hex
  have c1 : w1.cell? ⟨b, 1, none⟩ = some (.slice ao bs.length cap) := by rw [Lib.cell_of_heap hbk]; rfl
  have hlt : b < w1.heap.size := by
    rcases Nat.lt_or_ge b w1.heap.size with h' | h'
    · exact h'
    · simp [Array.getElem?_eq_none h'] at hbk
  have HBK := Lib.hid hbk
  have HSZ := Lib.hid hsize
  clear hbk hsize
  go_wp2_with (at_builtin; refine Lib.wpList_append_own_stringF _ rfl _ _ 22 9 rfl B 5 i5 Tryz.underlying22 Tryz.underlying9 HI5.out HZ5.out HS5.out HB5.out _ _ _ rfl hown ⟨l.toArray⟩ rfl ?c3 ?c4 ?c5 ?_)
  case c3 => unfold maxLen; first | omega | (rw [HSZ.out]; omega)
  case c4 => first | omega | (rw [HSZ.out]; omega)
  case c5 => omega
  intro v' w2 hown' hgrow _
  rw [strCells_list] at hown'
  have hb2 : w2.heap[b]? = some (.cells #[.pointer (some ⟨b, 0, none⟩), .slice ao bs.length cap] 79 (0, 0)) := by
    rw [hgrow.block b hlt (fun e => hne e.symm)]
    exact HBK.out
  have d1 : w2.cell? ⟨b, 1, none⟩ = some (.slice ao bs.length cap) := by rw [Lib.cell_of_heap hb2]; rfl
  have f1 : w2.frozen? ⟨b, 1, none⟩ = false := Lib.frozen_of_heap hb2 1
  obtain ⟨ao', n', cap', rfl⟩ : ∃ ao n' cap, v' = .slice ao n' cap := by
    rcases hown'.2 with ⟨hv, _⟩ | ⟨g, cap, cur, fz, hv, _⟩
    · exact ⟨_, _, _, hv⟩
    · exact ⟨_, _, _, hv⟩
  have HB2 := Lib.hid hb2
  clear hb2
  go_wp2
  go_ret2
  refine ⟨?_, Or.inr ?_, ?_⟩
  · first | rfl | (rw [HSZ.out])
  · exact Lib.BuilderAtF.put (T := 79) (e := 5) hB HB2.out (bs' := bs ++ Lib.byteCells l) (by simpa [Lib.byteCells_length] using hown') (by decide)
  · exact (hb1.grown hgrow (by omega) (fun k hk => (hown.lt k hk).1)).setCell (p := ⟨b, 1, none⟩) hB _

/-- the tables that are read -/
def Tb (w : World) : Prop := Lib.Utf8Tabs 0 1 w ∧ Mv w

theorem Mv.below {w w' : World} (h : Mv w) (hb : Below w.heap.size w w') : Mv w' := fun i hi => (hb.cell (Ch.cell_lt (h i hi))).trans (h i hi)
theorem Tb.below {w w' : World} (h : Tb w) (hb : Below w.heap.size w w') : Tb w' := ⟨Ch.Tabs_below h.1 hb, h.2.below hb⟩
end Go.Proofs.YtndcmapifihgeaaGreatDoor

/- The program's Text: the text of bytes, their references read. -/
namespace Go.Proofs.YtndcmapifihgeaaGreatDoor
open Go.RowKit Go.Lib
open Ch (at0 nx nx_width nx_range at0_lt at0_drop enc_len Sl Sl.below Cells ret_two Cells.drop ret_str nxAt nxAt_in next_any writeRune IsBuilderF_below)

/-- where the loop stands -/
def TxRel (attr : Bool) (m : List UInt8) (w : World) (v : Value) (wr : World) : Prop :=
  ∃ (j : Nat) (acc : List UInt8), v = .int .i64 (j : Int) ∧ j ≤ m.length ∧ Lib.IsBuilderF 79 5 w.heap.size w.heap.size (Lib.byteCells acc) wr ∧ Below w.heap.size w wr ∧ acc ++ txt attr (m.drop j) = txt attr m

theorem drop_ne {m : List UInt8} {j : Nat} (h : j < m.length) : m.drop j ≠ [] := by
  intro e; have := congrArg List.length e; simp at this; omega

theorem txt_acc {attr : Bool} {m acc : List UInt8} {j : Nat} (h : acc ++ txt attr (m.drop j) = txt attr m) : acc.length ≤ 5 * m.length := by
  have := txt_len attr m.length m (Nat.le_refl _)
  rw [← h] at this
  simp at this
  omega

set_option maxHeartbeats 4000000 in
set_option maxRecDepth 100000 in
theorem text_in (l : List UInt8) (b off cap : Nat) (i n : Nat) (attr : Bool) (w : World) (hc : Cells l b off w) (hcap : l.length ≤ cap) (hin : i + n ≤ l.length) (hn : 0 < n) (hT : Tb w) (hl : l.length ≤ 1000000) :
    Calls Tryz.prog 48 #[.slice (some ⟨b, off, none⟩) l.length cap, .int .i64 (i : Int), .int .i64 ((i : Int) + (n : Int)), .bool attr] w fun e w' => e = .returned (.string ⟨(txt attr ((l.drop i).take n)).toArray⟩) ∧ Below w.heap.size w w' := by
  obtain ⟨m, hm⟩ : ∃ m, (l.drop i).take n = m := ⟨_, rfl⟩
  have hml : m.length = n := by rw [← hm]; simp; omega
  have hmc : Cells m b (off + i) w := by rw [← hm]; exact Cells.take (hc.drop i) n
  have hms : Sl m (some ⟨b, off + i, none⟩) (cap - i) w := ⟨by omega, Or.inr ⟨b, off + i, rfl, hmc⟩⟩
  rw [hm]
  clear hm hmc hc
  have e1 : max (i : Int) 0 = (i : Int) := by omega
  have e2 : min ((i : Int) + (n : Int)) (l.length : Int) = (i : Int) + (n : Int) := by omega
  have e3 : ¬ ((i : Int) + (n : Int) ≤ (i : Int)) := by omega
  have e4 : i < cap := by omega
  have HML := Lib.hid hml
  have hn1 : n ≤ 1000000 := by omega
  go_enter Tryz.func48, Tryz.ntmps48
  go_wp2
  go_loopw [11] (fun v wr => TxRel attr m w v wr) (fun v _ => ((n : Int) - RowKit.intOf v).toNat)
  case atStart => exact ⟨0, [], rfl, by omega, Lib.IsBuilderF.of (Lib.fresh_isBuilder 79 5 w), (Below.refl _ w).alloc (Nat.le_refl _) _, rfl⟩
  case round =>
    obtain ⟨j, acc, rfl, hj, hI, hbw, hacc⟩ := hrel
    have hsz := hbw.size
    have hal := txt_acc hacc
    have HACC := Lib.hid hacc
    clear hacc
    have hsr := hms.below hbw
    have hTr := hT.below hbw
    by_cases hlt : j < n
    · have hlt' : (j : Int) < (n : Int) := by omega
      have hjm : j < m.length := by omega
      have hR := read_any m (some ⟨b, off + i, none⟩) (cap - i) (j : Int) attr wr hsr (by omega) hTr.2
      rw [rdAt_in hjm, HML.out] at hR
      have hne := drop_ne hjm
      cases hr : rd (m.drop j) attr with
      | none =>
        rw [hr, show sh j none = none from rfl, resP_none rfl] at hR
        have hst := Lib.hid (txt_char hne hr)
        have hN := next_any m (some ⟨b, off + i, none⟩) (cap - i) (j : Int) wr hsr hTr.1
        rw [nxAt_in hjm, HML.out] at hN
        have hw := nx_width _ hne
        have hrg := nx_range (m.drop j)
        rw [List.drop_drop] at hst
        simp only [List.length_drop] at hw
        clear hne hr
        generalize nx (m.drop j) = R at hN hw hrg hst
        obtain ⟨c, k⟩ := R
        simp only at hw hrg hst hN
        go_wp2_with fail
        refine hR.mono ?_
        rintro e w1 ⟨rfl, rfl⟩
        go_wp2_with fail
        refine hN.mono ?_
        rintro e w2 ⟨rfl, hb2⟩
        go_wp2_with fail
        refine (writeRune w.heap.size w.heap.size _ (c : Int) (by omega) (by omega) w2 (IsBuilderF_below hI hb2) (by rw [Lib.byteCells_length]; omega) (by have := hb2.size; omega)).mono ?_
        rintro e w3 ⟨rfl, hI3, hb3⟩
        go_wp2
        go_roundw
        case rel =>
          refine ⟨j + k, acc ++ encodeRune (c : Int), by go_num, by omega, ?_, ?_, ?_⟩
          · rw [Lib.byteCells_append, Lib.byteCells_encodeRune]; exact hI3
          · exact (hbw.trans (hb2.mono (by omega))).trans hb3
          · rw [List.append_assoc, ← hst.out]; exact HACC.out
        case measure => simp [RowKit.intOf]; omega
      | some p =>
        obtain ⟨s, e⟩ := p
        have hbd := rd_bd hr
        rw [hr, show sh j (some (s, e)) = some (s, j + e) from rfl, resP_some rfl rfl] at hR
        have hst := Lib.hid (txt_ref hr)
        rw [List.drop_drop] at hst
        simp only [List.length_drop] at hbd
        clear hne hr
        go_wp2_with fail
        refine hR.mono ?_
        rintro e1 w1 ⟨rfl, rfl⟩
        go_wp2_with fail
        refine (writeString w.heap.size w.heap.size _ s wr hI (by rw [Lib.byteCells_length]; omega) (by omega)).mono ?_
        rintro e2 w2 ⟨rfl, hI2, hb2⟩
        go_wp2
        go_roundw
        case rel =>
          refine ⟨j + e, acc ++ s, by go_num, by omega, ?_, ?_, ?_⟩
          · rw [Lib.byteCells_append]; exact hI2
          · exact hbw.trans hb2
          · rw [List.append_assoc, ← hst.out]; exact HACC.out
        case measure => simp [RowKit.intOf]; omega
    · have hlt' : ¬ (j : Int) < (n : Int) := by omega
      have hend := Lib.hid (show acc = txt attr m by
        have := HACC.out
        rw [List.drop_of_length_le (by omega), txt_nil, List.append_nil] at this
        exact this)
      clear hlt
      go_wp2_with fail
      refine (Tryz.Builder_String_any_k w.heap.size w.heap.size acc wr hI (by omega)).mono ?_
      rintro e w2 ⟨rfl, _, hb2, _⟩
      go_wp2
      go_ret
      exact ⟨ret_str (l := acc) hend.out, hbw.trans hb2⟩

set_option maxHeartbeats 1000000 in
set_option maxRecDepth 100000 in
theorem text_none (len : Nat) (a : Option Addr) (cap i : Nat) (attr : Bool) (w : World) (hin : i ≤ len) (_hl : len ≤ 1000000) :
    Calls Tryz.prog 48 #[.slice a len cap, .int .i64 (i : Int), .int .i64 (i : Int), .bool attr] w fun e w' => e = .returned (.string ⟨#[]⟩) ∧ Below w.heap.size w w' := by
  have e1 : max (i : Int) 0 = (i : Int) := by omega
  have e2 : min (i : Int) (len : Int) = (i : Int) := by omega
  go_enter Tryz.func48, Tryz.ntmps48
  go_wp2
  go_ret
  exact ⟨rfl, Below.refl _ _⟩

theorem text_any (l : List UInt8) (a : Option Addr) (cap : Nat) (i n : Nat) (x y : Int) (attr : Bool) (w : World) (hs : Sl l a cap w) (hx : x = (i : Int)) (hy : y = (i : Int) + (n : Int)) (hin : i + n ≤ l.length) (hT : Tb w) (hl : l.length ≤ 1000000) :
    Calls Tryz.prog 48 #[.slice a l.length cap, .int .i64 x, .int .i64 y, .bool attr] w fun e w' => e = .returned (.string ⟨(txt attr ((l.drop i).take n)).toArray⟩) ∧ Below w.heap.size w w' := by
  subst hx hy
  by_cases hn : 0 < n
  · obtain ⟨hcap, h2 | ⟨b, off, rfl, hc⟩⟩ := hs
    · subst h2; simp at hin; omega
    · exact text_in l b off cap i n attr w hc hcap hin hn hT hl
  · obtain rfl : n = 0 := by omega
    have := text_none l.length a cap i attr w (by omega) hl
    simpa [txt_nil] using this
end Go.Proofs.YtndcmapifihgeaaGreatDoor

/- The document's example, and the law RefPoints. -/
namespace Go.Proofs.YtndcmapifihgeaaGreatDoor
open Go.RowKit Go.Lib
open Ch (at0 nx nx_width nx_range at0_lt at0_drop enc_len Sl Sl.below Cells ret_bool)

def exA : List UInt8 := [38, 108, 116, 59, 98, 32, 38, 35, 51, 51]
def exB : List UInt8 := [38, 99, 111, 112, 121, 61, 49]
set_option maxRecDepth 100000 in
theorem exA_txt : txt false exA = [60, 98, 32, 33] := by decide +kernel
set_option maxRecDepth 100000 in
theorem exB_txt : txt true exB = [38, 99, 111, 112, 121, 61, 49] := by decide +kernel

theorem row_cell' (w : World) (t : TypeId) (i : Nat) (v : Value) (cs : Array Value) (fr : Nat × Nat) (h : cs[i]? = some v) : (w.alloc (.cells cs t fr)).cell? ⟨w.heap.size, i, none⟩ = some v := by
  simp [World.cell?, World.alloc, -World.alloc_eq]
  exact h

/-- a constant as a slice of bytes: a new row with its mark -/
theorem sl_const (l : List UInt8) (w : World) (cs : Array Value) (n : Nat) (h : cs = (byteCells l).toArray) (hn : l.length = n) :
    Sl l (some ⟨w.heap.size, 0, none⟩) n (w.alloc (.cells cs 5 (n, n + 1))) ∧ Below w.heap.size w (w.alloc (.cells cs 5 (n, n + 1))) ∧ (w.alloc (.cells cs 5 (n, n + 1))).heap.size = w.heap.size + 1 ∧
      (convert 22 22 (.slice (some ⟨w.heap.size, 0, none⟩) n n)).run Tryz.prog (w.alloc (.cells cs 5)) = .ok (.slice (some ⟨w.heap.size, 0, none⟩) n n) (w.alloc (.cells cs 5 (n, n + 1))) := by
  have hsz : cs.size = n := by rw [h, ← hn]; simp [byteCells]
  refine ⟨⟨by omega, Or.inr ⟨w.heap.size, 0, rfl, fun j hj => ?_⟩⟩, (Below.refl _ w).alloc (Nat.le_refl _) _, by simp, ?_⟩
  · rw [Nat.zero_add]
    apply row_cell'
    rw [h]
    simp [byteCells, at0, List.getD_eq_getElem?_getD, List.getElem?_eq_getElem hj]
  · have := Lib.run_convert_bytes_const (P := Tryz.prog) w 22 5 cs n n Tryz.underlying22 Tryz.underlying5
    rw [hsz] at this
    exact this

def PtRel (w : World) (v : Value) (wr : World) : Prop := ∃ z : Int, v = .int .i64 z ∧ -1 ≤ z ∧ z ≤ 300 ∧ Below w.heap.size w wr

end Go.Proofs.YtndcmapifihgeaaGreatDoor
