/- The law EntityNames, walked. -/
import Derived.Test.YtcfljaajhkifmaaDoorRFind
import Derived.Test.YtcfljaajhkifmaaDoorLess
import Derived.Test.YtcfljaajhkifmaaDoorLPrefix
namespace Go.Proofs.YtcfljaajhkifmaaDoor
open Go.RowKit Go.Lib

/-- how many names so many entries have -/
def cntT (i : Nat) : Nat := ((tabL.take i).map fun e => if e.2.1 = true then 2 else 1).sum

theorem cnt_snoc (i : Nat) (h : i < 43) : cntT (i + 1) = cntT i + if (tabE i).2.1 = true then 2 else 1 := by
  have hi : i < tabL.length := h
  unfold cntT
  rw [List.take_succ_eq_append_getElem hi, List.map_append, List.sum_append]
  unfold tabE
  rw [List.getD_eq_getElem?_getD, List.getElem?_eq_getElem hi]
  simp

theorem cnt_le (i : Nat) (h : i ≤ 43) : cntT i ≤ 86 := by
  have : ∀ i, i < 44 → cntT i ≤ 86 := by decide
  exact this i (by omega)

def L1Rel (B : Nat) (w : World) (v3 v20 : Value) (wr : World) : Prop :=
  ∃ i : Nat, v20 = .int .i64 i ∧ v3 = .int .i64 (cntT i : Int) ∧ i ≤ 43 ∧ Tab B wr ∧ Below w.heap.size w wr

def L2Rel (o : List UInt8) (g cap : Nat) (B : Nat) (w : World) (v7 v38 : Value) (wr : World) : Prop :=
  ∃ (i : Nat) (b : Bool), v38 = .int .i64 i ∧ v7 = .bool b ∧ i ≤ 61 ∧ (b = true → o ∈ nameL) ∧ wr.ownsRow B 9 1 (.slice (some ⟨g, 0, none⟩) 61 cap) 61 (strs nameL) ∧ Below w.heap.size w wr

set_option maxHeartbeats 4000000 in
set_option maxRecDepth 100000 in
theorem entityNames_walk (o : List UInt8) (w : World) (ho : o.length ≤ 9223372036854775807) (ht : Lib.TabIs Tryd.prog w "strings.asciiSpace" .u8 Lib.asciiSpaceTab) :
    Calls Tryd.prog 3 #[.string ⟨o.toArray⟩] w fun e w' => e = .returned (.bool true) ∧ Below w.heap.size w w' := by
  have HTB := Lib.hid (tabBelow_of_tabIs ht)
  clear ht
  go_enter Tryd.func3, Tryd.ntmps3
  go_wp2_with fail
  refine (speaks_any w).mono ?_
  rintro e w1 ⟨rfl, rfl⟩
  go_wp2_with fail
  refine (table_any w).mono ?_
  rintro e w1 ⟨rfl, hT, hb1⟩
  have HT := Lib.hid hT
  have HB1 := Lib.hid hb1
  clear hT hb1
  go_wp2
  go_loopw [3, 20] (fun v3 v20 wr => L1Rel w.heap.size w v3 v20 wr) (fun _ v20 _ => (43 - RowKit.intOf v20).toNat)
  case atStart => exact ⟨0, rfl, rfl, by omega, HT.out, HB1.out⟩
  case round =>
    clear HT HB1
    obtain ⟨i, rfl, rfl, hi43, hT, hbw⟩ := hrel
    have hcl := cnt_le i hi43
    by_cases hi : i < 43
    · have hi' : (i : Int) < 43 := by omega
      have c1 := hT.nm i hi
      have c2 := hT.al i hi
      have c3 := hT.cs i hi
      have HC := Lib.hid (cnt_snoc i hi)
      have HT := Lib.hid hT
      have HBW := Lib.hid hbw
      clear hT hbw
      generalize tabE i = E at c1 c2 c3 HC
      obtain ⟨nm, al, cs⟩ := E
      simp only at c1 c2 c3 HC
      generalize cntT i = m at hcl HC
      cases al
      · have hb2 : Below wr.heap.size wr (wr.alloc (.cells #[.string ⟨nm.toArray⟩, .bool false, .slice (some ⟨w.heap.size + i, 0, none⟩) cs.length cs.length] 27)) := (Below.refl _ wr).alloc (Nat.le_refl _) _
        have HB2 := Lib.hid hb2
        clear hb2
        go_wp2
        go_roundw
        case rel => exact ⟨i + 1, by go_num, by rw [HC.out]; go_num, by omega, HT.out.below HB2.out, HBW.out.trans (HB2.out.mono HBW.out.size)⟩
        case measure => simp [RowKit.intOf]; omega
      · have hb2 : Below wr.heap.size wr (wr.alloc (.cells #[.string ⟨nm.toArray⟩, .bool true, .slice (some ⟨w.heap.size + i, 0, none⟩) cs.length cs.length] 27)) := (Below.refl _ wr).alloc (Nat.le_refl _) _
        have HB2 := Lib.hid hb2
        clear hb2
        go_wp2
        go_roundw
        case rel => exact ⟨i + 1, by go_num, by rw [HC.out]; go_num, by omega, HT.out.below HB2.out, HBW.out.trans (HB2.out.mono HBW.out.size)⟩
        case measure => simp [RowKit.intOf]; omega
    · have hi' : ¬ (i : Int) < 43 := by omega
      obtain rfl : i = 43 := by omega
      rw [show cntT 43 = 61 by decide]
      have cN := names_any wr (HTB.out wr hbw)
      clear hT hcl
      have HBW := Lib.hid hbw
      clear hbw
      go_wp2_with fail
      refine cN.mono ?_
      rintro e w2 ⟨g, cap, rfl, hown, hb2⟩
      have HO := Lib.hid hown
      have HB2 := Lib.hid (HBW.out.trans (hb2.mono HBW.out.size))
      clear hown hb2 HBW HTB cN
      generalize wr.heap.size = B2 at HO
      go_wp2
      go_loopw [7, 38] (fun v7 v38 wx => L2Rel o g cap B2 w v7 v38 wx) (fun _ v38 _ => (61 - RowKit.intOf v38).toNat)
      case atStart => exact ⟨0, false, rfl, rfl, by omega, by simp, HO.out, HB2.out⟩
      case round =>
        clear HO HB2
        obtain ⟨i, b, rfl, rfl, hi61, hb, hown, hbw⟩ := hrel
        have HBM := Lib.hid hb
        clear hb
        by_cases hi : i < 61
        · have hi1 : (i : Int) < 61 := by omega
          have cx := name_cell hown i hi
          have hmem := name_at i hi
          obtain ⟨f1, -, f3, f4⟩ := name_facts hmem
          have HMEM := Lib.hid hmem
          have HO := Lib.hid hown
          have HBW := Lib.hid hbw
          clear hmem hown hbw
          cases i with
          | zero =>
            generalize nameL.getD 0 [] = x at cx f1 f3 f4 HMEM
            have c1 := find_any x wr (by omega)
            have c2 := rfind_any x wr
            rw [ref_find] at c2
            rw [f1] at c1 c2
            generalize mean x = M at c1 c2
            simp only at c1 c2
            have h8 : ¬ ((8 : Int) < (x.length : Int)) := by omega
            clear f1
            cases b
            · cases hxo : (x == o)
              · go_wp2_with fail
                refine c1.mono ?_
                rintro e w' ⟨rfl, rfl⟩
                go_wp2_with fail
                refine c2.mono ?_
                rintro e w3 ⟨rfl, hb3⟩
                have HO2 := Lib.hid (ownsRow_below HO.out hb3)
                have HB2 := Lib.hid (HBW.out.trans (hb3.mono HBW.out.size))
                clear hb3
                go_wp2
                go_roundw
                case rel => exact ⟨1, false, by go_num, by first | rfl | simp, by omega, (fun h => absurd h (by simp)), HO2.out, HB2.out⟩
                case measure => simp [RowKit.intOf]
              · go_wp2_with fail
                refine c1.mono ?_
                rintro e w' ⟨rfl, rfl⟩
                go_wp2_with fail
                refine c2.mono ?_
                rintro e w3 ⟨rfl, hb3⟩
                have HO2 := Lib.hid (ownsRow_below HO.out hb3)
                have HB2 := Lib.hid (HBW.out.trans (hb3.mono HBW.out.size))
                clear hb3
                go_wp2
                go_roundw
                case rel => exact ⟨1, true, by go_num, by first | rfl | simp, by omega, (fun _ => (beq_iff_eq.1 hxo) ▸ HMEM.out), HO2.out, HB2.out⟩
                case measure => simp [RowKit.intOf]
            · go_wp2_with fail
              refine c1.mono ?_
              rintro e w' ⟨rfl, rfl⟩
              go_wp2_with fail
              refine c2.mono ?_
              rintro e w3 ⟨rfl, hb3⟩
              have HO2 := Lib.hid (ownsRow_below HO.out hb3)
              have HB2 := Lib.hid (HBW.out.trans (hb3.mono HBW.out.size))
              clear hb3
              go_wp2
              go_roundw
              case rel => exact ⟨1, true, by go_num, by first | rfl | simp, by omega, (fun _ => HBM.out (by simp)), HO2.out, HB2.out⟩
              case measure => simp [RowKit.intOf]
          | succ j =>
            have hL := names_rise j (by omega)
            have hLy := (name_facts (name_at j (by omega))).2.2.1
            generalize nameL.getD (j + 1) [] = x at cx f1 f3 f4 HMEM hL
            have c1 := find_any x wr (by omega)
            have c2 := rfind_any x wr
            rw [ref_find] at c2
            rw [f1] at c1 c2
            generalize mean x = M at c1 c2
            simp only at c1 c2
            have h8 : ¬ ((8 : Int) < (x.length : Int)) := by omega
            have hj0 : (0 : Int) < ((j + 1 : Nat) : Int) := by omega
            have hj1 : ((j + 1 : Nat) : Int) - 1 = (j : Int) := by omega
            have hj2 : (j : Int) < 61 := by omega
            clear f1
            cases b
            · cases hxo : (x == o)
              · go_wp2_with fail
                refine c1.mono ?_
                rintro e w' ⟨rfl, rfl⟩
                go_wp2_with fail
                refine c2.mono ?_
                rintro e w3 ⟨rfl, hb3⟩
                have HO3 := Lib.hid (ownsRow_below HO.out hb3)
                have HB3 := Lib.hid (HBW.out.trans (hb3.mono HBW.out.size))
                have cy := name_cell HO3.out j (by omega)
                have cL := less_any (nameL.getD j []) x w3 (by omega) (by omega)
                rw [hL] at cL
                clear hb3
                generalize nameL.getD j [] = y at cy cL
                go_wp2_with fail
                refine cL.mono ?_
                rintro e w4 ⟨rfl, hb4⟩
                have HO2 := Lib.hid (ownsRow_below HO3.out hb4)
                have HB2 := Lib.hid (HB3.out.trans (hb4.mono HB3.out.size))
                clear hb4
                go_wp2
                go_roundw
                case rel => exact ⟨j + 2, false, by go_num, by first | rfl | simp, by omega, (fun h => absurd h (by simp)), HO2.out, HB2.out⟩
                case measure => simp [RowKit.intOf]; omega
              · go_wp2_with fail
                refine c1.mono ?_
                rintro e w' ⟨rfl, rfl⟩
                go_wp2_with fail
                refine c2.mono ?_
                rintro e w3 ⟨rfl, hb3⟩
                have HO3 := Lib.hid (ownsRow_below HO.out hb3)
                have HB3 := Lib.hid (HBW.out.trans (hb3.mono HBW.out.size))
                have cy := name_cell HO3.out j (by omega)
                have cL := less_any (nameL.getD j []) x w3 (by omega) (by omega)
                rw [hL] at cL
                clear hb3
                generalize nameL.getD j [] = y at cy cL
                go_wp2_with fail
                refine cL.mono ?_
                rintro e w4 ⟨rfl, hb4⟩
                have HO2 := Lib.hid (ownsRow_below HO3.out hb4)
                have HB2 := Lib.hid (HB3.out.trans (hb4.mono HB3.out.size))
                clear hb4
                go_wp2
                go_roundw
                case rel => exact ⟨j + 2, true, by go_num, by first | rfl | simp, by omega, (fun _ => (beq_iff_eq.1 hxo) ▸ HMEM.out), HO2.out, HB2.out⟩
                case measure => simp [RowKit.intOf]; omega
            · go_wp2_with fail
              refine c1.mono ?_
              rintro e w' ⟨rfl, rfl⟩
              go_wp2_with fail
              refine c2.mono ?_
              rintro e w3 ⟨rfl, hb3⟩
              have HO3 := Lib.hid (ownsRow_below HO.out hb3)
              have HB3 := Lib.hid (HBW.out.trans (hb3.mono HBW.out.size))
              have cy := name_cell HO3.out j (by omega)
              have cL := less_any (nameL.getD j []) x w3 (by omega) (by omega)
              rw [hL] at cL
              clear hb3
              generalize nameL.getD j [] = y at cy cL
              go_wp2_with fail
              refine cL.mono ?_
              rintro e w4 ⟨rfl, hb4⟩
              have HO2 := Lib.hid (ownsRow_below HO3.out hb4)
              have HB2 := Lib.hid (HB3.out.trans (hb4.mono HB3.out.size))
              clear hb4
              go_wp2
              go_roundw
              case rel => exact ⟨j + 2, true, by go_num, by first | rfl | simp, by omega, (fun _ => HBM.out (by simp)), HO2.out, HB2.out⟩
              case measure => simp [RowKit.intOf]; omega
        · have hi1 : ¬ (i : Int) < 61 := by omega
          have c1 := find_any o wr ho
          have HBW := Lib.hid hbw
          clear hown hbw
          cases b
          · generalize findL o = q at c1
            obtain ⟨n, M⟩ := q
            simp only at c1
            go_wp2_with fail
            refine c1.mono ?_
            rintro e w' ⟨rfl, rfl⟩
            go_wp2
            go_ret
            exact ⟨rfl, HBW.out⟩
          · rw [(name_facts (HBM.out rfl)).1] at c1
            generalize mean o = M at c1
            simp only at c1
            go_wp2_with fail
            refine c1.mono ?_
            rintro e w' ⟨rfl, rfl⟩
            go_wp2
            go_ret
            exact ⟨rfl, HBW.out⟩
end Go.Proofs.YtcfljaajhkifmaaDoor
