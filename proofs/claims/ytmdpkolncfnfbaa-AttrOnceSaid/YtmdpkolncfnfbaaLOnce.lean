/- The law AttrOnce, walked. -/
import Derived.Test.YtmdpkolncfnfbaaSeen
import Derived.Test.YtmdpkolncfnfbaaLSames
namespace Go.Proofs.Ytmdpkolncfnfbaa
open Go.RowKit Go.Lib

set_option maxHeartbeats 1000000 in
set_option maxRecDepth 100000 in
theorem attrOnce_long (N : Nat) (a : Option Addr) (cap : Nat) (w : World) (h : 30 < N) :
    Calls Try.prog 5 #[.slice a N cap] w fun e w' => e = .returned (.bool true) ∧ Below w.heap.size w w' := by
  have h1 : (30 : Int) < (N : Int) := by omega
  go_enter Try.func5, Try.ntmps5
  go_wp2_with fail
  refine (speaks_any _).mono ?_
  rintro e w1 ⟨rfl, hb1⟩
  go_wp2_with fail
  refine (speaks_any w1).mono ?_
  rintro e w2 ⟨rfl, hb2⟩
  go_wp2
  go_ret
  exact ⟨rfl, below_trans hb1 hb2⟩

/-- where the first loop stands -/
def ORel (L : List At) (w1 : World) (v3 v4 v23 : Value) (wr : World) : Prop :=
  ∃ k : Nat, v23 = .int .i64 k ∧ k ≤ L.length ∧ wr.ownsRow w1.heap.size 34 2 v3 (ads (L.take k)).length (cellsA (ads (L.take k))) ∧
    wr.ownsRow w1.heap.size 34 2 v4 (ads (L.reverse.take k)).length (cellsA (ads (L.reverse.take k))) ∧ Below w1.heap.size w1 wr

/-- where the second loop stands -/
def MRel (L : List At) (wL : World) (v : Value) (wr : World) : Prop :=
  ∃ k : Nat, v = .int .i64 k ∧ k ≤ (ads L).length ∧ Seen (names ((ads L).take k)) wL.heap.size k wr ∧ (wL.alloc (.map #[] 0)).grownBy wr (some wL.heap.size)

theorem names_take {M : List At} {k : Nat} (h : k < M.length) : names (M.take (k + 1)) = names (M.take k) ++ [(at0 M k).1] := by rw [take_snoc h, names_append]; rfl
theorem nodup_take {M : List At} {k : Nat} (hn : (names M).Nodup) (h : k < M.length) : (at0 M k).1 ∉ names (M.take k) := by
  have e : names (M.take (k + 1)) = (names M).take (k + 1) := by unfold names; rw [List.map_take]
  have h1 : (names (M.take (k + 1))).Nodup := by rw [e]; exact List.Pairwise.sublist (List.take_sublist _ _) hn
  rw [names_take h, List.nodup_append] at h1
  intro hm
  exact h1.2.2 _ hm _ (by simp) rfl

set_option maxHeartbeats 8000000 in
set_option maxRecDepth 100000 in
theorem attrOnce_walk (L : List At) (a : Option Addr) (cap : Nat) (w : World) (hs : Sl L a cap w) (hn : ∀ x, x ∈ L → x.1.length ≤ maxLen) (hl : L.length ≤ 30) :
    Calls Try.prog 5 #[.slice a L.length cap] w fun e w' => e = .returned (.bool true) ∧ Below w.heap.size w w' := by
  have h1 : ¬ (30 : Int) < (L.length : Int) := by omega
  have HN := Lib.hid hn
  have HS := Lib.hid hs
  clear hn hs
  have hmm := @run_makeMap Try.prog
  go_enter Try.func5, Try.ntmps5
  go_wp2_with fail
  refine (speaks_any _).mono ?_
  rintro e w1 ⟨rfl, hb1⟩
  have HS1 := Lib.hid (HS.out.below hb1)
  have HB1 := Lib.hid hb1
  clear hb1 HS
  go_wp2
  go_loopw [3, 4, 23] (fun v3 v4 v23 wr => ORel L w1 v3 v4 v23 wr) (fun _ _ v _ => L.length - (RowKit.intOf v).toNat)
  case atStart => exact ⟨0, rfl, by omega, World.ownsRow_nil _ _ _ _, World.ownsRow_nil _ _ _ _, Below.refl _ _⟩
  case round =>
    obtain ⟨k, rfl, hk, hown3, hown4, hbw⟩ := hrel
    by_cases hlt : k < L.length
    · obtain ⟨hcap, hnil, h0 | ⟨b, off, rfl, hc⟩⟩ := HS1.out.below hbw
      · subst h0; simp at hlt
      · obtain ⟨c1, c2⟩ := hc k hlt
        have k1 : (k : Int) < (L.length : Int) := by omega
        have HT := Lib.hid (ads_take hlt)
        have HT2 := Lib.hid (ads_take_rev hlt)
        have q3 := ads_take_le (L := L) (k := k) (by omega)
        have q4 := ads_take_rev_le (L := L) (k := k) (by omega)
        obtain ⟨j, hj⟩ : ∃ j, L.length - 1 - k = j := ⟨_, rfl⟩
        have hjl : j < L.length := by omega
        have hidx : (L.length : Int) - 1 - (k : Int) = (j : Int) := by omega
        rw [hj] at HT2
        clear hj
        obtain ⟨⟨x1, x2⟩, hx⟩ : ∃ x, at0 L k = x := ⟨_, rfl⟩
        obtain ⟨⟨y1, y2⟩, hy⟩ : ∃ x, at0 L j = x := ⟨_, rfl⟩
        rw [hx] at c1 c2 HT
        rw [hy] at HT2
        simp only at c1 c2
        obtain ⟨a3, cap3, rfl, hs3⟩ := sl_own hown3
        obtain ⟨a4, cap4, rfl, hs4⟩ := sl_own hown4
        have cA := add_any (ads (L.take k)) a3 cap3 (x1, x2) wr hs3 (by omega)
        have HO4 := Lib.hid hown4
        have HBW := Lib.hid hbw
        have hzr := hbw.size
        have HC := Lib.hid hc
        have HY := Lib.hid hy
        have kj : (j : Int) < (L.length : Int) := by omega
        clear hnil hc hx hy hs3 hs4 hown3 hown4 hbw
        go_wp2_with fail
        refine cA.mono ?_
        rintro e w2 ⟨v2, rfl, hown2, hb2⟩
        obtain ⟨d1, d2⟩ := (HC.out.below hb2) j hjl
        rw [HY.out] at d1 d2
        simp only at d1 d2
        have hown4' := ownsRow_below HO4.out hb2
        have cB := add_any (ads (L.reverse.take k)) a4 cap4 (y1, y2) w2 (sl_of hown4') (by omega)
        have HO2 := Lib.hid hown2
        have HB2 := Lib.hid (HBW.out.trans (hb2.mono HBW.out.size))
        clear cA hown2 hb2 hown4' HO4 HBW HC HY
        go_wp2_with fail
        refine cB.mono ?_
        rintro e w3 ⟨v3, rfl, hown3, hb3⟩
        have HO3 := Lib.hid (ownsRow_base hown3 HB2.out.size)
        have HO2' := Lib.hid (ownsRow_base (ownsRow_below HO2.out hb3) (B := w1.heap.size) (by omega))
        have HB3 := Lib.hid (HB2.out.trans (hb3.mono HB2.out.size))
        clear cB hown3 hb3
        go_wp2
        go_roundw
        case rel => exact ⟨k + 1, by go_num, by omega, by rw [HT.out]; exact HO2'.out, by rw [HT2.out]; exact HO3.out, HB3.out⟩
        case measure => simp [RowKit.intOf]; omega
    · have k1 : ¬ ((k : Int) < (L.length : Int)) := by omega
      obtain rfl : k = L.length := by omega
      have hr : L.reverse.take L.length = L.reverse := List.take_of_length_le (by simp)
      rw [List.take_length] at hown3
      rw [hr] at hown4
      clear hr
      obtain ⟨a3, cap3, rfl, -⟩ := sl_own hown3
      obtain ⟨a4, cap4, rfl, -⟩ := sl_own hown4
      have HO3 := Lib.hid hown3
      have HO4 := Lib.hid hown4
      have HBL := Lib.hid hbw
      have q3 := ads_le L
      have q4 := ads_rev L
      have h34 : (((ads L).length : Int) == ((ads L.reverse).length : Int)) = true := by simp [q4]
      have q5 : (ads L.reverse).length ≤ 30 := by omega
      have HQ4 := Lib.hid q4
      clear hown3 hown4 hbw q4
      generalize wr = wL at HO3 HO4 HBL ⊢
      go_wp2
      go_loopw [46] (fun v wr => MRel L wL v wr) (fun v _ => (ads L).length - (RowKit.intOf v).toNat)
      case atStart => exact ⟨0, rfl, by omega, seen_made wL, grown_refl _ _⟩
      case round =>
        obtain ⟨m, rfl, hm, hseen, hgr⟩ := hrel
        have hgrL := (World.grownBy_alloc wL (.map #[] 0) (some wL.heap.size)).trans hgr
        have hBm : Below w1.heap.size w1 wr := HBL.out.grown hgrL (by have := HBL.out.size; omega) (fun j hj => by injection hj with hj; have := HBL.out.size; omega)
        have ho3 := HO3.out.kept hgrL (Or.inr (fun e => by have := (HO3.out.lt _ e).2; omega))
        have ho4 := HO4.out.kept hgrL (Or.inr (fun e => by have := (HO4.out.lt _ e).2; omega))
        by_cases hlm : m < (ads L).length
        · obtain ⟨hcap, hnil, h0 | ⟨b, off, rfl, hc⟩⟩ := sl_of ho3
          · rw [h0] at hlm; simp at hlm
          · obtain ⟨c1, c2⟩ := hc m hlm
            have m1 : (m : Int) < ((ads L).length : Int) := by omega
            have hin := at0_mem hlm
            have hfst := ads_first hin
            have hnot := nodup_take (ads_nodup L) hlm
            have HT := Lib.hid (names_take hlm)
            obtain ⟨⟨x1, x2⟩, hx⟩ : ∃ x, at0 (ads L) m = x := ⟨_, rfl⟩
            rw [hx] at c1 c2 hin hfst hnot HT
            simp only at c1 c2 hfst hnot
            have hxl : x1.length ≤ maxLen := by
              obtain ⟨y, hy, hye⟩ := List.mem_map.1 ((ads_mem L x1).1 (List.mem_map_of_mem (f := (·.1)) hin))
              have := HN.out y hy
              rw [hye] at this
              exact this
            have hA : wr.grownBy (wr.alloc (.cells #[.string ⟨x1.toArray⟩, .string ⟨x2.toArray⟩] 34)) none := World.grownBy_alloc _ _ _
            have hsA := hseen.kept hA (by simp)
            have hlook := hsA.look hxl
            rw [decide_eq_false hnot] at hlook
            obtain ⟨w3, hput, hs3, hg3⟩ := hsA.put (s := x1) (by unfold maxLen; omega) hxl
            have cG := rget_any L a cap x1 (wr.alloc (.cells #[.string ⟨x1.toArray⟩, .string ⟨x2.toArray⟩] 34)) ((HS1.out.below hBm).below (below_alloc _)) (by omega)
            rw [resG_some hfst] at cG
            have t1 : (x2 != x2) = false := by simp
            have HS3 := Lib.hid hs3
            have HG3 := Lib.hid ((hgr.trans (World.grownBy_alloc wr (.cells #[.string ⟨x1.toArray⟩, .string ⟨x2.toArray⟩] 34) (some wL.heap.size))).trans hg3)
            clear hnil hc hx hin hfst hnot hxl hA hsA hs3 hg3 hseen hgr hgrL hBm ho3 ho4
            go_wp2_with fail
            refine cG.mono ?_
            rintro e w2 ⟨rfl, rfl⟩
            go_wp2
            go_roundw
            case rel => exact ⟨m + 1, by go_num, by omega, by rw [HT.out]; exact HS3.out, HG3.out⟩
            case measure => simp [RowKit.intOf]; omega
        · have m1 : ¬ ((m : Int) < ((ads L).length : Int)) := by omega
          obtain rfl : m = (ads L).length := by omega
          rw [List.take_length] at hseen
          have HSE := Lib.hid hseen
          have HO3' := Lib.hid ho3
          have HO4' := Lib.hid ho4
          have HBm := Lib.hid hBm
          clear hseen ho3 ho4 hBm hgr hgrL HO3 HO4 HBL
          generalize wr = wM at HSE HO3' HO4' HBm ⊢
          go_wp2
          go_loopw [77] (fun v wr => ∃ k : Nat, v = .int .i64 k ∧ k ≤ L.length ∧ Below wM.heap.size wM wr) (fun v _ => L.length - (RowKit.intOf v).toNat)
          case atStart => exact ⟨0, rfl, by omega, Below.refl _ _⟩
          case round =>
            obtain ⟨k, rfl, hk, hbw⟩ := hrel
            have hbW : Below w1.heap.size w1 wr := HBm.out.trans (hbw.mono HBm.out.size)
            by_cases hlt : k < L.length
            · obtain ⟨hcap, hnil, h0 | ⟨b, off, rfl, hc⟩⟩ := HS1.out.below hbW
              · subst h0; simp at hlt
              · obtain ⟨c1, c2⟩ := hc k hlt
                have k1 : (k : Int) < (L.length : Int) := by omega
                have hin := at0_mem hlt
                obtain ⟨⟨x1, x2⟩, hx⟩ : ∃ x, at0 L k = x := ⟨_, rfl⟩
                rw [hx] at c1 c2 hin
                simp only at c1 c2
                have hxl : x1.length ≤ maxLen := HN.out _ hin
                have hmem : x1 ∈ names (ads L) := (ads_mem L x1).2 (List.mem_map_of_mem (f := (·.1)) hin)
                have hA : Below wr.heap.size wr (wr.alloc (.cells #[.string ⟨x1.toArray⟩, .string ⟨x2.toArray⟩] 24)) := below_alloc _
                have hlook := ((HSE.out.kept (grown_of_below hbw) (by simp)).kept (grown_of_below hA) (by simp)).look hxl
                rw [decide_eq_true hmem] at hlook
                have HBA := Lib.hid (below_trans hbw hA)
                clear hnil hc hx hin hxl hmem hA hbw hbW
                go_wp2
                go_roundw
                case rel => exact ⟨k + 1, by go_num, by omega, HBA.out⟩
                case measure => simp [RowKit.intOf]; omega
            · have k1 : ¬ ((k : Int) < (L.length : Int)) := by omega
              have ho3 := ownsRow_below HO3'.out hbw
              have cS := same_any (ads L) a3 cap3 (ads L) a3 cap3 wr (sl_of ho3) (sl_of ho3) (by omega) (by omega)
              rw [same_self (ads_nodup L)] at cS
              have HO3 := Lib.hid ho3
              have HO4 := Lib.hid (ownsRow_below HO4'.out hbw)
              have HBW := Lib.hid hbW
              clear ho3 hbW hbw HO3' HO4' HBm HSE
              by_cases hq : (ads L).length = L.length
              · have t1 : (((ads L).length : Int) != (L.length : Int)) = false := by simp [hq]
                have HSA := Lib.hid (ads_same hq)
                clear hq
                go_wp2_with fail
                refine cS.mono ?_
                rintro e w5 ⟨rfl, hb5⟩
                have cS2 := same_any (ads L) a3 cap3 (ads L.reverse) a4 cap4 w5 (sl_of (ownsRow_below HO3.out hb5)) (sl_of (ownsRow_below HO4.out hb5)) (by omega) (by omega)
                rw [HSA.out] at cS2
                have HB5 := Lib.hid (HBW.out.trans (hb5.mono HBW.out.size))
                clear cS hb5
                go_wp2_with fail
                refine cS2.mono ?_
                rintro e w6 ⟨rfl, hb6⟩
                have HB6 := Lib.hid (HB5.out.trans (hb6.mono HB5.out.size))
                clear hb6
                go_wp2
                go_ret
                exact ⟨rfl, below_trans HB1.out HB6.out⟩
              · have t1 : (((ads L).length : Int) != (L.length : Int)) = true := by simp; omega
                clear hq
                go_wp2_with fail
                refine cS.mono ?_
                rintro e w5 ⟨rfl, hb5⟩
                have HB5 := Lib.hid (HBW.out.trans (hb5.mono HBW.out.size))
                clear cS hb5
                go_wp2
                go_ret
                exact ⟨rfl, below_trans HB1.out HB5.out⟩
end Go.Proofs.Ytmdpkolncfnfbaa
