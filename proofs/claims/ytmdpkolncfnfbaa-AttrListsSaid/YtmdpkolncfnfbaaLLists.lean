/- The law AttrLists, walked. -/
import Derived.Test.YtmdpkolncfnfbaaLSames
import Derived.Deep.DeepCutAuto
import Derived.Deep.RegionWith
import Derived.Laws.OwnMore
namespace Go.Proofs.Ytmdpkolncfnfbaa
open Go.RowKit Go.Lib

theorem below_drew1 {B : Nat} {w w' : World} (h : Below B w w') : Below B w w'.drew := ⟨h.os, h.tape, h.output, h.size, h.block⟩
theorem below_undrew {B : Nat} {w w' : World} (h : Below B w.drew w') : Below B w w' := ⟨h.os, h.tape, h.output, h.size, h.block⟩
theorem cell_below {w w' : World} {b off : Nat} {x : Value} (h : w.cell? ⟨b, off, none⟩ = some x) (hb : Below w.heap.size w w') : w'.cell? ⟨b, off, none⟩ = some x :=
  (World.cell?_of_block (hb.block b (World.block_lt_of_cell? w _ h))).trans h

theorem add_pos (L : List At) (x : At) : 0 < (add L x).length := by
  cases h : get L x.1 with
  | none => rw [add_none h]; simp
  | some v =>
    rw [add_some h]
    cases L with
    | nil => cases h
    | cons a r => simp

set_option maxHeartbeats 1000000 in
set_option maxRecDepth 100000 in
theorem attrLists_long (N : Nat) (a : Option Addr) (cap : Nat) (M : Nat) (b : Option Addr) (capB : Nat) (x1 x2 : Str) (w : World) (h : 30 < N ∨ 30 < M) :
    Calls Try.prog 3 #[.slice a N cap, .slice b M capB, .agg #[.string ⟨x1.toArray⟩, .string ⟨x2.toArray⟩]] w fun e w' => e = .returned (.bool true) ∧ Below w.heap.size w w' := by
  have hb0 : Below w.heap.size w (w.alloc (.cells #[.string ⟨x1.toArray⟩, .string ⟨x2.toArray⟩] 24)) := below_alloc _
  by_cases h0 : 30 < N
  · have h1 : (30 : Int) < (N : Int) := by omega
    clear h
    go_enter Try.func3, Try.ntmps3
    go_wp2_with fail
    refine (speaks_any _).mono ?_
    rintro e w1 ⟨rfl, hb1⟩
    go_wp2_with fail
    refine (speaks_any w1).mono ?_
    rintro e w2 ⟨rfl, hb2⟩
    go_wp2
    go_ret
    exact ⟨rfl, below_trans (below_trans hb0 hb1) hb2⟩
  · have h1 : ¬ (30 : Int) < (N : Int) := by omega
    have h2 : (30 : Int) < (M : Int) := by omega
    clear h
    go_enter Try.func3, Try.ntmps3
    go_wp2_with fail
    refine (speaks_any _).mono ?_
    rintro e w1 ⟨rfl, hb1⟩
    go_wp2_with fail
    refine (speaks_any w1).mono ?_
    rintro e w2 ⟨rfl, hb2⟩
    go_wp2
    go_ret
    exact ⟨rfl, below_trans (below_trans hb0 hb1) hb2⟩

set_option maxHeartbeats 8000000 in
set_option maxRecDepth 100000 in
theorem attrLists_walk (L : List At) (a : Option Addr) (cap : Nat) (M : List At) (b : Option Addr) (capB : Nat) (x1 x2 : Str) (w : World) (hs : Sl L a cap w) (ht : Sl M b capB w) (hl : L.length ≤ 30) (hm : M.length ≤ 30) :
    Calls Try.prog 3 #[.slice a L.length cap, .slice b M.length capB, .agg #[.string ⟨x1.toArray⟩, .string ⟨x2.toArray⟩]] w fun e w' => e = .returned (.bool true) ∧ Below w.heap.size w w' := by
  have h1 : ¬ (30 : Int) < (L.length : Int) := by omega
  have h2 : ¬ (30 : Int) < (M.length : Int) := by omega
  have hb0 : Below w.heap.size w (w.alloc (.cells #[.string ⟨x1.toArray⟩, .string ⟨x2.toArray⟩] 24)) := below_alloc _
  have HS := Lib.hid (hs.below hb0)
  have HT := Lib.hid (ht.below hb0)
  have HB0 := Lib.hid hb0
  clear hs ht hb0
  go_enter Try.func3, Try.ntmps3
  go_wp2_with fail
  refine (speaks_any _).mono ?_
  rintro e w1 ⟨rfl, hb1⟩
  have cO := of_any L a cap w1 (HS.out.below hb1) (by omega)
  have HB1 := Lib.hid hb1
  clear hb1
  go_wp2_with fail
  refine cO.mono ?_
  rintro e w2 ⟨v, rfl, hown, hb2⟩
  have HB2 := Lib.hid (below_trans HB1.out hb2)
  obtain ⟨al, capl, rfl, hsl⟩ := sl_own hown
  obtain ⟨d1, d2⟩ := box_at HB2.out
  have cG := get_any L al capl x1 w2 hsl (by omega)
  obtain ⟨y, hy⟩ : ∃ y, (get L x1).getD [] = y := ⟨_, rfl⟩
  obtain ⟨q, hq⟩ : ∃ q, (get L x1).isSome = q := ⟨_, rfl⟩
  rw [resG_pair, hy, hq] at cG
  have HY := Lib.hid hy
  have HQ := Lib.hid hq
  have HL2 := Lib.hid hown
  clear hb2 cO HB1 hown hsl hy hq
  go_wp2_with fail
  refine cG.mono ?_
  rintro e w3 ⟨rfl, hb3⟩
  have HB3 := Lib.hid (below_trans HB2.out hb3)
  obtain ⟨d3, d4⟩ := box_at HB3.out
  have HL3 := Lib.hid (ownsRow_below HL2.out hb3)
  have cR := rget_any L a cap x1 w3 (HS.out.below HB3.out) (by omega)
  rw [resG_pair, HY.out, HQ.out] at cR
  have t4 : (y != y) = false := by simp
  have t5 : (q != q) = false := by simp
  clear hb3 cG HB2 HL2 d1 d2
  go_wp2_with fail
  refine cR.mono ?_
  rintro e w3' ⟨rfl, rfl⟩
  have cO2 := of_any M b capB w3 (HT.out.below HB3.out) (by omega)
  clear cR
  go_wp2_with fail
  refine cO2.mono ?_
  rintro e w4 ⟨vm, rfl, hownm, hb4⟩
  have HB4 := Lib.hid (below_trans HB3.out hb4)
  have HL4 := Lib.hid (ownsRow_below HL3.out hb4)
  obtain ⟨am, capm, rfl, hsm⟩ := sl_own hownm
  have cS := same_any L al capl M am capm w4 (sl_of HL4.out) hsm (by omega) (by omega)
  obtain ⟨s1, hs1⟩ : ∃ s1, same L M = s1 := ⟨_, rfl⟩
  rw [hs1] at cS
  have HSS := Lib.hid hs1
  clear hb4 cO2 HB3 HL3 d3 d4 hs1 hownm hsm
  go_wp2_with fail
  refine cS.mono ?_
  rintro e w5 ⟨rfl, hb5⟩
  have HB5 := Lib.hid (below_trans HB4.out hb5)
  have HL5 := Lib.hid (ownsRow_below HL4.out hb5)
  have cS2 := rsame_any L a cap M b capB w5 (HS.out.below HB5.out) (HT.out.below HB5.out) (by omega) (by omega)
  rw [HSS.out] at cS2
  have t6 : (s1 != s1) = false := by simp
  obtain ⟨d5, d6⟩ := box_at HB5.out
  clear hb5 cS HB4 HL4
  go_wp2_with fail
  refine cS2.mono ?_
  rintro e w5' ⟨rfl, rfl⟩
  have cA := add_any L al capl (x1, x2) w5 (sl_of HL5.out) (by omega)
  clear cS2
  go_wp2_with fail
  refine cA.mono ?_
  rintro e w6 ⟨v6, rfl, hown6, hb6⟩
  obtain ⟨an, capn, rfl, hsn⟩ := sl_own hown6
  have HB6 := Lib.hid (below_trans HB5.out hb6)
  have HL6 := Lib.hid (ownsRow_below HL5.out hb6)
  obtain ⟨m1, m2⟩ := add_len L (x1, x2)
  have HN6 := Lib.hid hown6
  have hsa := HS.out.below HB6.out
  have hB : Below w6.heap.size w6 w6 := Below.refl _ _
  obtain ⟨d7, d8⟩ := box_at HB6.out
  clear cA d5 d6 hown6
  go_upto_region 9 with (fail)
  go_cut [70] (fun v wx => v = .bool false ∧ Below w6.heap.size w6 wx)
  case first =>
    clear hb6 HL5 HB5 HL6 HN6 HY HQ HSS HT
    go_region_with (first
      | (go_at_call 16; refine (to_any (add L (x1, x2)) an capn _ (by first | exact hsn.below hB | exact hsn.below (below_drew1 hB)) (by omega)).mono ?_; rintro e w7 ⟨vt, rfl, hownt, hb7⟩; obtain ⟨a7, c7, rfl, hT⟩ := sl_own hownt; clear hownt; first | have hB7 := below_trans hB hb7 | have hB7 := below_trans hB (below_undrew hb7); have e1 := (cell_below d7 hB7); have e2 := (cell_below d8 hB7))
      | (go_at_call 17; refine (radd_any L a cap (x1, x2) w7 (hsa.below hB7) (by omega)).mono ?_; rintro e w8 ⟨vr, rfl, hownr, hb8⟩; obtain ⟨a8, c8, rfl, hR⟩ := sl_own hownr; clear hownr; have hB8 := below_trans hB7 hb8; have hT8 := hT.below hb8)
      | (go_at_call 15; refine (alike_any (add L (x1, x2)) a7 c7 (add L (x1, x2)) a8 c8 w8 hT8 hR (by omega)).mono ?_; rw [alike_refl]; rintro e w9 ⟨rfl, hb9⟩; have hB9 := below_trans hB8 hb9))
    all_goals (go_wp2_with fail; go_meet; exact ⟨rfl, hB9⟩)
  case rest =>
    obtain ⟨rfl, hb9⟩ := hcut
    have hpos := add_pos L (x1, x2)
    have hN9 := ownsRow_below HN6.out hb9
    have HL9 := Lib.hid (ownsRow_below HL6.out hb9)
    have HB9 := Lib.hid (below_trans HB6.out hb9)
    have hlb := fun g h => (HL5.out.lt g h).2
    have h56 := hb6.size
    have h69 := hb9.size
    rcases hN9.2 with ⟨hnil, h0⟩ | ⟨g, cap', cur, hv, hg5, -⟩
    · omega
    · obtain rfl : an = some ⟨g, 0, none⟩ := by injection hv
      clear hv hb9 d7 d8 hsa hB HB6 HL6 HN6 HL5 hb6 hsn HSS HY HQ
      obtain ⟨N, hN⟩ : ∃ N, (add L (x1, x2)).length = N := ⟨_, rfl⟩
      rw [hN] at hN9 m1 m2 hpos ⊢
      have HN9 := Lib.hid hN9
      clear hN hN9
      go_wp2
      go_loopw [73] (fun v wr => ∃ k : Nat, v = .int .i64 k ∧ k ≤ N ∧ (∃ xs, wr.ownsRow w5.heap.size 34 2 (.slice (some ⟨g, 0, none⟩) N capn) N xs) ∧ wc.grownBy wr (some g)) (fun v _ => N - (RowKit.intOf v).toNat)
      case atStart => exact ⟨0, rfl, by omega, ⟨_, HN9.out⟩, grown_refl _ _⟩
      case round =>
        obtain ⟨k, rfl, hk, ⟨xs, hx⟩, hgr⟩ := hrel
        by_cases hlt : k < N
        · have k1 : (k : Int) < (N : Int) := by omega
          have hxl := hx.1
          obtain ⟨u1, hu1⟩ : ∃ u, xs[k * 2]? = some u := ⟨_, List.getElem?_eq_getElem (by omega)⟩
          obtain ⟨u2, hu2⟩ : ∃ u, xs[k * 2 + 1]? = some u := ⟨_, List.getElem?_eq_getElem (by omega)⟩
          have c1 := (hx.cellAt (k * 2) (by omega)).trans hu1
          have c2 := (hx.cellAt (k * 2 + 1) (by omega)).trans hu2
          have f1 := hx.frozenAt (k * 2)
          have f2 := hx.frozenAt (k * 2 + 1)
          have hx1 := hx.stored (k * 2) (.string ⟨#[]⟩)
          have hx2 := hx1.1.stored (k * 2 + 1) (.string ⟨#[]⟩)
          have HX := Lib.hid hx2.1
          have HG := Lib.hid ((hgr.trans hx1.2).trans hx2.2)
          clear hx hx1 hx2 hgr hxl hu1 hu2
          go_wp2
          go_roundw
          case rel => exact ⟨k + 1, by go_num, by omega, ⟨_, HX.out⟩, HG.out⟩
          case measure => simp [RowKit.intOf]; omega
        · have k1 : ¬ ((k : Int) < (N : Int)) := by omega
          have hB10 := below_grown HB9.out hgr (Nat.le_refl _) (fun j hj => by
            injection hj with hj
            have := HB5.out.size
            omega)
          have hL10 := HL9.out.kept hgr (by
            cases hal : (Value.slice al L.length capl).ownBlock with
            | none => exact Or.inl rfl
            | some j =>
              right
              intro he
              injection he with he
              have := hlb j hal
              omega)
          have c11 := to_any L al capl wr (sl_of hL10) (by omega)
          have HB10 := Lib.hid hB10
          clear hgr hx hB10 hL10 hlb
          go_wp2_with fail
          refine c11.mono ?_
          rintro e w11 ⟨v11, rfl, hown11, hb11⟩
          obtain ⟨a11, cap11, rfl, hs11⟩ := sl_own hown11
          have HB11 := Lib.hid (below_trans HB10.out hb11)
          have c12 := alike_any L a11 cap11 L a cap w11 hs11 (HS.out.below HB11.out) (by omega)
          rw [alike_refl] at c12
          clear hb11 c11 HB10 hown11 hs11
          go_wp2_with fail
          refine c12.mono ?_
          rintro e w12 ⟨rfl, hb12⟩
          have HB12 := Lib.hid (below_trans HB11.out hb12)
          clear hb12
          go_wp2
          go_ret
          exact ⟨rfl, below_trans HB0.out HB12.out⟩
end Go.Proofs.Ytmdpkolncfnfbaa
