/- The law ArenaActs, walked. -/
import Derived.Test.YtpnjjpbgbdicoaaAe
namespace Go.Proofs.Ytpnjjpbgbdicoaa
open Go.RowKit Go.Lib
open At (Str cellsA cellsA_len Sl alike below_drewN)
set_option maxHeartbeats 4000000 in
set_option maxRecDepth 100000 in
theorem arenaActs_long (n : Nat) (a : Option Addr) (c : Nat) (w : World) (h : 40 < n) :
    Calls Try.prog 3 #[.slice a n c] w fun e w' => e = .returned (.bool true) ∧ Below w.heap.size w w' := by
  have hI : (40 : Int) < (n : Int) := by omega
  clear h
  go_enter Try.func3, Try.ntmps3
  go_wp2_with fail
  refine (speaks_any _).mono ?_
  rintro e w1 ⟨rfl, hb1⟩
  have HB1 := Lib.hid hb1
  clear hb1
  go_wp2_with fail
  refine (speaks_any _).mono ?_
  rintro e w4 ⟨rfl, hb4⟩
  go_wp2
  go_ret
  exact ⟨rfl, below_trans HB1.out hb4⟩

/-- a list of attributes is like itself -/
theorem alike_yes2 (A : List At.At) (a : Option Addr) (c : Nat) (a2 : Option Addr) (c2 : Nat) (w : World) (hs : Sl A a c w) (hs2 : Sl A a2 c2 w) (hl : A.length ≤ 1000000) :
    Calls Try.prog 25 #[.slice a A.length c, .slice a2 A.length c2] w fun e w' => e = .returned (.bool true) ∧ Below w.heap.size w w' := by
  refine (At.alike_any A a c A a2 c2 w hs hs2 hl).mono ?_
  rintro e w' ⟨rfl, k, rfl⟩
  exact ⟨by rw [show alike A A = true from decide_eq_true rfl], below_drewN (Below.refl _ w) k⟩
theorem same_yes2 (f : F) (P Q : Nat → Prop) (a a2 : Option Addr) (c c2 : Nat) (w : World) (hsm : f.small 1000000) (hl : f.len ≤ 1000000) (h1 : NSl w P f a c) (h2 : NSl w Q f a2 c2) :
    Calls Try.prog 29 #[.slice a f.len c, .slice a2 f.len c2] w fun e w' => e = .returned (.bool true) ∧ Below w.heap.size w w' := by
  refine (rsame_any f.wt f f P Q a a2 c c2 w rfl hsm hl h1 h2).mono ?_
  rintro e w' ⟨rfl, k, rfl⟩
  exact ⟨by rw [sameF_refl], below_drewN (Below.refl _ w) k⟩

theorem sl_put5 {L : List At.At} {a : Option Addr} {c : Nat} {w : World} (h : Sl L a c w) {g : Nat} (hg : L ≠ [] → ∀ ad, a = some ad → ad.block ≠ g) (y0 y1 y2 y3 y4 : Value) : Sl L a c (put5 w g y0 y1 y2 y3 y4) :=
  sl_kept h fun hL ad had => by
    have hne := hg hL ad had
    unfold put5
    rw [Below.heap_setCell _ _ _ _ hne, Below.heap_setCell _ _ _ _ hne, Below.heap_setCell _ _ _ _ hne, Below.heap_setCell _ _ _ _ hne, Below.heap_setCell _ _ _ _ hne]

theorem acw_step : ∀ {l : List Ac} {j : Nat} {x : Ac}, l[j]? = some x → acw (l.take (j + 1)) = acw (l.take j) + (x.s.length + x.ats.length + 1)
  | [], _, _, h => by simp at h
  | a :: l, 0, x, h => by
    simp only [List.getElem?_cons_zero, Option.some.injEq] at h
    subst h
    simp [acw]
  | a :: l, j + 1, x, h => by
    simp only [List.getElem?_cons_succ] at h
    have := acw_step h
    simp only [List.take_succ_cons, acw] at this ⊢
    omega
theorem acw_take : ∀ (l : List Ac) (j : Nat), acw (l.take j) ≤ acw l
  | [], j => by simp
  | a :: l, 0 => by simp [acw]
  | a :: l, j + 1 => by
    have := acw_take l j
    simp only [List.take_succ_cons, acw]
    omega

set_option maxHeartbeats 8000000 in
set_option maxRecDepth 100000 in
theorem arenaActs_walk (acts : List Ac) (a : Option Addr) (c : Nat) (w : World) (hs : AcSl w w.heap.size acts a c) (hl : acts.length ≤ 40) (hX : acw acts ≤ 1048576) :
    Calls Try.prog 3 #[.slice a acts.length c] w fun e w' => e = .returned (.bool true) ∧ Below w.heap.size w w' := by
  have hI : ¬ ((40 : Int) < (acts.length : Int)) := by omega
  have HS := Lib.hid hs
  have HL := Lib.hid hl
  have HX := Lib.hid hX
  clear hs hl hX
  go_enter Try.func3, Try.ntmps3
  go_wp2_with fail
  refine (speaks_any _).mono ?_
  rintro e w1 ⟨rfl, hb1⟩
  have HB1 := Lib.hid hb1
  clear hb1
  go_wp2_with fail
  refine (new_any w1).mono ?_
  rintro e w2 ⟨R, vn, rfl, ha2, hb2⟩
  have cR := rnew_any w2 w.heap.size (Nat.le_trans HB1.out.size hb2.size)
  have HA2 := Lib.hid ha2
  have HB2 := Lib.hid hb2
  clear ha2 hb2
  go_wp2_with fail
  refine cR.mono ?_
  rintro e w3 ⟨v0, v1, v2, v3, rfl, hr3, hb3⟩
  obtain ⟨a0, c0, a1, c1, a2, c2, a3, c3, rfl, rfl, rfl, rfl⟩ := hr3.vals (n := 1) rfl
  have hst : St w.heap.size w1.heap.size w (w3.alloc (.cells #[.slice a0 1 c0, .slice a1 1 c1, .slice a2 1 c2, .slice a3 1 c3, .int .i64 0] 31)) R w3.heap.size 0 0 0 rootL vn (.slice a0 1 c0) (.slice a1 1 c1) (.slice a2 1 c2) (.slice a3 1 c3) :=
    ⟨(HA2.out.below hb3).below (At.below_alloc _), hr3.below (At.below_alloc _), bx_new _ _ _, wf_new, bq_new, ((below_trans HB1.out HB2.out).trans (hb3.mono (Nat.le_trans HB1.out.size HB2.out.size))).alloc (Nat.le_trans (Nat.le_trans HB1.out.size HB2.out.size) hb3.size) _, Nat.le_refl _, HB1.out.size, Nat.le_trans (Nat.le_trans HB1.out.size HB2.out.size) hb3.size, Nat.le_refl _⟩
  have HST := Lib.hid hst
  have hgt : w.heap.size ≤ w3.heap.size := hst.hg
  have HG := Lib.hid hgt
  clear hst hr3 hb3 cR hgt
  go_wp2_with fail
  go_loopw [30] (fun v30 wr => ∃ (j cp : Nat) (L : List QN) (vn v0 v1 v2 v3 : Value), v30 = .int .i64 (j : Int) ∧ j ≤ acts.length ∧ St w.heap.size w1.heap.size w wr R w3.heap.size j (acw (acts.take j)) cp L vn v0 v1 v2 v3) (fun v _ => acts.length - (RowKit.intOf v).toNat)
  case atStart => exact ⟨0, 0, _, _, _, _, _, _, rfl, Nat.zero_le _, HST.out⟩
  case round =>
    obtain ⟨j, cp, L, vn, v0, v1, v2, v3, rfl, hj, hst⟩ := hrel
    clear HST HA2
    by_cases hjl : j = acts.length
    · subst hjl
      obtain ⟨wo, rfl⟩ : ∃ wo, wo = wr := ⟨_, rfl⟩
      obtain ⟨y0, z0, y1, z1, y2, z2, y3, z3, e0, e1, e2, e3⟩ := hst.vals
      have hpos : 0 < L.length := by
        obtain ⟨n, hn, -⟩ := hst.wf.root
        have := (List.getElem?_eq_some_iff.1 hn).1
        rw [List.length_map] at this
        exact this
      have hll : L.length ≤ 1000 := by have := hst.bq.len; rw [List.length_map] at this; have := HL.out; omega
      have hok : ∀ (k : Nat) (m : QN), L[k]? = some m → k ≠ 0 ∨ (m.nm = [] ∧ m.ats = []) := by
        obtain ⟨n, hn, hn1, hn2, -⟩ := hst.wf.root
        obtain ⟨n', h1, rfl⟩ := of_ab hn
        exact root_ok h1 hn1 hn2
      have hpar := fun n hn => hst.bq.ats (ab n) (List.mem_map.2 ⟨n, hn, rfl⟩)
      have htot := hst.bq.tot
      have hcp : cp ≤ 1000 := by have := hst.cps; have := HL.out; omega
      obtain ⟨gn, cn, hv0, -, -, -, -, hcn, -⟩ := hst.ra.nms.blk (by rw [List.length_map]; exact hpos)
      obtain ⟨xa, hxa, hxa'⟩ := hst.ra.ats
      obtain ⟨ga, cga, hv1, -, -, -, -, hca, -⟩ := hxa.blk (by rw [List.length_map]; exact hpos)
      obtain ⟨gp, cgp, hv3, -, -, -, -, hcpp, -⟩ := hst.ra.par.blk (by rw [List.length_map]; exact hpos)
      rw [List.length_map] at hv0 hv1 hv3
      subst hv0 hv1 hv3 e2
      clear e0 e1 e3
      have HST0 := Lib.hid hst
      have q0 := hst.bx.cell 0
      have HCN := Lib.hid hcn
      have HCA := Lib.hid hca
      have HCP := Lib.hid hcpp
      have HXA := Lib.hid hxa'
      have HN0 := Lib.hid (show _ ∧ _ ∧ _ ∧ _ from ⟨hll, hpar, htot, hcp⟩)
      have HOK := Lib.hid hok
      have hnl : ¬ ((acts.length : Int) < (acts.length : Int)) := by omega
      clear hst hcn hca hcpp hxa hxa' hll hpar htot hcp hpos hok hj HS
      go_wp2_with fail
      go_loopw [137] (fun v wr => ∃ t : Nat, v = .int .i64 (t : Int) ∧ t ≤ L.length ∧ Below wo.heap.size wo wr) (fun v _ => L.length - (RowKit.intOf v).toNat)
      case atStart => exact ⟨0, rfl, Nat.zero_le _, Below.refl _ _⟩
      case round =>
        obtain ⟨t, rfl, ht, hbq⟩ := hrel
        by_cases htl : t = L.length
        · subst htl
          have hnt : ¬ ((L.length : Int) < (L.length : Int)) := by omega
          have hsq := (HST0.out.below hbq).below (below_drew wr)
          have cC := copies_any hsq.ar
          have p0 : wr.drew.cell? ⟨w3.heap.size, 4, none⟩ = some (.int .i64 (cp : Int)) := hsq.bx.cell 4
          have HSQ := Lib.hid hsq
          clear hsq hbq ht q0
          go_wp2_with fail
          go_region_held3 (fun wx => wx.cell? ⟨w3.heap.size, 4, none⟩ = some (.int .i64 (cp : Int)))
            (first | with_reducible exact p0)
            (first
              | (go_at_call 33; (with_reducible refine cC.mono ?_); rintro e wx ⟨rfl, rfl⟩))
          go_wp2
          go_ret
          exact ⟨rfl, HSQ.out.hb⟩
        · have htlt : t < L.length := by omega
          obtain ⟨n, hn⟩ : ∃ n, L[t]? = some n := ⟨_, List.getElem?_eq_getElem htlt⟩
          have hsr := HST0.out.below hbq
          have hdr := below_drew wr
          have hsd := hsr.below hdr
          have hbd : Below wo.heap.size wo wr.drew := below_trans hbq hdr
          have hq : wr.cell? ⟨w3.heap.size, 0, none⟩ = some (.slice (some ⟨gn, 0, none⟩) L.length cn) := hsr.bx.cell 0
          have hgn : gn < wo.heap.size := World.block_lt_of_cell? wo ⟨gn, t, none⟩ (HCN.out t (.string ⟨n.nm.toArray⟩) (by rw [List.getElem?_map, List.getElem?_map, hn]; rfl))
          have k0 : wr.cell? ⟨gn, t, none⟩ = some (.string ⟨n.nm.toArray⟩) := (hbq.cell (p := ⟨gn, t, none⟩) hgn).trans (HCN.out t _ (by rw [List.getElem?_map, List.getElem?_map, hn]; rfl))
          obtain ⟨aa, ca, hxt, hsl, -⟩ := HXA.out t (ab n) (ab_at hn)
          have ka := HCA.out t _ hxt
          have kp := HCP.out t (.int .i64 n.par) (by rw [List.getElem?_map, List.getElem?_map, hn]; rfl)
          have hga : ga < wo.heap.size := World.block_lt_of_cell? wo ⟨ga, t, none⟩ ka
          have hgp : gp < wo.heap.size := World.block_lt_of_cell? wo ⟨gp, t, none⟩ kp
          replace ka : wo.cell? ⟨ga, t, none⟩ = some (.slice aa n.ats.length ca) := ka
          have hsl' : Sl n.ats aa ca wr.drew := Sl.below hsl hbd
          have KEEP : Hid (∀ wx, Below wr.drew.heap.size wr.drew wx → wx.cell? ⟨w3.heap.size, 0, none⟩ = some (.slice (some ⟨gn, 0, none⟩) L.length cn) ∧ wx.cell? ⟨w3.heap.size, 1, none⟩ = some (.slice (some ⟨ga, 0, none⟩) L.length cga) ∧ wx.cell? ⟨w3.heap.size, 2, none⟩ = some (.slice y2 L.length z2) ∧ wx.cell? ⟨w3.heap.size, 3, none⟩ = some (.slice (some ⟨gp, 0, none⟩) L.length cgp) ∧ wx.cell? ⟨w3.heap.size, 4, none⟩ = some (.int .i64 (cp : Int)) ∧ wx.cell? ⟨ga, t, none⟩ = some (.slice aa n.ats.length ca) ∧ wx.cell? ⟨gp, t, none⟩ = some (.int .i64 n.par)) := Lib.hid (fun wx hbx => by
            have h := (hsd.below hbx).bx
            have hbw := below_trans hbd hbx
            exact ⟨h.cell 0, h.cell 1, h.cell 2, h.cell 3, h.cell 4, (hbw.cell (p := ⟨ga, t, none⟩) hga).trans ka, (hbw.cell (p := ⟨gp, t, none⟩) hgp).trans kp⟩)
          have p0 := KEEP.out wr.drew (Below.refl _ _)
          obtain ⟨f, hT⟩ := HST0.out.wf.tree t (ab n) (ab_at hn)
          have hfs : f.small 1000 := T.small (fun m hm => ⟨Nat.le_trans (HST0.out.bq.ats m hm) (by decide), by
            obtain ⟨jj, hjj⟩ := List.mem_iff_getElem?.1 hm
            have h1 := tot_ge hjj
            have h2 := HN0.out.2.2.1
            have h3 := HL.out
            omega⟩) hT
          have hfl : f.len ≤ 1000 := by
            rw [← hT.len]
            have h1 := tot_ge (M := L.map ab) (ab_at hn)
            have h2 := HN0.out.2.2.1
            have h3 := HL.out
            omega
          have hal : n.ats.length ≤ 10 := HN0.out.2.1 n (mem_of_at hn)
          have hnok := HOK.out t n hn
          have cN := name_any hsd.ar t n hn (hnok.imp id (fun h => h.1))
          have cA : Calls Try.prog 27 #[.pointer (some ⟨R, 0, none⟩), .int .i64 (t : Int)] wr.drew _ := attrs_any hsd.ar t n hn (hnok.imp id (fun h => h.2)) (by omega)
          have HSD := Lib.hid hsd
          have HSL := Lib.hid hsl'
          have HF := Lib.hid (show _ ∧ _ ∧ _ ∧ _ from ⟨hfs, hfl, hal, hT⟩)
          have HNN := Lib.hid hn
          have HBD := Lib.hid hbd
          have HTL := Lib.hid htlt
          have htI : (t : Int) < (L.length : Int) := by omega
          clear hsr hdr hsd hbd hgn hxt hsl ka kp hga hgp hsl' hT hfs hfl hal hnok hn hbq ht htl htlt q0
          go_wp2_with fail
          go_region_held3 (fun wx => wx.cell? ⟨w3.heap.size, 0, none⟩ = some (.slice (some ⟨gn, 0, none⟩) L.length cn) ∧ wx.cell? ⟨w3.heap.size, 1, none⟩ = some (.slice (some ⟨ga, 0, none⟩) L.length cga) ∧ wx.cell? ⟨w3.heap.size, 2, none⟩ = some (.slice y2 L.length z2) ∧ wx.cell? ⟨w3.heap.size, 3, none⟩ = some (.slice (some ⟨gp, 0, none⟩) L.length cgp) ∧ wx.cell? ⟨w3.heap.size, 4, none⟩ = some (.int .i64 (cp : Int)) ∧ wx.cell? ⟨ga, t, none⟩ = some (.slice aa n.ats.length ca) ∧ wx.cell? ⟨gp, t, none⟩ = some (.int .i64 n.par))
            (first | with_reducible exact p0 | with_reducible exact p1 | with_reducible exact p2 | with_reducible exact p3 | with_reducible exact p4 | with_reducible exact p5 | with_reducible exact p6 | with_reducible exact p7)
            (first
              | (go_at_call 24; (with_reducible refine cN.mono ?_); rintro e wx ⟨rfl, rfl⟩; clear cN)
              | (go_at_call 27; (with_reducible refine cA.mono ?_); rintro e w1a ⟨v1a, rfl, ho1, hb1⟩; obtain ⟨a1a, c1a, rfl, hs1⟩ := At.sl_own ho1; have cT := At.to_any n.ats a1a c1a w1a hs1 (by have := HF.out.2.2.1; omega); have HB1a := Lib.hid hb1; have p1 := KEEP.out w1a hb1; clear ho1 hb1 hs1 cA)
              | (go_at_call 26; (with_reducible refine cT.mono ?_); rintro e w2a ⟨v2a, rfl, ho2, hb2⟩; obtain ⟨a2a, c2a, rfl, hs2⟩ := At.sl_own ho2; have HB2a := Lib.hid (below_trans HB1a.out hb2); have p2 := KEEP.out w2a HB2a.out; have cL := alike_yes2 n.ats a2a c2a aa ca w2a hs2 (HSL.out.below HB2a.out) (by have := HF.out.2.2.1; omega); clear ho2 hb2 hs2 cT)
              | (go_at_call 25; (with_reducible refine cL.mono ?_); rintro e w3a ⟨rfl, hb3⟩; have HB3a := Lib.hid (below_trans HB2a.out hb3); have p3 := KEEP.out w3a HB3a.out; have cP := parent_any (HSD.out.below HB3a.out).ar t n HNN.out; have cNo := nodes_any f (HSD.out.below HB3a.out).ar t n HNN.out HF.out.2.2.2 (F.small_mono (by decide) HF.out.1) (by have := HF.out.2.1; omega) HOK.out; clear hb3 cL)
              | (go_at_call 28; (with_reducible refine cP.mono ?_); rintro e wx ⟨rfl, rfl⟩; clear cP)
              | (go_at_call 31; (with_reducible refine cNo.mono ?_); rintro e w4a ⟨v4a, rfl, ho4, hb4⟩; obtain ⟨a4a, c4a, rfl, hs4⟩ := ho4.sl; have HB4a := Lib.hid (below_trans HB3a.out hb4); have p4 := KEEP.out w4a HB4a.out; have cTo := to_any f.wt f _ a4a c4a w4a rfl (F.small_mono (by decide) HF.out.1) (by have := HF.out.2.1; omega) hs4; clear ho4 hb4 hs4 cNo)
              | (go_at_call 30; (with_reducible refine cTo.mono ?_); rintro e w5a ⟨v5a, rfl, ho5, hb5⟩; obtain ⟨a5a, c5a, rfl, hs5⟩ := ho5.sl; have HS5 := Lib.hid hs5; have HB5a := Lib.hid (below_trans HB4a.out hb5); have p5 := KEEP.out w5a HB5a.out; have hx5 := HSD.out.below HB5a.out; have cRn := rnodes_any f.wt f cp t (ab n) rfl hx5.ra hx5.hw (ab_at HNN.out) HF.out.2.2.2 (F.small_mono (by decide) HF.out.1) (by have := HF.out.2.1; omega) (by rw [List.length_map]; have := HN0.out.1; omega); clear ho5 hb5 hs5 cTo hx5)
              | (go_at_call 32; (with_reducible refine cRn.mono ?_); rintro e w6a ⟨v6a, rfl, ho6, hb6⟩; obtain ⟨a6a, c6a, rfl, hs6⟩ := ho6.sl; have HB6a := Lib.hid (below_trans HB5a.out hb6); have p6 := KEEP.out w6a HB6a.out; have cS := same_yes2 f _ _ a5a a6a c5a c6a w6a (F.small_mono (by decide) HF.out.1) (by have := HF.out.2.1; omega) (HS5.out.below hb6) hs6; clear ho6 hb6 hs6 cRn)
              | (go_at_call 29; (with_reducible refine cS.mono ?_); rintro e w7a ⟨rfl, hb7⟩; have HB7a := Lib.hid (below_trans HB6a.out hb7); have p7 := KEEP.out w7a HB7a.out; clear hb7 cS))
          have hll2 := HN0.out.1
          have htl2 := HTL.out
          go_wp2
          go_roundw
          case rel => exact ⟨t + 1, by go_num, HTL.out, below_trans HBD.out HB7a.out⟩
          case measure => have := HTL.out; simp [RowKit.intOf]; omega
    · have hjlt : j < acts.length := by omega
      obtain ⟨x, hx⟩ : ∃ x, acts[j]? = some x := ⟨_, List.getElem?_eq_getElem hjlt⟩
      have hW := acw_step hx
      have hWl := acw_take acts (j + 1)
      obtain ⟨d, ia, ib, s, ats⟩ := x
      obtain ⟨-, hs | ⟨b, off, rfl, hc⟩⟩ := HS.out
      · subst hs; simp at hx
      obtain ⟨aa, ca, k0, k1, k2, k3, k4, hsl, hsb, hia, hib⟩ := hc j _ hx
      dsimp only at k0 k1 k2 k3 k4 hsl hsb hia hib hW
      have hbl : b < w.heap.size := World.block_lt_of_cell? w _ k0
      have kk : ∀ (o : Nat) (u : Value), w.cell? ⟨b, o, none⟩ = some u → wr.cell? ⟨b, o, none⟩ = some u := fun o u h => (hst.hb.cell (p := ⟨b, o, none⟩) hbl).trans h
      replace k0 := kk _ _ k0
      replace k1 := kk _ _ k1
      replace k2 := kk _ _ k2
      replace k3 := kk _ _ k3
      replace k4 := kk _ _ k4
      have hslr := sl_kept hsl (w' := wr) (fun hL ad had => hst.hb.block _ (hsb hL ad had))
      obtain ⟨W1, hW1⟩ : ∃ W1, wr.alloc (.cells #[.int .i64 d, .int .i64 ia, .int .i64 ib, .string ⟨s.toArray⟩, .slice aa ats.length ca] 35) = W1 := ⟨_, rfl⟩
      have hA : Below wr.heap.size wr W1 := by rw [← hW1]; exact At.below_alloc _
      have hG : Bx wr.heap.size #[.int .i64 d, .int .i64 ia, .int .i64 ib, .string ⟨s.toArray⟩, .slice aa ats.length ca] 35 W1 := by rw [← hW1]; exact bx_new wr _ 35
      have HNE := Lib.hid hst.bx.lt
      have hst1 := hst.below hA
      obtain ⟨y0, z0, y1, z1, y2, z2, y3, z3, rfl, rfl, rfl, rfl⟩ := hst1.vals
      have q0 := hst1.bx.cell 0
      have g0 := hG.cell 0
      have g1 := hG.cell 1
      have g2 := hG.cell 2
      have g3 := hG.cell 3
      have g4 := hG.cell 4
      have hG' := hG.below (below_drew W1)
      have pA : W1.drew.cell? ⟨wr.heap.size, 1, none⟩ = some (.int .i64 ia) ∧ W1.drew.cell? ⟨wr.heap.size, 2, none⟩ = some (.int .i64 ib) := ⟨hG'.cell 1, hG'.cell 2⟩
      have hpos : 0 < L.length := by
        obtain ⟨n, hn, -⟩ := hst.wf.root
        have := (List.getElem?_eq_some_iff.1 hn).1
        rw [List.length_map] at this
        exact this
      have hll : L.length ≤ 1000 := by have := hst.bq.len; rw [List.length_map] at this; have := HL.out; omega
      have cP1 := pick_any ia L.length hia.1 hia.2 hpos (by omega) W1.drew
      have cP2 := pick_any ib L.length hib.1 hib.2 hpos (by omega) W1.drew
      have HST1 := Lib.hid (hst1.below (below_drew W1))
      have HG1 := Lib.hid hG'
      have HSL := Lib.hid ((hslr.below hA).below (below_drew W1))
      have HSB := Lib.hid hsb
      have HXX := Lib.hid (And.intro hW hWl)
      have HJ := Lib.hid (And.intro hjlt hll)
      have hjI : (j : Int) < (acts.length : Int) := by omega
      clear hst hst1 hc hsl hsb kk hslr hA hG hG' hpos hia hib hW hWl hx hbl hjl hj hjlt hll
      go_wp2_with fail
      go_region_held3 (fun wx => wx.cell? ⟨wr.heap.size, 1, none⟩ = some (.int .i64 ia) ∧ wx.cell? ⟨wr.heap.size, 2, none⟩ = some (.int .i64 ib))
        (first | with_reducible exact pA)
        (first
          | (go_at_call 11; (with_reducible refine cP1.mono ?_); rintro e wx ⟨rfl, i, hi, rfl⟩; have HI := Lib.hid hi; clear hi cP1)
          | (go_at_call 11; (with_reducible refine cP2.mono ?_); rintro e wx ⟨rfl, k, hk, rfl⟩; have HK := Lib.hid hk; clear hk cP2))
      clear pA g0 g1 g2 g3 g4 q0 k0 k1 k2 k3 k4 hW1
      have hneg : wr.heap.size ≠ w3.heap.size := by
        have h1 := HST1.out.bx.lt
        have h2 := HST1.out.hg
        have h3 := HNE.out
        omega
      obtain ⟨U, hU⟩ : ∃ U, W1.drew = U := ⟨_, rfl⟩
      rw [hU] at HST1 HG1 HSL ⊢
      clear hU
      have g0 := HG1.out.cell 0
      have g3 := HG1.out.cell 3
      have g4 := HG1.out.cell 4
      by_cases hal : 10 < ats.length
      · have hI2 : (10 : Int) < (ats.length : Int) := by omega
        go_wp2
        go_ret
        exact ⟨rfl, HST1.out.hb⟩
      have hI2 : ¬ ((10 : Int) < (ats.length : Int)) := by omega
      have HAL := Lib.hid (show ats.length ≤ 10 by omega)
      clear hal
      by_cases hd0 : d = 0
      · subst hd0
        obtain ⟨M', hWM, hbM, c12, c13⟩ := elem_two HST1.out.wf HST1.out.bq (by have := HJ.out.1; have := HL.out; omega) s ats HAL.out
        have cE : Calls Try.prog 12 #[rv _ _ _ _ cp, .string ⟨s.toArray⟩, .slice aa ats.length ca] U (TwoPost w.heap.size L.length cp M' U) := c12 w.heap.size U _ _ _ _ cp aa ca HST1.out.ra HST1.out.hw HSL.out HSB.out
        have HC13 := Lib.hid c13
        have HM := Lib.hid (And.intro hWM hbM)
        have q0 := HST1.out.bx.cell 0
        have q1 := HST1.out.bx.cell 1
        have q2 := HST1.out.bx.cell 2
        have q3 := HST1.out.bx.cell 3
        have q4 := HST1.out.bx.cell 4
        clear c12 c13 hWM hbM
        go_wp2_with fail
        refine cE.mono ?_
        rintro e w5 ⟨u0, u1, u2', u3, rfl, hr5, hb5⟩
        obtain ⟨A0, C0, A1, C1, A2, C2, A3, C3, rfl, rfl, rfl, rfl⟩ := hr5.vals (n := M'.length) rfl
        obtain ⟨W6, hW6⟩ : ∃ W6, w5.alloc (.cells #[.slice A0 M'.length C0, .slice A1 M'.length C1, .slice A2 M'.length C2, .slice A3 M'.length C3, .int .i64 (cp : Int)] 31) = W6 := ⟨_, rfl⟩
        have bN : Bx w5.heap.size #[.slice A0 M'.length C0, .slice A1 M'.length C1, .slice A2 M'.length C2, .slice A3 M'.length C3, .int .i64 (cp : Int)] 31 W6 := by rw [← hW6]; exact bx_new w5 _ 31
        have hA6 : Below w5.heap.size w5 W6 := by rw [← hW6]; exact At.below_alloc _
        have hb6 : Below U.heap.size U W6 := hb5.trans (hA6.mono hb5.size)
        have n0 := bN.cell 0
        have n1 := bN.cell 1
        have n2 := bN.cell 2
        have n3 := bN.cell 3
        have n4 := bN.cell 4
        have bx6 := HST1.out.bx.below hb6
        have m0 := bx6.cell 0
        have m1 := bx6.cell 1
        have m2 := bx6.cell 2
        have m3 := bx6.cell 3
        have m4 := bx6.cell 4
        have y0 := bx6.fr 0
        have y1 := bx6.fr 1
        have y2 := bx6.fr 2
        have y3 := bx6.fr 3
        have y4 := bx6.fr 4
        have hmid := HST1.out.mid (cp' := cp) hb6 (hr5.below hA6)
        have hG6 := (HG1.out.below hb6).put5 hneg (.slice A0 M'.length C0) (.slice A1 M'.length C1) (.slice A2 M'.length C2) (.slice A3 M'.length C3) (.int .i64 (cp : Int))
        obtain ⟨W7, hW7⟩ : ∃ W7, ((((W6.setCell ⟨w3.heap.size, 0, none⟩ (.slice A0 M'.length C0)).setCell ⟨w3.heap.size, 1, none⟩ (.slice A1 M'.length C1)).setCell ⟨w3.heap.size, 2, none⟩ (.slice A2 M'.length C2)).setCell ⟨w3.heap.size, 3, none⟩ (.slice A3 M'.length C3)).setCell ⟨w3.heap.size, 4, none⟩ (.int .i64 (cp : Int)) = W7 := ⟨_, rfl⟩
        simp only [put5] at hmid hG6
        rw [hW7] at hmid hG6
        have h3 := hG6.cell 3
        have HMID := Lib.hid hmid
        have HSL7 : Hid (Sl ats aa ca W7) := by
          have := sl_put5 (HSL.out.below hb6) (g := w3.heap.size) (fun hL ad had e => by have h1 := HSB.out hL ad had; have h2 := HST1.out.hg; omega) (.slice A0 M'.length C0) (.slice A1 M'.length C1) (.slice A2 M'.length C2) (.slice A3 M'.length C3) (.int .i64 (cp : Int))
          simp only [put5] at this
          rw [hW7] at this
          exact Lib.hid this
        have HG6 := Lib.hid hG6
        clear hr5 hb5 cE bN hA6 hb6 bx6 hmid hG6 q0 q1 q2 q3 q4
        by_cases hs0 : s = []
        · subst hs0
          go_wp2
          go_ret
          exact ⟨rfl, HMID.out.hb⟩
        · have hse : (s == []) = false := str_ne hs0
          have hmd := HMID.out.below (below_drew W7)
          have hgd := HG6.out.below (below_drew W7)
          have cO := At.of_any ats aa ca W7.drew (HSL7.out.below (below_drew W7)) (by have := HAL.out; omega)
          have p7 : W7.drew.cell? ⟨wr.heap.size, 3, none⟩ = some (.string ⟨s.toArray⟩) ∧ W7.drew.cell? ⟨wr.heap.size, 4, none⟩ = some (.slice aa ats.length ca) := ⟨hgd.cell 3, hgd.cell 4⟩
          have HMD := Lib.hid hmd
          have HGD := Lib.hid hgd
          have HSE := Lib.hid hse
          clear hmd hgd
          go_wp2_with fail
          clear hse n0 n1 n2 n3 n4 m0 m1 m2 m3 m4 y0 y1 y2 y3 y4 g0 g3 g4 hW7 hW6 h3
          go_region_held3 (fun wx => wx.cell? ⟨wr.heap.size, 3, none⟩ = some (.string ⟨s.toArray⟩) ∧ wx.cell? ⟨wr.heap.size, 4, none⟩ = some (.slice aa ats.length ca))
            (first | with_reducible exact p7 | with_reducible exact p8 | with_reducible exact p9)
            (first
              | (go_at_call 14; (with_reducible refine cO.mono ?_); rintro e w8 ⟨va, rfl, hoa, hb8⟩; obtain ⟨a8, c8, rfl, hs8⟩ := At.sl_own hoa; have HM8 := Lib.hid (HMD.out.below hb8); have HG8 := Lib.hid (HGD.out.below hb8); have p8 : w8.cell? ⟨wr.heap.size, 3, none⟩ = some (.string ⟨s.toArray⟩) ∧ w8.cell? ⟨wr.heap.size, 4, none⟩ = some (.slice aa ats.length ca) := ⟨HG8.out.cell 3, HG8.out.cell 4⟩; have cE2 := HC13.out w1.heap.size w8 R cp vn a8 c8 HM8.out.ar hs8; clear hoa hb8 hs8 cO)
              | (go_at_call 13; (with_reducible refine cE2.mono ?_); rintro e w9 ⟨rfl, L', vn', h9, hm9, hc9⟩; have HST9 := Lib.hid (HM8.out.st hc9 h9 hm9 HM.out.1 HM.out.2 (Nat.le_succ_of_le HST1.out.cps)); have HG9 := Lib.hid (HG8.out.chg hc9 (by decide) (by decide) (by decide) (by decide)); have p9 : w9.cell? ⟨wr.heap.size, 3, none⟩ = some (.string ⟨s.toArray⟩) ∧ w9.cell? ⟨wr.heap.size, 4, none⟩ = some (.slice aa ats.length ca) := ⟨HG9.out.cell 3, HG9.out.cell 4⟩; clear h9 hm9 hc9 cE2))
          go_wp2
          go_roundw
          case rel => exact ⟨j + 1, cp, L', vn', _, _, _, _, by go_num, HJ.out.1, HST9.out.more (Nat.le_refl _) (by have := HXX.out.1; omega)⟩
          case measure => have := HJ.out.1; simp [RowKit.intOf]; omega
      by_cases hd1 : d = 1
      · subst hd1
        by_cases hi0 : i = 0
        · have hiI : ((i : Int) == 0) = true := by rw [hi0]; rfl
          clear hi0
          go_wp2
          go_roundw
          case rel => exact ⟨j + 1, cp, L, vn, _, _, _, _, by go_num, HJ.out.1, HST1.out.more (Nat.le_succ _) (by have := HXX.out.1; omega)⟩
          case measure => have := HJ.out.1; simp [RowKit.intOf]; omega
        · have hiI : ((i : Int) == 0) = false := beq_eq_false_iff_ne.2 (by omega)
          obtain ⟨M', hWM, hbM, c15, c16⟩ := copy_two HST1.out.wf HST1.out.bq (by have := HJ.out.1; have := HL.out; omega) hi0 HI.out
          have hcp : cp ≤ 1000000 := by have := HST1.out.cps; have := HJ.out.1; have := HL.out; omega
          replace c15 := fun b0 w v0 v1 v2 v3 => c15 b0 w v0 v1 v2 v3 cp hcp
          replace c16 := fun B w R vn => c16 B w R cp vn hcp
          obtain ⟨cq, hcq⟩ : ∃ cq, cp + 1 = cq := ⟨_, rfl⟩
          have hcs : cq ≤ j + 1 := by have := HST1.out.cps; omega
          rw [hcq] at c15 c16
          have cE : Calls Try.prog 15 #[rv _ _ _ _ cp, .int .i64 (i : Int)] U (TwoPost w.heap.size L.length cq M' U) := c15 w.heap.size U _ _ _ _ HST1.out.ra HST1.out.hw
          have HC16 := Lib.hid c16
          have HM := Lib.hid (show _ ∧ _ ∧ _ from ⟨hWM, hbM, hcs⟩)
          have q0 := HST1.out.bx.cell 0
          have q1 := HST1.out.bx.cell 1
          have q2 := HST1.out.bx.cell 2
          have q3 := HST1.out.bx.cell 3
          have q4 := HST1.out.bx.cell 4
          clear c15 c16 hWM hbM hcs hcq hcp hi0
          go_wp2_with fail
          refine cE.mono ?_
          rintro e w5 ⟨u0, u1, u2', u3, rfl, hr5, hb5⟩
          obtain ⟨A0, C0, A1, C1, A2, C2, A3, C3, rfl, rfl, rfl, rfl⟩ := hr5.vals (n := M'.length) rfl
          obtain ⟨W6, hW6⟩ : ∃ W6, w5.alloc (.cells #[.slice A0 M'.length C0, .slice A1 M'.length C1, .slice A2 M'.length C2, .slice A3 M'.length C3, .int .i64 (cq : Int)] 31) = W6 := ⟨_, rfl⟩
          have bN : Bx w5.heap.size #[.slice A0 M'.length C0, .slice A1 M'.length C1, .slice A2 M'.length C2, .slice A3 M'.length C3, .int .i64 (cq : Int)] 31 W6 := by rw [← hW6]; exact bx_new w5 _ 31
          have hA6 : Below w5.heap.size w5 W6 := by rw [← hW6]; exact At.below_alloc _
          have hb6 : Below U.heap.size U W6 := hb5.trans (hA6.mono hb5.size)
          have n0 := bN.cell 0
          have n1 := bN.cell 1
          have n2 := bN.cell 2
          have n3 := bN.cell 3
          have n4 := bN.cell 4
          have bx6 := HST1.out.bx.below hb6
          have m0 := bx6.cell 0
          have m1 := bx6.cell 1
          have m2 := bx6.cell 2
          have m3 := bx6.cell 3
          have m4 := bx6.cell 4
          have y0 := bx6.fr 0
          have y1 := bx6.fr 1
          have y2 := bx6.fr 2
          have y3 := bx6.fr 3
          have y4 := bx6.fr 4
          have hmid := HST1.out.mid (cp' := cq) hb6 (hr5.below hA6)
          have hG6 := (HG1.out.below hb6).put5 hneg (.slice A0 M'.length C0) (.slice A1 M'.length C1) (.slice A2 M'.length C2) (.slice A3 M'.length C3) (.int .i64 (cq : Int))
          obtain ⟨W7, hW7⟩ : ∃ W7, ((((W6.setCell ⟨w3.heap.size, 0, none⟩ (.slice A0 M'.length C0)).setCell ⟨w3.heap.size, 1, none⟩ (.slice A1 M'.length C1)).setCell ⟨w3.heap.size, 2, none⟩ (.slice A2 M'.length C2)).setCell ⟨w3.heap.size, 3, none⟩ (.slice A3 M'.length C3)).setCell ⟨w3.heap.size, 4, none⟩ (.int .i64 (cq : Int)) = W7 := ⟨_, rfl⟩
          simp only [put5] at hmid hG6
          rw [hW7] at hmid hG6
          have HMID := Lib.hid hmid
          have HG6 := Lib.hid hG6
          have cE2 : Calls Try.prog 16 #[.pointer (some ⟨R, 0, none⟩), .int .i64 (i : Int)] W7 (TwoAct w1.heap.size R L.length cq M' W7) := HC16.out w1.heap.size W7 R vn HMID.out.ar
          clear hr5 hb5 cE bN hA6 hb6 bx6 hmid hG6 q0 q1 q2 q3 q4
          go_wp2_with fail
          refine cE2.mono ?_
          rintro e w9 ⟨rfl, L', vn', h9, hm9, hc9⟩
          have HST9 := Lib.hid (HMID.out.st hc9 h9 hm9 HM.out.1 HM.out.2.1 HM.out.2.2)
          clear h9 hm9 hc9 cE2 n0 n1 n2 n3 n4 m0 m1 m2 m3 m4 y0 y1 y2 y3 y4 hW7 hW6 g0 g3 g4
          go_wp2
          go_roundw
          case rel => exact ⟨j + 1, cq, L', vn', _, _, _, _, by go_num, HJ.out.1, HST9.out.more (Nat.le_refl _) (by have := HXX.out.1; omega)⟩
          case measure => have := HJ.out.1; simp [RowKit.intOf]; omega
      by_cases hd2 : d = 2
      · subst hd2
        by_cases hi0 : i = 0
        · have hiI : ((i : Int) == 0) = true := by rw [hi0]; rfl
          clear hi0
          go_wp2
          go_roundw
          case rel => exact ⟨j + 1, cp, L, vn, _, _, _, _, by go_num, HJ.out.1, HST1.out.more (Nat.le_succ _) (by have := HXX.out.1; omega)⟩
          case measure => have := HJ.out.1; simp [RowKit.intOf]; omega
        · have hiI : ((i : Int) == 0) = false := beq_eq_false_iff_ne.2 (by omega)
          obtain ⟨mu, hup⟩ := HST1.out.wf.up k (by rw [List.length_map]; exact HK.out)
          have cU := runder_any HST1.out.ra cp k i mu hup
          have q0 := HST1.out.bx.cell 0
          have q1 := HST1.out.bx.cell 1
          have q2 := HST1.out.bx.cell 2
          have q3 := HST1.out.bx.cell 3
          have q4 := HST1.out.bx.cell 4
          clear hup
          go_wp2_with fail
          refine cU.mono ?_
          rintro e w5 ⟨hb5, bu, rfl, hbu⟩
          have HST5 := Lib.hid (HST1.out.below hb5)
          have HG5 := Lib.hid (HG1.out.below hb5)
          clear hb5 cU q0 q1 q2 q3 q4 g0 g3 g4
          cases bu with
          | true =>
            clear hbu
            go_wp2
            go_roundw
            case rel => exact ⟨j + 1, cp, L, vn, _, _, _, _, by go_num, HJ.out.1, HST5.out.more (Nat.le_succ _) (by have := HXX.out.1; omega)⟩
            case measure => have := HJ.out.1; simp [RowKit.intOf]; omega
          | false =>
            obtain ⟨qn, hnu⟩ := hbu rfl
            clear hbu
            obtain ⟨M', hWM, hbM, hlM, c18, c19⟩ := append_two HST1.out.wf HST1.out.bq (by have := HJ.out.1; have := HL.out; omega) hi0 HI.out HK.out hnu
            clear hi0 hnu
            have cE : Calls Try.prog 18 #[rv _ _ _ _ cp, .int .i64 (k : Int), .int .i64 (i : Int)] w5 (RPost w.heap.size cp M' w5) := c18 w.heap.size w5 _ _ _ _ cp HST5.out.ra HST5.out.hw
            have HC := Lib.hid c19
            have HM := Lib.hid (show _ ∧ _ from ⟨hWM, hbM⟩)
            have q0 := HST5.out.bx.cell 0
            have q1 := HST5.out.bx.cell 1
            have q2 := HST5.out.bx.cell 2
            have q3 := HST5.out.bx.cell 3
            have q4 := HST5.out.bx.cell 4
            clear c18 c19 hWM hbM
            go_wp2_with fail
            refine cE.mono ?_
            rintro e w6 ⟨u0, u1, u2', u3, rfl, hr6, hb6⟩
            obtain ⟨A0, C0, A1, C1, A2, C2, A3, C3, rfl, rfl, rfl, rfl⟩ := hr6.vals hlM
            have bx6 := HST5.out.bx.below hb6
            have m0 := bx6.cell 0
            have m1 := bx6.cell 1
            have m2 := bx6.cell 2
            have m3 := bx6.cell 3
            have m4 := bx6.cell 4
            have y0 := bx6.fr 0
            have y1 := bx6.fr 1
            have y2 := bx6.fr 2
            have y3 := bx6.fr 3
            have y4 := bx6.fr 4
            have hmid := HST5.out.mid (cp' := cp) hb6 hr6
            have hG6 := (HG5.out.below hb6).put5 hneg (.slice A0 L.length C0) (.slice A1 L.length C1) (.slice A2 L.length C2) (.slice A3 L.length C3) (.int .i64 (cp : Int))
            obtain ⟨W7, hW7⟩ : ∃ W7, ((((w6.setCell ⟨w3.heap.size, 0, none⟩ (.slice A0 L.length C0)).setCell ⟨w3.heap.size, 1, none⟩ (.slice A1 L.length C1)).setCell ⟨w3.heap.size, 2, none⟩ (.slice A2 L.length C2)).setCell ⟨w3.heap.size, 3, none⟩ (.slice A3 L.length C3)).setCell ⟨w3.heap.size, 4, none⟩ (.int .i64 (cp : Int)) = W7 := ⟨_, rfl⟩
            simp only [put5] at hmid hG6
            rw [hW7] at hmid hG6
            have HMID := Lib.hid hmid
            have t3 := hG6.cell 3
            have cE2 : Calls Try.prog 19 #[.pointer (some ⟨R, 0, none⟩), .int .i64 (k : Int), .int .i64 (i : Int)] W7 (PPost w1.heap.size R cp M' W7) := HC.out w1.heap.size W7 R cp vn HMID.out.ar
            clear hr6 hb6 cE bx6 hmid hG6 q0 q1 q2 q3 q4 hlM
            go_wp2_with fail
            refine cE2.mono ?_
            rintro e w9 ⟨rfl, L', vn', h9, hm9, hc9⟩
            have HST9 := Lib.hid (HMID.out.st hc9 h9 hm9 HM.out.1 HM.out.2 (Nat.le_succ_of_le HST1.out.cps))
            clear h9 hm9 hc9 cE2 m0 m1 m2 m3 m4 y0 y1 y2 y3 y4 hW7
            go_wp2
            go_roundw
            case rel => exact ⟨j + 1, cp, L', vn', _, _, _, _, by go_num, HJ.out.1, HST9.out.more (Nat.le_refl _) (by have := HXX.out.1; omega)⟩
            case measure => have := HJ.out.1; simp [RowKit.intOf]; omega
      by_cases hd3 : d = 3
      · subst hd3
        obtain ⟨M', hWM, hbM, hlM, c20, c21⟩ := text_two HST1.out.wf HST1.out.bq (by have := HJ.out.1; have := HL.out; omega) HI.out s (by have := HXX.out; have := HX.out; omega)
        obtain ⟨w5, hw5⟩ : ∃ w5, U = w5 := ⟨_, rfl⟩
        subst hw5
        have HST5 := Lib.hid HST1.out
        have HG5 := Lib.hid HG1.out
        have cE : Calls Try.prog 20 #[rv _ _ _ _ cp, .int .i64 (i : Int), .string ⟨s.toArray⟩] U (RPost w.heap.size cp M' U) := c20 w.heap.size U _ _ _ _ cp HST5.out.ra HST5.out.hw
        have HC := Lib.hid c21
        have HM := Lib.hid (show _ ∧ _ from ⟨hWM, hbM⟩)
        have q0 := HST5.out.bx.cell 0
        have q1 := HST5.out.bx.cell 1
        have q2 := HST5.out.bx.cell 2
        have q3 := HST5.out.bx.cell 3
        have q4 := HST5.out.bx.cell 4
        clear c20 c21 hWM hbM
        go_wp2_with fail
        refine cE.mono ?_
        rintro e w6 ⟨u0, u1, u2', u3, rfl, hr6, hb6⟩
        obtain ⟨A0, C0, A1, C1, A2, C2, A3, C3, rfl, rfl, rfl, rfl⟩ := hr6.vals hlM
        have bx6 := HST5.out.bx.below hb6
        have m0 := bx6.cell 0
        have m1 := bx6.cell 1
        have m2 := bx6.cell 2
        have m3 := bx6.cell 3
        have m4 := bx6.cell 4
        have y0 := bx6.fr 0
        have y1 := bx6.fr 1
        have y2 := bx6.fr 2
        have y3 := bx6.fr 3
        have y4 := bx6.fr 4
        have hmid := HST5.out.mid (cp' := cp) hb6 hr6
        have hG6 := (HG5.out.below hb6).put5 hneg (.slice A0 L.length C0) (.slice A1 L.length C1) (.slice A2 L.length C2) (.slice A3 L.length C3) (.int .i64 (cp : Int))
        obtain ⟨W7, hW7⟩ : ∃ W7, ((((w6.setCell ⟨w3.heap.size, 0, none⟩ (.slice A0 L.length C0)).setCell ⟨w3.heap.size, 1, none⟩ (.slice A1 L.length C1)).setCell ⟨w3.heap.size, 2, none⟩ (.slice A2 L.length C2)).setCell ⟨w3.heap.size, 3, none⟩ (.slice A3 L.length C3)).setCell ⟨w3.heap.size, 4, none⟩ (.int .i64 (cp : Int)) = W7 := ⟨_, rfl⟩
        simp only [put5] at hmid hG6
        rw [hW7] at hmid hG6
        have HMID := Lib.hid hmid
        have t3 := hG6.cell 3
        have cE2 : Calls Try.prog 21 #[.pointer (some ⟨R, 0, none⟩), .int .i64 (i : Int), .string ⟨s.toArray⟩] W7 (PPost w1.heap.size R cp M' W7) := HC.out w1.heap.size W7 R cp vn HMID.out.ar
        clear hr6 hb6 cE bx6 hmid hG6 q0 q1 q2 q3 q4 hlM
        go_wp2_with fail
        refine cE2.mono ?_
        rintro e w9 ⟨rfl, L', vn', h9, hm9, hc9⟩
        have HST9 := Lib.hid (HMID.out.st hc9 h9 hm9 HM.out.1 HM.out.2 (Nat.le_succ_of_le HST1.out.cps))
        clear h9 hm9 hc9 cE2 m0 m1 m2 m3 m4 y0 y1 y2 y3 y4 hW7
        go_wp2
        go_roundw
        case rel => exact ⟨j + 1, cp, L', vn', _, _, _, _, by go_num, HJ.out.1, HST9.out.more (Nat.le_refl _) (by have := HXX.out.1; omega)⟩
        case measure => have := HJ.out.1; simp [RowKit.intOf]; omega
      have hd0b : (d == 0) = false := beq_eq_false_iff_ne.2 hd0
      have hd1b : (d == 1) = false := beq_eq_false_iff_ne.2 hd1
      have hd2b : (d == 2) = false := beq_eq_false_iff_ne.2 hd2
      have hd3b : (d == 3) = false := beq_eq_false_iff_ne.2 hd3
      clear hd0 hd1 hd2 hd3
      obtain ⟨mu, hup⟩ := HST1.out.wf.up k (by rw [List.length_map]; exact HK.out)
      have cU := runder_any HST1.out.ra cp k i mu hup
      have q0 := HST1.out.bx.cell 0
      have q1 := HST1.out.bx.cell 1
      have q2 := HST1.out.bx.cell 2
      have q3 := HST1.out.bx.cell 3
      have q4 := HST1.out.bx.cell 4
      clear hup
      go_wp2_with fail
      refine cU.mono ?_
      rintro e w5 ⟨hb5, bu, rfl, hbu⟩
      have HST5 := Lib.hid (HST1.out.below hb5)
      have HG5 := Lib.hid (HG1.out.below hb5)
      clear hb5 cU q0 q1 q2 q3 q4 g0 g3 g4
      cases bu with
      | true =>
        clear hbu
        go_wp2
        go_roundw
        case rel => exact ⟨j + 1, cp, L, vn, _, _, _, _, by go_num, HJ.out.1, HST5.out.more (Nat.le_succ _) (by have := HXX.out.1; omega)⟩
        case measure => have := HJ.out.1; simp [RowKit.intOf]; omega
      | false =>
        obtain ⟨qn, hnu⟩ := hbu rfl
        clear hbu
        obtain ⟨M', hWM, hbM, hlM, c22, c23⟩ := move_two HST1.out.wf HST1.out.bq (by have := HJ.out.1; have := HL.out; omega) HI.out HK.out hnu
        replace hbM := hbM.mono (Nat.le_succ j) (Nat.le_refl _)
        clear hnu
        have cE : Calls Try.prog 22 #[rv _ _ _ _ cp, .int .i64 (i : Int), .int .i64 (k : Int)] w5 (RPost w.heap.size cp M' w5) := c22 w.heap.size w5 _ _ _ _ cp HST5.out.ra HST5.out.hw
        have HC := Lib.hid c23
        have HM := Lib.hid (show _ ∧ _ from ⟨hWM, hbM⟩)
        have q0 := HST5.out.bx.cell 0
        have q1 := HST5.out.bx.cell 1
        have q2 := HST5.out.bx.cell 2
        have q3 := HST5.out.bx.cell 3
        have q4 := HST5.out.bx.cell 4
        clear c22 c23 hWM hbM
        go_wp2_with fail
        refine cE.mono ?_
        rintro e w6 ⟨u0, u1, u2', u3, rfl, hr6, hb6⟩
        obtain ⟨A0, C0, A1, C1, A2, C2, A3, C3, rfl, rfl, rfl, rfl⟩ := hr6.vals hlM
        have bx6 := HST5.out.bx.below hb6
        have m0 := bx6.cell 0
        have m1 := bx6.cell 1
        have m2 := bx6.cell 2
        have m3 := bx6.cell 3
        have m4 := bx6.cell 4
        have y0 := bx6.fr 0
        have y1 := bx6.fr 1
        have y2 := bx6.fr 2
        have y3 := bx6.fr 3
        have y4 := bx6.fr 4
        have hmid := HST5.out.mid (cp' := cp) hb6 hr6
        have hG6 := (HG5.out.below hb6).put5 hneg (.slice A0 L.length C0) (.slice A1 L.length C1) (.slice A2 L.length C2) (.slice A3 L.length C3) (.int .i64 (cp : Int))
        obtain ⟨W7, hW7⟩ : ∃ W7, ((((w6.setCell ⟨w3.heap.size, 0, none⟩ (.slice A0 L.length C0)).setCell ⟨w3.heap.size, 1, none⟩ (.slice A1 L.length C1)).setCell ⟨w3.heap.size, 2, none⟩ (.slice A2 L.length C2)).setCell ⟨w3.heap.size, 3, none⟩ (.slice A3 L.length C3)).setCell ⟨w3.heap.size, 4, none⟩ (.int .i64 (cp : Int)) = W7 := ⟨_, rfl⟩
        simp only [put5] at hmid hG6
        rw [hW7] at hmid hG6
        have HMID := Lib.hid hmid
        have t3 := hG6.cell 3
        have cE2 : Calls Try.prog 23 #[.pointer (some ⟨R, 0, none⟩), .int .i64 (i : Int), .int .i64 (k : Int)] W7 (PPost w1.heap.size R cp M' W7) := HC.out w1.heap.size W7 R cp vn HMID.out.ar
        clear hr6 hb6 cE bx6 hmid hG6 q0 q1 q2 q3 q4 hlM
        go_wp2_with fail
        refine cE2.mono ?_
        rintro e w9 ⟨rfl, L', vn', h9, hm9, hc9⟩
        have HST9 := Lib.hid (HMID.out.st hc9 h9 hm9 HM.out.1 HM.out.2 (Nat.le_succ_of_le HST1.out.cps))
        clear h9 hm9 hc9 cE2 m0 m1 m2 m3 m4 y0 y1 y2 y3 y4 hW7
        go_wp2
        go_roundw
        case rel => exact ⟨j + 1, cp, L', vn', _, _, _, _, by go_num, HJ.out.1, HST9.out.more (Nat.le_refl _) (by have := HXX.out.1; omega)⟩
        case measure => have := HJ.out.1; simp [RowKit.intOf]; omega
end Go.Proofs.Ytpnjjpbgbdicoaa
