/- The reference's Read, walked. -/
import Derived.Test.YtndcmapifihgeaaGreatDoorTgTo
import Derived.Test.YtndcmapifihgeaaGreatDoorTgRef2
namespace Go.Proofs.YtndcmapifihgeaaGreatDoor.Tg
open Go.RowKit Go.Lib
open Ch (at0 nx nx_width nx_range at0_lt at0_drop enc_len Sl Sl.below Cells ret_str good nx_good nxAt nxAt_in nxAt_out refNext_any ret_bool)
open Kl (blankN greatN refLower_any refLetter_any lowerZ letterZ)
open En (join_one)
open At (cellsA ads below_trans)

variable {l : List UInt8} {a : Option Addr} {cap i : Nat} {w w' : World}

/-- what the reference's Read answers at a tag -/
def RRPost (l : List UInt8) (i : Nat) (w : World) (e : Ending) (w' : World) : Prop :=
  ∃ s, e = .returned (.tuple #[tokV (tkIn l i) s, .bool true]) ∧ w'.ownsRow w.heap.size 69 2 s (tkIn l i).attrs.length (cellsA (tkIn l i).attrs) ∧ Below w.heap.size w w'

/-- what is kept of the attributes -/
def accR (k : Nat) (raw : List At.At) : List At.At := if k = 1 then ads raw else []
theorem acc_one (raw : List At.At) : accR 1 raw = ads raw := rfl
theorem acc_two (raw : List At.At) : accR 2 raw = [] := rfl
theorem fold_len0 (L : List At.At) : (ads L).length ≤ L.length := by
  have key : ∀ (L acc : List At.At), (L.foldl At.add acc).length ≤ acc.length + L.length := by
    intro L
    induction L with
    | nil => intro acc; simp
    | cons x r ih =>
      intro acc
      have h1 := ih (At.add acc x)
      have h2 := (At.add_len acc x).2
      rw [List.foldl_cons, List.length_cons]
      omega
  have := key L []
  simpa [ads] using this
theorem Bk.other {g g' j : Nat} {cs : Array Value} {t : TypeId} (h : Bk g cs t w) (hne : g ≠ g') (v : Value) : Bk g cs t (w.setCell ⟨g', j, none⟩ v) := ⟨(Below.heap_setCell _ _ _ _ hne).trans h.blk⟩
theorem sl_of2 {B : Nat} {e : TypeId} {a : Option Addr} {cap : Nat} {L : List At.At} (h : w.ownsRow B e 2 (.slice a L.length cap) L.length (cellsA L)) : At.Sl L a cap w := by
  obtain ⟨a', cap', hv, hs⟩ := At.sl_own h
  cases hv
  exact hs
theorem acc_len (k : Nat) (raw : List At.At) : (accR k raw).length ≤ raw.length := by
  unfold accR
  split
  · exact fold_len0 raw
  · simp

def RRel (l : List UInt8) (i k E0 : Nat) (N : List UInt8) (G0 G1 G2 : Nat) (w : World) (v : Value) (wr : World) : Prop :=
  ∃ (j : Nat) (raw : List At.At) (a5 : Option Addr) (cap5 : Nat), v = .int .i64 (j : Int) ∧ j ≤ l.length ∧ E0 ≤ j ∧ raw.length ≤ j ∧ Below w.heap.size w wr ∧
    Bk G0 #[.int .i64 0, .string ⟨#[]⟩, .slice none 0 0, .string ⟨#[]⟩, .int .i64 0, .int .i64 0] 31 wr ∧
    Bk G1 #[.int .i64 0, .string ⟨#[]⟩, .slice none 0 0, .string ⟨#[]⟩, .int .i64 (i : Int), .int .i64 (l.length : Int)] 31 wr ∧
    Bk G2 #[.int .i64 ((k : Int) + 1), .string ⟨N.toArray⟩, .slice a5 (accR k raw).length cap5, .string ⟨#[]⟩, .int .i64 (i : Int), .int .i64 0] 31 wr ∧
    wr.ownsRow (w.heap.size + 3) 69 2 (.slice a5 (accR k raw).length cap5) (accR k raw).length (cellsA (accR k raw)) ∧
    ats (l.drop E0) = (ats (l.drop j)).map fun p => (raw ++ p.1, j - E0 + p.2)

/-- where an attribute is read -/
theorem ats_step {E0 j : Nat} {raw : List At.At} (h0 : l.drop (j + ov pGap (l.drop j)) ≠ []) (h62 : hd (l.drop (j + ov pGap (l.drop j))) ≠ 62) (hj : E0 ≤ j)
    (he : ats (l.drop E0) = (ats (l.drop j)).map fun p => (raw ++ p.1, j - E0 + p.2)) :
    ats (l.drop E0) = (ats (l.drop (j + ov pGap (l.drop j) + (ab (l.drop (j + ov pGap (l.drop j)))).2))).map fun p => ((raw ++ [(ab (l.drop (j + ov pGap (l.drop j)))).1]) ++ p.1, j + ov pGap (l.drop j) + (ab (l.drop (j + ov pGap (l.drop j)))).2 - E0 + p.2) := by
  have hdd : (l.drop j).drop (ov pGap (l.drop j)) = l.drop (j + ov pGap (l.drop j)) := List.drop_drop
  have hn := ats_more (m := l.drop j) (by rw [hdd]; exact h0) (by rw [hdd]; exact h62)
  rw [hdd, List.drop_drop] at hn
  rw [he, hn, Option.map_map]
  congr 1
  funext p
  simp only [Function.comp_apply, List.append_assoc, List.singleton_append, Prod.mk.injEq, true_and]
  omega

theorem vcut_len {m : List UInt8} (h : vcut m) : (vl m).2 = m.length := by
  obtain ⟨hq, he⟩ := h
  have hne : m ≠ [] := hd_pos (by omega)
  unfold vl
  rw [if_pos hq, he]
  have h1 := drop_len_ov (pQ (hd m)) m 1 (List.length_pos_iff.2 hne)
  have h2 := congrArg List.length he
  simp only [List.length_drop, List.length_nil] at h2
  show 1 + _ + 0 = _
  omega

set_option maxHeartbeats 8000000 in
set_option maxRecDepth 100000 in
theorem rread_1 (hs : Sl l a cap w) (hlen : l.length ≤ 100000 - 1) (hb : bg (l.drop i) = 1) (hi : i < l.length) :
    Calls Tryz.prog 20 #[.slice a l.length cap, .int .i64 (i : Int)] w (RRPost l i w) := by
  have htw := tw_le (m := l.drop i) (by omega)
  simp only [List.length_drop] at htw
  have hbgA : bgAt l (i : Int) = 1 := by unfold bgAt; rw [if_pos (by omega)]; exact hb
  obtain ⟨W1, hW1⟩ : ∃ W, w.alloc (.cells #[.int .i64 0, .string ⟨#[]⟩, .slice none 0 0, .string ⟨#[]⟩, .int .i64 0, .int .i64 0] 31) = W := ⟨_, rfl⟩
  obtain ⟨W2, hW2⟩ : ∃ W, W1.alloc (.cells #[.int .i64 0, .string ⟨#[]⟩, .slice none 0 0, .string ⟨#[]⟩, .int .i64 (i : Int), .int .i64 (l.length : Int)] 31) = W := ⟨_, rfl⟩
  obtain ⟨W3, hW3⟩ : ∃ W, W2.alloc (.cells #[.int .i64 2, .string ⟨#[]⟩, .slice none 0 0, .string ⟨#[]⟩, .int .i64 (i : Int), .int .i64 0] 31) = W := ⟨_, rfl⟩
  have zz2 : W2.heap.size = W1.heap.size + 1 := by rw [← hW2]; simp
  have zz3 : W3.heap.size = W1.heap.size + 1 + 1 := by rw [← hW3]; simp; omega
  have hb1 : Below w.heap.size w W1 := by rw [← hW1]; exact (Below.refl _ w).alloc (Nat.le_refl _) _
  have hb2 : Below W1.heap.size W1 W2 := by rw [← hW2]; exact (Below.refl _ W1).alloc (Nat.le_refl _) _
  have hb3 : Below W2.heap.size W2 W3 := by rw [← hW3]; exact (Below.refl _ W2).alloc (Nat.le_refl _) _
  have z1 : W1.heap.size = w.heap.size + 1 := by rw [← hW1]; simp
  have z2 : W2.heap.size = w.heap.size + 2 := by rw [← hW2]; simp; omega
  have z3 : W3.heap.size = w.heap.size + 3 := by rw [← hW3]; simp; omega
  have b0 : Bk w.heap.size #[.int .i64 0, .string ⟨#[]⟩, .slice none 0 0, .string ⟨#[]⟩, .int .i64 0, .int .i64 0] 31 W1 := by rw [← hW1]; exact bk_new w _ 31
  have b1 : Bk W1.heap.size #[.int .i64 0, .string ⟨#[]⟩, .slice none 0 0, .string ⟨#[]⟩, .int .i64 (i : Int), .int .i64 (l.length : Int)] 31 W2 := by rw [← hW2]; exact bk_new W1 _ 31
  have b2 : Bk W2.heap.size #[.int .i64 2, .string ⟨#[]⟩, .slice none 0 0, .string ⟨#[]⟩, .int .i64 (i : Int), .int .i64 0] 31 W3 := by rw [← hW3]; exact bk_new W2 _ 31
  have b03 := (b0.below hb2).below hb3
  have b13 := b1.below hb3
  have hbw3 := below_trans (below_trans hb1 hb2) hb3
  have cB := rbegins_any (i : Int) W1 (hs.below hb1) (by omega)
  rw [hbgA] at cB
  have hbL : Below W3.heap.size W3 (W3.alloc (.cells #[.int .i64 9, .int .i64 10, .int .i64 12, .int .i64 32, .int .i64 47, .int .i64 62] 3)) := (Below.refl _ W3).alloc (Nat.le_refl _) _
  have cU : Calls Tryz.prog 37 #[.slice a l.length cap, .int .i64 ((i : Int) + 1), .slice (some ⟨W3.heap.size, 0, none⟩) 6 6] (W3.alloc (.cells #[.int .i64 9, .int .i64 10, .int .i64 12, .int .i64 32, .int .i64 47, .int .i64 62] 3)) _ := upTo_any [9, 10, 12, 32, 47, 62] W3.heap.size 6 (i + 1) _ (hs.below (below_trans hbw3 hbL)) (rw_new [9, 10, 12, 32, 47, 62] W3 #[.int .i64 9, .int .i64 10, .int .i64 12, .int .i64 32, .int .i64 47, .int .i64 62] rfl) (by simp) (by omega) (by omega)
  rw [in_tag] at cU
  have hNE : lw pTag (l.drop (i + 1)) = tn (l.drop i) ∧ i + 1 + ov pTag (l.drop (i + 1)) = i + tw (l.drop i) := by
    unfold tn tw
    rw [hb, List.drop_drop]
    exact ⟨rfl, by omega⟩
  rw [hNE.1, hNE.2] at cU
  obtain ⟨N, hN⟩ : ∃ N, tn (l.drop i) = N := ⟨_, rfl⟩
  obtain ⟨E0, hE0⟩ : ∃ E0, i + tw (l.drop i) = E0 := ⟨_, rfl⟩
  have htr := tr_at l i
  rw [hN, hE0] at cU
  rw [hE0] at htr
  obtain ⟨T0, hT0⟩ : ∃ T0, tw (l.drop i) = T0 := ⟨_, rfl⟩
  rw [hT0] at htr hE0 htw
  have hsome : ∀ L e, ats (l.drop E0) = some (L, e) → tkIn l i = ⟨2, N, accR 1 L, (i : Int), (i : Int) + ((T0 + e : Nat) : Int)⟩ := by
    intro L e h
    rw [tkIn_some (L := L) (e := T0 + e) (by rw [htr, h]; rfl), hb, hN]
    rfl
  have HTR := Lib.hid htr
  have HSM := Lib.hid hsome
  have HE0 := Lib.hid hE0
  have HZ1 := Lib.hid z1
  have HZ2 := Lib.hid z2
  have HZ3 := Lib.hid z3
  have HB3 := Lib.hid (below_trans hbw3 hbL)
  have HK0 := Lib.hid (b03.below hbL)
  have HK1 := Lib.hid (b13.below hbL)
  have HK2 := Lib.hid (b2.below hbL)
  have HS := Lib.hid hs
  have hne : l ≠ [] := by rintro rfl; simp at hi
  obtain ⟨hcap, hnl | ⟨bb, off, rfl, -⟩⟩ := hs
  · exact absurd hnl hne
  rw [zz3] at cU
  rw [zz2] at HK2 HZ2
  rw [← hW3, ← hW2] at cU HB3 HK0 HK1 HK2
  clear hW2 hW3 zz2 zz3
  clear hbw3 hbL b0 b1 b2 b03 b13 hb1 hb2 hb3 z1 z2 z3 hNE hN hT0 htr hsome hb hbgA
  go_enter Tryz.func20, Tryz.ntmps20
  go_wp2_with fail
  refine cB.mono ?_
  rintro e w1 ⟨rfl, rfl⟩
  go_wp2_with fail
  refine cU.mono ?_
  rintro e w5 ⟨rfl, hb5⟩
  have k2 := HK2.out.below hb5
  obtain ⟨q0, q1, q2, q3, q4, q5, f0, f1, f2, f3, f4, f5⟩ := k2.six
  have HB5 := Lib.hid (below_trans HB3.out hb5)
  have HN0 := Lib.hid (HK0.out.below hb5)
  have HN1 := Lib.hid (HK1.out.below hb5)
  have HN2 := Lib.hid k2
  clear k2 hb5 cB cU HK0 HK1 HK2 HB3
  clear hW1
  go_wp2
  go_loopw [9] (fun v wr => RRel l i 1 E0 N w.heap.size W1.heap.size (W1.heap.size + 1) w v wr) (fun v _ => l.length - (RowKit.intOf v).toNat)
  case atStart =>
    refine ⟨E0, [], none, 0, rfl, by omega, Nat.le_refl _, Nat.zero_le _, HB5.out.setCell (p := ⟨(W1.heap.size + 1), 1, none⟩) (by show w.heap.size ≤ (W1.heap.size + 1); have := HZ2.out; omega) _, HN0.out.other (by have := HZ2.out; omega) _, HN1.out.other (by have := HZ2.out; have := HZ1.out; omega) _, (HN2.out.set 1 _), World.ownsRow_nil _ _ _ _, ?_⟩
    cases ats (l.drop E0) with
    | none => rfl
    | some p => simp
  case round =>
    obtain ⟨j, raw, a5, cap5, rfl, hjl, hjE, hraw, hbw, hg0, hg1, hg2, how, heq⟩ := hrel
    have hbR : Below wr.heap.size wr (wr.alloc (.cells #[.int .i64 9, .int .i64 10, .int .i64 12, .int .i64 32, .int .i64 47] 3)) := (Below.refl _ wr).alloc (Nat.le_refl _) _
    have hbwR := below_trans hbw hbR
    have cO := over_any [9, 10, 12, 32, 47] wr.heap.size 5 j _ (HS.out.below hbwR) (rw_new [9, 10, 12, 32, 47] wr #[.int .i64 9, .int .i64 10, .int .i64 12, .int .i64 32, .int .i64 47] rfl) (by simp) hjl (by omega)
    rw [in_gap] at cO
    have hg0R := hg0.below hbR
    have hg1R := hg1.below hbR
    have hg2R := hg2.below hbR
    have howR := At.ownsRow_below how hbR
    have hszR : w.heap.size + 3 ≤ wr.heap.size := by have := hg2.lt; have := HZ2.out; omega
    obtain ⟨WA, hWA⟩ : ∃ W, wr.alloc (.cells #[.int .i64 9, .int .i64 10, .int .i64 12, .int .i64 32, .int .i64 47] 3) = W := ⟨_, rfl⟩
    rw [hWA] at cO hbR hbwR hg0R hg1R hg2R howR
    have hszA : w.heap.size + 3 ≤ WA.heap.size := by have := hbR.size; omega
    have hj1l := drop_len_ov pGap l j hjl
    have hst := fun h0 h62 => ats_step (l := l) (E0 := E0) (j := j) (raw := raw) h0 h62 hjE heq
    have hen := fun h => ats_end (m := l.drop j) h
    have hgt := fun h => ats_gt (m := l.drop j) h
    rw [List.drop_drop] at hen hgt
    obtain ⟨j1, hj1⟩ : ∃ j1, j + ov pGap (l.drop j) = j1 := ⟨_, rfl⟩
    rw [hj1] at cO hj1l hst hen hgt
    have hjj : j ≤ j1 := by omega
    have HBW := Lib.hid hbwR
    have HG0 := Lib.hid hg0R
    have HG1 := Lib.hid hg1R
    have HG2 := Lib.hid hg2R
    have HOW := Lib.hid howR
    have HJ1 := Lib.hid hj1
    have HEQ0 := Lib.hid heq
    clear hg0 hg1 hg2 how hbw hbR hj1 hszR heq
    by_cases hend : j1 = l.length
    · have u1 : ¬ ((j1 : Int) < (l.length : Int)) := by omega
      have hnone : ats (l.drop E0) = none := by rw [HEQ0.out, hen (List.drop_of_length_le (by omega))]; rfl
      have HNO := Lib.hid hnone
      obtain ⟨g0, g1, g2, g3, g4, g5, gf0, gf1, gf2, gf3, gf4, gf5⟩ := HG0.out.six
      obtain ⟨p0, p1, p2, p3, p4, p5, -, -, -, -, -, -⟩ := HG1.out.six
      clear hnone hen hgt hst hbwR hg0R hg1R hg2R howR
      go_wp2_with fail
      refine cO.mono ?_
      rintro e wx ⟨rfl, rfl⟩
      go_wp2
      (try simp only [Exit.inBlock, Exit.then])
      refine bodyPost_ret (results_row_tmp rfl _ _ w.heap.size 31 #[.int .i64 0, .string ⟨#[]⟩, .slice none 0 0, .string ⟨#[]⟩, .int .i64 (i : Int), .int .i64 (l.length : Int)] (0, 0) _ rfl ?_ Tryz.underlying31 rfl info34) rfl ?_
      · exact (HG0.out.set6 _ _ _ _ _ _).blk
      · refine ⟨.slice none 0 0, ?_, ?_, ?_⟩
        · rw [tkIn_none (by rw [HTR.out, HNO.out]; rfl)]; rfl
        · rw [tkIn_none (by rw [HTR.out, HNO.out]; rfl)]; exact World.ownsRow_nil _ _ _ _
        · exact below_set6 HBW.out (Nat.le_refl _) _ _ _ _ _ _
    have u1 : (j1 : Int) < (l.length : Int) := by omega
    have hj1lt : j1 < l.length := by omega
    obtain ⟨-, hnl | ⟨b', off', hb', hcl⟩⟩ := HS.out.below hbwR
    · exact absurd hnl hne
    cases hb'
    have cj := hcl j1 hj1lt
    have hne1 : l.drop j1 ≠ [] := nx_drop hj1lt
    have hat : at0 (l.drop j1) 0 = at0 l j1 := by rw [at0_drop]; rfl
    by_cases h62 : at0 l j1 = 62
    · have u2 : (((at0 l j1 : Nat) : Int) == 62) = true := by simp [h62]
      have hh := hd_of (m := l.drop j1) (c := 62) (by decide) (by decide) (by decide) (by rw [hat]; exact h62)
      have hs1 : ats (l.drop E0) = some (raw, j - E0 + (ov pGap (l.drop j) + 1)) := by
        rw [HEQ0.out, hgt hh.1]
        simp
      have htk := HSM.out _ _ hs1
      rw [show (i : Int) + ((T0 + (j - E0 + (ov pGap (l.drop j) + 1)) : Nat) : Int) = (j1 : Int) + 1 by have := HJ1.out; have := HE0.out; omega] at htk
      have HTK := Lib.hid htk
      obtain ⟨g0, g1, g2, g3, g4, g5, gf0, gf1, gf2, gf3, gf4, gf5⟩ := HG0.out.six
      obtain ⟨p0, p1, p2, p3, p4, p5, pf0, pf1, pf2, pf3, pf4, pf5⟩ := HG2.out.six
      have hgne : w.heap.size ≠ (W1.heap.size + 1) := by have := HZ2.out; omega
      generalize at0 l j1 = C at cj u2
      clear h62 hh hs1 htk hen hgt hst hbwR hg0R hg1R hg2R howR hcl hat hne1
      go_wp2_with fail
      refine cO.mono ?_
      rintro e wx ⟨rfl, rfl⟩
      go_wp2
      (try simp only [Exit.inBlock, Exit.then])
      refine bodyPost_ret (results_row_tmp rfl _ _ w.heap.size 31 #[.int .i64 2, .string ⟨N.toArray⟩, .slice a5 (accR 1 raw).length cap5, .string ⟨#[]⟩, .int .i64 (i : Int), .int .i64 ((j1 : Int) + 1)] (0, 0) _ rfl ?_ Tryz.underlying31 rfl info34) rfl ?_
      · exact ((HG0.out.other hgne _).set6 _ _ _ _ _ _).blk
      · refine ⟨.slice a5 (accR 1 raw).length cap5, ?_, ?_, ?_⟩
        · rw [HTK.out]; rfl
        · rw [HTK.out]
          have hown2 := HOW.out.kept (grown_set _ (W1.heap.size + 1) 5 (.int .i64 ((j1 : Int) + 1))) (by
            cases hv : (Value.slice a5 (accR 1 raw).length cap5).ownBlock with
            | none => exact Or.inl rfl
            | some q => have := (HOW.out.lt q hv).1; have := HZ2.out; exact Or.inr (by simp; omega))
          exact own_set6 (At.ownsRow_base hown2 (by omega)) (by
            cases hv : (Value.slice a5 (accR 1 raw).length cap5).ownBlock with
            | none => exact Or.inl rfl
            | some q => have := (HOW.out.lt q hv).1; exact Or.inr (by simp; omega)) _ _ _ _ _ _
        · exact below_set6 (HBW.out.setCell (p := ⟨(W1.heap.size + 1), 5, none⟩) (by show w.heap.size ≤ (W1.heap.size + 1); have := HZ1.out; omega) _) (Nat.le_refl _) _ _ _ _ _ _
    have u2 : (((at0 l j1 : Nat) : Int) == 62) = false := by simp; omega
    have h62' : hd (l.drop j1) ≠ 62 := fun q => h62 (by rw [← hat]; exact (hd_is (c := 62) (by decide) (by decide) (by decide) q).1)
    have heq2 := hst hne1 h62'
    have hw := nx_width _ hne1
    simp only [List.length_drop] at hw
    have hgd := nx_good (l.drop j1)
    have cN := refNext_any l (some ⟨bb, off, none⟩) cap (j1 : Int) WA (HS.out.below hbwR) (by omega)
    rw [nxAt_in hj1lt] at cN
    have cL := refLower_any ((nx (l.drop j1)).1 : Int) WA
    rw [lowZ] at cL
    have cU8 := utf_ok (lowN (nx (l.drop j1)).1) WA (good_ok (lowN_good hgd))
    have hA : aN (l.drop j1) = encodeRune ((lowN (nx (l.drop j1)).1 : Nat) : Int) ++ lw pAtt (l.drop (j1 + (nx (l.drop j1)).2)) := by unfold aN; rw [List.drop_drop]
    have hA1 : a1 (l.drop j1) = (nx (l.drop j1)).2 + ov pAtt (l.drop (j1 + (nx (l.drop j1)).2)) := by unfold a1; rw [List.drop_drop]
    have e2 := a2_at l j1
    have e3 := a3_at l j1
    have hab1 := ab_le hne1
    have hML := lw_len pAtt (l.drop (j1 + (nx (l.drop j1)).2))
    simp only [List.length_drop] at hab1 hML
    have habY : hd (l.drop (j1 + a2 (l.drop j1))) = 61 → ab (l.drop j1) = ((aN (l.drop j1), (vl (l.drop (j1 + a3 (l.drop j1)))).1), a3 (l.drop j1) + (vl (l.drop (j1 + a3 (l.drop j1)))).2) := by
      intro q; unfold ab; rw [List.drop_drop, List.drop_drop, if_pos q]
    have habN : hd (l.drop (j1 + a2 (l.drop j1))) ≠ 61 → ab (l.drop j1) = ((aN (l.drop j1), []), a2 (l.drop j1)) := by
      intro q; unfold ab; rw [List.drop_drop, if_neg q]
    have ha2 := a2_le hne1
    have ha1 := a1_le hne1
    simp only [List.length_drop] at ha2 ha1
    have ha3 : hd (l.drop (j1 + a2 (l.drop j1))) = 61 → a2 (l.drop j1) + 1 ≤ a3 (l.drop j1) ∧ a3 (l.drop j1) ≤ l.length - j1 := by
      intro q
      have := a3_le hne1 (by rw [List.drop_drop]; exact q)
      simpa using this
    generalize nx (l.drop j1) = RR at cN cL cU8 hw hA hA1 hML
    obtain ⟨c, n⟩ := RR
    simp only at cN cL cU8 hw hA hA1 hML
    obtain ⟨q, hq⟩ : ∃ q, encodeRune ((lowN c : Nat) : Int) = q := ⟨_, rfl⟩
    have hql : q.length ≤ 4 := by rw [← hq]; exact (enc_len _).2
    obtain ⟨M, hM⟩ : ∃ M, lw pAtt (l.drop (j1 + n)) = M := ⟨_, rfl⟩
    obtain ⟨X, hX⟩ : ∃ X, q ++ M = X := ⟨_, rfl⟩
    rw [hq, hM, hX] at hA
    rw [hM] at hML
    have hjoin : (⟨q.toArray⟩ ++ ⟨M.toArray⟩ : ByteArray) = ⟨X.toArray⟩ := by rw [join_one, hX]
    have kp : ¬ (9223372036854775807 < q.length + M.length) := by omega
    obtain ⟨A1, hA1'⟩ : ∃ A1, a1 (l.drop j1) = A1 := ⟨_, rfl⟩
    obtain ⟨A2, hA2'⟩ : ∃ A2, a2 (l.drop j1) = A2 := ⟨_, rfl⟩
    obtain ⟨A3, hA3'⟩ : ∃ A3, a3 (l.drop j1) = A3 := ⟨_, rfl⟩
    rw [hA1', hA2'] at e2
    rw [hA2', hA3'] at e3
    rw [hA1'] at hA1 ha1
    rw [hA1', hA2'] at ha2
    rw [hA2', hA3'] at ha3
    rw [hA2', hA3', hA] at habY
    rw [hA2', hA] at habN
    have HQ := Lib.hid hq
    have HEQ2 := Lib.hid heq2
    have HY := Lib.hid habY
    have HNN := Lib.hid habN
    have HE2 := Lib.hid e2
    have HE3 := Lib.hid e3
    have HA1 := Lib.hid hA1
    have HMM := Lib.hid hM
    have HCL := Lib.hid hcl
    have HAB := Lib.hid hab1
    have HA3 := Lib.hid ha3
    generalize at0 l j1 = C at cj u2
    clear hq hX hM hA heq2 habY habN e2 e3 hA1 hA1' hA2' hA3' hcl hat hab1 ha3 hen hgt hst h62 h62' hbwR hg0R hg1R hg2R howR hgd hne1
    go_wp2_with fail
    refine cO.mono ?_
    rintro e wx ⟨rfl, rfl⟩
    go_wp2_with fail
    refine cN.mono ?_
    rintro e wx ⟨rfl, rfl⟩
    go_wp2_with fail
    refine cL.mono ?_
    rintro e wx ⟨rfl, rfl⟩
    go_wp2_with fail
    refine cU8.mono ?_
    rintro e w6 ⟨cap6, rfl, hcs, hb6⟩
    rw [HQ.out] at hcs ⊢
    have hstr := string_cells (cap := cap6) hcs rfl
    have hz7 : (w6.alloc (.cells #[.string ⟨q.toArray⟩, .string ⟨#[]⟩] 69)).heap.size = w6.heap.size + 1 := by simp
    have hr7 := rw_new [9, 10, 12, 32, 47, 62, 61] (w6.alloc (.cells #[.string ⟨q.toArray⟩, .string ⟨#[]⟩] 69)) #[.int .i64 9, .int .i64 10, .int .i64 12, .int .i64 32, .int .i64 47, .int .i64 62, .int .i64 61] rfl
    rw [hz7] at hr7
    have hb67 : Below w6.heap.size w6 ((w6.alloc (.cells #[.string ⟨q.toArray⟩, .string ⟨#[]⟩] 69)).alloc (.cells #[.int .i64 9, .int .i64 10, .int .i64 12, .int .i64 32, .int .i64 47, .int .i64 62, .int .i64 61] 3)) := ((Below.refl _ w6).alloc (Nat.le_refl _) _).alloc (by simp) _
    have hbA7 := below_trans hb6 hb67
    have hbw7 := below_trans HBW.out hbA7
    have cU7 : Calls Tryz.prog 37 #[.slice (some ⟨bb, off, none⟩) l.length cap, .int .i64 ((j1 : Int) + (n : Int)), .slice (some ⟨w6.heap.size + 1, 0, none⟩) 7 7] _ _ := upTo_any [9, 10, 12, 32, 47, 62, 61] (w6.heap.size + 1) 7 (j1 + n) _ (HS.out.below hbw7) hr7 (by simp) (by omega) (by omega)
    rw [in_att, HMM.out] at cU7
    have hE1 : j1 + n + ov pAtt (l.drop (j1 + n)) = j1 + A1 := by have := HA1.out; omega
    rw [hE1] at cU7
    have HT7 := Lib.hid ((bk_new w6 #[.string ⟨q.toArray⟩, .string ⟨#[]⟩] 69).alloc (.cells #[.int .i64 9, .int .i64 10, .int .i64 12, .int .i64 32, .int .i64 47, .int .i64 62, .int .i64 61] 3))
    have HBA7 := Lib.hid hbA7
    have HBW7 := Lib.hid hbw7
    have hz6 := hb6.size
    clear hcs hb6 hb67 hbA7 hbw7 hr7 hz7 cO cN cL cU8 hWA hE1
    go_wp2_with fail
    refine cU7.mono ?_
    rintro e w9 ⟨rfl, hb9⟩
    have hT9 := HT7.out.below hb9
    have t0 := hT9.cell 0
    have t1 := hT9.cell 1
    have tf0 := hT9.fr 0
    have hbA9 := below_trans HBA7.out hb9
    have hz9 := hT9.lt
    have hb9s : Below WA.heap.size WA (w9.setCell ⟨w6.heap.size, 0, none⟩ (.string ⟨X.toArray⟩)) := hbA9.setCell (p := ⟨w6.heap.size, 0, none⟩) (by show WA.heap.size ≤ w6.heap.size; omega) _
    have hr4 := rw_new [9, 10, 12, 32] (w9.setCell ⟨w6.heap.size, 0, none⟩ (.string ⟨X.toArray⟩)) #[.int .i64 9, .int .i64 10, .int .i64 12, .int .i64 32] rfl
    rw [World.size_setCell] at hr4
    have hbAB : Below WA.heap.size WA ((w9.setCell ⟨w6.heap.size, 0, none⟩ (.string ⟨X.toArray⟩)).alloc (.cells #[.int .i64 9, .int .i64 10, .int .i64 12, .int .i64 32] 3)) := hb9s.alloc hb9s.size _
    have hbwB := below_trans HBW.out hbAB
    have cO4 : Calls Tryz.prog 38 #[.slice (some ⟨bb, off, none⟩) l.length cap, .int .i64 ((j1 + A1 : Nat) : Int), .slice (some ⟨w9.heap.size, 0, none⟩) 4 4] _ _ := over_any [9, 10, 12, 32] w9.heap.size 4 (j1 + A1) _ (HS.out.below hbwB) hr4 (by simp) (by omega) (by omega)
    rw [in_blank, HE2.out] at cO4
    have hTB : Bk w6.heap.size #[.string ⟨X.toArray⟩, .string ⟨#[]⟩] 69 ((w9.setCell ⟨w6.heap.size, 0, none⟩ (.string ⟨X.toArray⟩)).alloc (.cells #[.int .i64 9, .int .i64 10, .int .i64 12, .int .i64 32] 3)) := Bk.alloc ⟨(hT9.set 0 _).blk⟩ _
    obtain ⟨WB, hWB⟩ : ∃ W, (w9.setCell ⟨w6.heap.size, 0, none⟩ (.string ⟨X.toArray⟩)).alloc (.cells #[.int .i64 9, .int .i64 10, .int .i64 12, .int .i64 32] 3) = W := ⟨_, rfl⟩
    rw [hWB] at cO4 hbAB hbwB hTB
    have hBB0 := HG0.out.below hbAB
    have hBB1 := HG1.out.below hbAB
    have hBB2 := HG2.out.below hbAB
    have hBBO := At.ownsRow_below HOW.out hbAB
    have hszB : w.heap.size + 3 ≤ WB.heap.size := by have := hbAB.size; omega
    have hclB := HCL.out.below hbAB
    have hT6 : w.heap.size + 3 ≤ w6.heap.size := by omega
    have HLT := Lib.hid (fun q hq => (HOW.out.lt q hq).2 : ∀ q, (Value.slice a5 (accR 1 raw).length cap5).ownBlock = some q → q < WA.heap.size)
    clear HG0 HG1 HG2 HOW HBW HBA7 HBW7 HT7 hT9 hbA9 hb9s hb9 hr4 cU7
    have HBW := Lib.hid hbwB
    have HG0 := Lib.hid hBB0
    have HG1 := Lib.hid hBB1
    have HG2 := Lib.hid hBB2
    have HOW := Lib.hid hBBO
    have HT12 := Lib.hid hTB
    have HSZ := Lib.hid hszB
    clear hbAB hBB0 hBB1 hBB2 hBBO hTB
    by_cases h61 : hd (l.drop (j1 + A2)) = 61
    · have hab := HY.out h61
      have hA3b := HA3.out h61
      have heq3 := HEQ2.out
      rw [hab] at heq3
      simp only at heq3
      have hh61 := hd_is (c := 61) (by decide) (by decide) (by decide) h61
      have hl2 : j1 + A2 < l.length := by
        have := List.length_pos_iff.2 hh61.2.2
        simp at this
        omega
      have h61b : at0 l (j1 + A2) = 61 := by
        have := hh61.1
        rw [at0_drop, Nat.add_zero] at this
        exact this
      have cV := rvalue_any (j1 + A2 + 1) WB (HS.out.below hbwB) (by omega) hne (by omega)
      rw [HE3.out] at cV
      have hvle := vl_le (l.drop (j1 + A3))
      simp only [List.length_drop] at hvle
      have cj2 := hclB (j1 + A2) hl2
      obtain ⟨J2, hJ2⟩ : ∃ J2, j1 + A2 = J2 := ⟨_, rfl⟩
      rw [hJ2] at cO4 cV cj2 h61b
      have cV' : Calls Tryz.prog 40 #[.slice (some ⟨bb, off, none⟩) l.length cap, .int .i64 ((J2 : Int) + 1)] WB (RvPost l (j1 + A3) WB) := cV
      have v1 : (J2 : Int) < (l.length : Int) := by omega
      have v2 : (((at0 l J2 : Nat) : Int) == 61) = true := by simp [h61b]
      generalize at0 l J2 = C2 at cj2 v2
      clear hab h61 hbwB hclB hh61 h61b cV
      go_wp2_with fail
      refine cO4.mono ?_
      rintro e wx ⟨rfl, rfl⟩
      go_wp2_with fail
      refine cV'.mono ?_
      rintro e w12 ⟨hb12, ⟨hvc, rfl⟩ | ⟨hvc, rfl⟩⟩
      · have hT12 := HT12.out.below hb12
        have t1 := hT12.cell 1
        have tf1 := hT12.fr 1
        have hvl := vcut_len hvc
        simp only [List.length_drop] at hvl
        have hnone : ats (l.drop E0) = none := by
          have hdn : l.drop (j1 + (A3 + (vl (l.drop (j1 + A3))).2)) = [] := List.drop_of_length_le (by omega)
          rw [heq3, hdn, ats_end rfl]
          rfl
        have HNO := Lib.hid hnone
        have k0 := HG0.out.below hb12
        have k1 := HG1.out.below hb12
        obtain ⟨g0, g1, g2, g3, g4, g5, gf0, gf1, gf2, gf3, gf4, gf5⟩ := k0.six
        obtain ⟨p0, p1, p2, p3, p4, p5, -, -, -, -, -, -⟩ := k1.six
        have hgn0 : w.heap.size ≠ w6.heap.size := by omega
        have hgn1 : W1.heap.size ≠ w6.heap.size := by have := HZ1.out; omega
        have HBX := Lib.hid ((below_trans HBW.out hb12).setCell (p := ⟨w6.heap.size, 1, none⟩) (by show w.heap.size ≤ w6.heap.size; omega) (.string ⟨#[]⟩))
        clear HG0
        have HG0 := Lib.hid (k0.other (j := 1) hgn0 (.string ⟨#[]⟩))
        clear hnone hvc hvl hb12 hT12 k0 k1 heq3 hWB
        go_wp2
        (try simp only [Exit.inBlock, Exit.then])
        refine bodyPost_ret (results_row_tmp rfl _ _ w.heap.size 31 #[.int .i64 0, .string ⟨#[]⟩, .slice none 0 0, .string ⟨#[]⟩, .int .i64 (i : Int), .int .i64 (l.length : Int)] (0, 0) _ rfl ?_ Tryz.underlying31 rfl info34) rfl ?_
        · exact (HG0.out.set6 _ _ _ _ _ _).blk
        · refine ⟨.slice none 0 0, ?_, ?_, ?_⟩
          · rw [tkIn_none (by rw [HTR.out, HNO.out]; rfl)]; rfl
          · rw [tkIn_none (by rw [HTR.out, HNO.out]; rfl)]; exact World.ownsRow_nil _ _ _ _
          · exact below_set6 HBX.out (Nat.le_refl _) _ _ _ _ _ _
      · have hT12 := HT12.out.below hb12
        have t1a := hT12.cell 1
        have tf1 := hT12.fr 1
        obtain ⟨V, hV⟩ : ∃ V, (vl (l.drop (j1 + A3))).1 = V := ⟨_, rfl⟩
        obtain ⟨P, hP⟩ : ∃ P, j1 + A3 + (vl (l.drop (j1 + A3))).2 = P := ⟨_, rfl⟩
        rw [hV, ← Nat.add_assoc, hP] at heq3
        rw [hV, hP]
        have hPj : j1 < P ∧ P ≤ l.length := by omega
        have v3 : ¬ ((P : Int) < 0) := by omega
        have hbwC := (below_trans HBW.out hb12).setCell (p := ⟨w6.heap.size, 1, none⟩) (by show w.heap.size ≤ w6.heap.size; omega) (.string ⟨V.toArray⟩)
        have k0 := (HG0.out.below hb12).other (j := 1) (show w.heap.size ≠ w6.heap.size by omega) (.string ⟨V.toArray⟩)
        have k1 := (HG1.out.below hb12).other (j := 1) (show W1.heap.size ≠ w6.heap.size by have := HZ1.out; omega) (.string ⟨V.toArray⟩)
        have k2 := (HG2.out.below hb12).other (j := 1) (show W1.heap.size + 1 ≠ w6.heap.size by have := HZ1.out; omega) (.string ⟨V.toArray⟩)
        have ko := (At.ownsRow_below HOW.out hb12).kept (grown_set w12 w6.heap.size 1 (.string ⟨V.toArray⟩)) (by
          cases hv : (Value.slice a5 (accR 1 raw).length cap5).ownBlock with
          | none => exact Or.inl rfl
          | some q => have := HLT.out q hv; exact Or.inr (by simp; omega))
        have hTC : Bk w6.heap.size #[.string ⟨X.toArray⟩, .string ⟨V.toArray⟩] 69 (w12.setCell ⟨w6.heap.size, 1, none⟩ (.string ⟨V.toArray⟩)) := ⟨(hT12.set 1 _).blk⟩
        have hszC : w.heap.size + 3 ≤ (w12.setCell ⟨w6.heap.size, 1, none⟩ (.string ⟨V.toArray⟩)).heap.size := by
          rw [World.size_setCell]
          have := hb12.size
          have := HSZ.out
          omega
        obtain ⟨WC, hWC⟩ : ∃ W, w12.setCell ⟨w6.heap.size, 1, none⟩ (.string ⟨V.toArray⟩) = W := ⟨_, rfl⟩
        rw [hWC] at hbwC k0 k1 k2 ko hTC hszC
        clear HG0 HG1 HG2 HOW HBW HT12 HSZ hT12 hb12 hvc hWB
        have HBW := Lib.hid hbwC
        have HG0 := Lib.hid k0
        have HG1 := Lib.hid k1
        have HG2 := Lib.hid k2
        have HOW := Lib.hid ko
        have HT12 := Lib.hid hTC
        have HSZ := Lib.hid hszC
        have HEQ := Lib.hid heq3
        clear hbwC k0 k1 k2 ko hTC heq3 hV hP
        have hsl := sl_of2 HOW.out
        have cAd := At.radd_any (accR 1 raw) a5 cap5 ((X, V)) WC hsl (by have := acc_len 1 raw; omega)
        obtain ⟨g0, g1, g2, g3, g4, g5, gf0, gf1, gf2, gf3, gf4, gf5⟩ := HG2.out.six
        have t0 := HT12.out.cell 0
        have t1 := HT12.out.cell 1
        go_wp2_with fail
        refine cAd.mono ?_
        rintro e wA ⟨v, rfl, hoA, hbA⟩
        obtain ⟨a6, cap6, rfl, -⟩ := At.sl_own hoA
        have c2A := HG2.out.below hbA
        obtain ⟨p0, p1, p2, p3, p4, p5, pf0, pf1, pf2, pf3, pf4, pf5⟩ := c2A.six
        have HBA := Lib.hid (HBW.out.trans (hbA.mono HBW.out.size))
        have HA0 := Lib.hid (HG0.out.below hbA)
        have HA1 := Lib.hid (HG1.out.below hbA)
        have HA2 := Lib.hid c2A
        have hzz : w.heap.size + 3 ≤ WC.heap.size := HSZ.out
        have HOA := Lib.hid (At.ownsRow_base hoA hzz)
        have hacc : At.add (accR 1 raw) ((X, V)) = accR 1 (raw ++ [(X, V)]) := by rw [acc_one, acc_one]; unfold ads; rw [List.foldl_append]; rfl
        rw [hacc] at HOA
        have HAC := Lib.hid hacc
        clear hoA hbA c2A hsl cAd hacc
        go_wp2
        go_roundw
        case rel =>
          refine ⟨P, raw ++ [(X, V)], a6, cap6, by first | rfl | (congr 1; omega) | go_num, by omega, by omega, by simp; omega, HBA.out.setCell (p := ⟨(W1.heap.size + 1), 2, none⟩) (by show w.heap.size ≤ (W1.heap.size + 1); have := HZ2.out; omega) _, ?_, ?_, ?_, ?_, HEQ.out⟩
          · exact HA0.out.other (by have := HZ2.out; omega) _
          · exact HA1.out.other (by have := HZ2.out; have := HZ1.out; omega) _
          · rw [HAC.out]
            exact HA2.out.set 2 _
          · exact HOA.out.kept (grown_set _ (W1.heap.size + 1) 2 _) (by
              cases hv : (Value.slice a6 (accR 1 (raw ++ [(X, V)])).length cap6).ownBlock with
              | none => exact Or.inl rfl
              | some q => have := (HOA.out.lt q hv).1; have := HZ2.out; exact Or.inr (by simp; omega))
        case measure => first | (simp [RowKit.intOf]; omega) | (unfold RowKit.intOf; simp; omega)
    · have hab := HNN.out h61
      have heq3 := HEQ2.out
      rw [hab] at heq3
      simp only at heq3
      have HEQ := Lib.hid heq3
      by_cases hl2 : j1 + A2 < l.length
      · have v1 : ((j1 : Int) + (A2 : Int)) < (l.length : Int) := by omega
        have v1' : (((j1 + A2 : Nat) : Int)) < (l.length : Int) := by omega
        have cj2 : WB.cell? ⟨bb, off + (j1 + A2), none⟩ = some (.int .u8 ((at0 l (j1 + A2) : Nat) : Int)) := hclB (j1 + A2) hl2
        have v2 : (((at0 l (j1 + A2) : Nat) : Int) == 61) = false := by
          have hn61 : at0 l (j1 + A2) ≠ 61 := by
            intro qq
            exact h61 (hd_of (m := l.drop (j1 + A2)) (c := 61) (by decide) (by decide) (by decide) (by rw [at0_drop]; exact qq)).1
          simp
          omega
        generalize at0 l (j1 + A2) = C2 at cj2 v2
        clear hab heq3 h61 hbwB hclB
        go_wp2_with fail
        refine cO4.mono ?_
        rintro e wx ⟨rfl, rfl⟩
        have hsl := sl_of2 HOW.out
        have cAd := At.radd_any (accR 1 raw) a5 cap5 ((X, ([] : List UInt8))) WB hsl (by have := acc_len 1 raw; omega)
        obtain ⟨g0, g1, g2, g3, g4, g5, gf0, gf1, gf2, gf3, gf4, gf5⟩ := HG2.out.six
        have t0 := HT12.out.cell 0
        have t1 := HT12.out.cell 1
        go_wp2_with fail
        refine cAd.mono ?_
        rintro e wA ⟨v, rfl, hoA, hbA⟩
        obtain ⟨a6, cap6, rfl, -⟩ := At.sl_own hoA
        have c2A := HG2.out.below hbA
        obtain ⟨p0, p1, p2, p3, p4, p5, pf0, pf1, pf2, pf3, pf4, pf5⟩ := c2A.six
        have HBA := Lib.hid (HBW.out.trans (hbA.mono HBW.out.size))
        have HA0 := Lib.hid (HG0.out.below hbA)
        have HA1 := Lib.hid (HG1.out.below hbA)
        have HA2 := Lib.hid c2A
        have hzz : w.heap.size + 3 ≤ WB.heap.size := HSZ.out
        have HOA := Lib.hid (At.ownsRow_base hoA hzz)
        have hacc : At.add (accR 1 raw) ((X, ([] : List UInt8))) = accR 1 (raw ++ [(X, ([] : List UInt8))]) := by rw [acc_one, acc_one]; unfold ads; rw [List.foldl_append]; rfl
        rw [hacc] at HOA
        have HAC := Lib.hid hacc
        clear hoA hbA c2A hsl cAd hacc
        go_wp2
        go_roundw
        case rel =>
          refine ⟨j1 + A2, raw ++ [(X, ([] : List UInt8))], a6, cap6, by first | rfl | (congr 1; omega) | go_num, by omega, by omega, by simp; omega, HBA.out.setCell (p := ⟨(W1.heap.size + 1), 2, none⟩) (by show w.heap.size ≤ (W1.heap.size + 1); have := HZ2.out; omega) _, ?_, ?_, ?_, ?_, HEQ.out⟩
          · exact HA0.out.other (by have := HZ2.out; omega) _
          · exact HA1.out.other (by have := HZ2.out; have := HZ1.out; omega) _
          · rw [HAC.out]
            exact HA2.out.set 2 _
          · exact HOA.out.kept (grown_set _ (W1.heap.size + 1) 2 _) (by
              cases hv : (Value.slice a6 (accR 1 (raw ++ [(X, ([] : List UInt8))])).length cap6).ownBlock with
              | none => exact Or.inl rfl
              | some q => have := (HOA.out.lt q hv).1; have := HZ2.out; exact Or.inr (by simp; omega))
        case measure => first | (simp [RowKit.intOf]; omega) | (unfold RowKit.intOf; simp; omega)
      · have v1 : ¬ (((j1 : Int) + (A2 : Int)) < (l.length : Int)) := by omega
        have v1' : ¬ ((((j1 + A2 : Nat) : Int)) < (l.length : Int)) := by omega
        clear hab heq3 h61 hbwB hclB
        go_wp2_with fail
        refine cO4.mono ?_
        rintro e wx ⟨rfl, rfl⟩
        have hsl := sl_of2 HOW.out
        have cAd := At.radd_any (accR 1 raw) a5 cap5 ((X, ([] : List UInt8))) WB hsl (by have := acc_len 1 raw; omega)
        obtain ⟨g0, g1, g2, g3, g4, g5, gf0, gf1, gf2, gf3, gf4, gf5⟩ := HG2.out.six
        have t0 := HT12.out.cell 0
        have t1 := HT12.out.cell 1
        go_wp2_with fail
        refine cAd.mono ?_
        rintro e wA ⟨v, rfl, hoA, hbA⟩
        obtain ⟨a6, cap6, rfl, -⟩ := At.sl_own hoA
        have c2A := HG2.out.below hbA
        obtain ⟨p0, p1, p2, p3, p4, p5, pf0, pf1, pf2, pf3, pf4, pf5⟩ := c2A.six
        have HBA := Lib.hid (HBW.out.trans (hbA.mono HBW.out.size))
        have HA0 := Lib.hid (HG0.out.below hbA)
        have HA1 := Lib.hid (HG1.out.below hbA)
        have HA2 := Lib.hid c2A
        have hzz : w.heap.size + 3 ≤ WB.heap.size := HSZ.out
        have HOA := Lib.hid (At.ownsRow_base hoA hzz)
        have hacc : At.add (accR 1 raw) ((X, ([] : List UInt8))) = accR 1 (raw ++ [(X, ([] : List UInt8))]) := by rw [acc_one, acc_one]; unfold ads; rw [List.foldl_append]; rfl
        rw [hacc] at HOA
        have HAC := Lib.hid hacc
        clear hoA hbA c2A hsl cAd hacc
        go_wp2
        go_roundw
        case rel =>
          refine ⟨j1 + A2, raw ++ [(X, ([] : List UInt8))], a6, cap6, by first | rfl | (congr 1; omega) | go_num, by omega, by omega, by simp; omega, HBA.out.setCell (p := ⟨(W1.heap.size + 1), 2, none⟩) (by show w.heap.size ≤ (W1.heap.size + 1); have := HZ2.out; omega) _, ?_, ?_, ?_, ?_, HEQ.out⟩
          · exact HA0.out.other (by have := HZ2.out; omega) _
          · exact HA1.out.other (by have := HZ2.out; have := HZ1.out; omega) _
          · rw [HAC.out]
            exact HA2.out.set 2 _
          · exact HOA.out.kept (grown_set _ (W1.heap.size + 1) 2 _) (by
              cases hv : (Value.slice a6 (accR 1 (raw ++ [(X, ([] : List UInt8))])).length cap6).ownBlock with
              | none => exact Or.inl rfl
              | some q => have := (HOA.out.lt q hv).1; have := HZ2.out; exact Or.inr (by simp; omega))
        case measure => first | (simp [RowKit.intOf]; omega) | (unfold RowKit.intOf; simp; omega)

set_option maxHeartbeats 8000000 in
set_option maxRecDepth 100000 in
theorem rread_2 (hs : Sl l a cap w) (hlen : l.length ≤ 100000 - 1) (hb : bg (l.drop i) = 2) (hi : i < l.length) :
    Calls Tryz.prog 20 #[.slice a l.length cap, .int .i64 (i : Int)] w (RRPost l i w) := by
  have htw := tw_le (m := l.drop i) (by omega)
  simp only [List.length_drop] at htw
  have hbgA : bgAt l (i : Int) = 2 := by unfold bgAt; rw [if_pos (by omega)]; exact hb
  obtain ⟨W1, hW1⟩ : ∃ W, w.alloc (.cells #[.int .i64 0, .string ⟨#[]⟩, .slice none 0 0, .string ⟨#[]⟩, .int .i64 0, .int .i64 0] 31) = W := ⟨_, rfl⟩
  obtain ⟨W2, hW2⟩ : ∃ W, W1.alloc (.cells #[.int .i64 0, .string ⟨#[]⟩, .slice none 0 0, .string ⟨#[]⟩, .int .i64 (i : Int), .int .i64 (l.length : Int)] 31) = W := ⟨_, rfl⟩
  obtain ⟨W3, hW3⟩ : ∃ W, W2.alloc (.cells #[.int .i64 3, .string ⟨#[]⟩, .slice none 0 0, .string ⟨#[]⟩, .int .i64 (i : Int), .int .i64 0] 31) = W := ⟨_, rfl⟩
  have zz2 : W2.heap.size = W1.heap.size + 1 := by rw [← hW2]; simp
  have zz3 : W3.heap.size = W1.heap.size + 1 + 1 := by rw [← hW3]; simp; omega
  have hb1 : Below w.heap.size w W1 := by rw [← hW1]; exact (Below.refl _ w).alloc (Nat.le_refl _) _
  have hb2 : Below W1.heap.size W1 W2 := by rw [← hW2]; exact (Below.refl _ W1).alloc (Nat.le_refl _) _
  have hb3 : Below W2.heap.size W2 W3 := by rw [← hW3]; exact (Below.refl _ W2).alloc (Nat.le_refl _) _
  have z1 : W1.heap.size = w.heap.size + 1 := by rw [← hW1]; simp
  have z2 : W2.heap.size = w.heap.size + 2 := by rw [← hW2]; simp; omega
  have z3 : W3.heap.size = w.heap.size + 3 := by rw [← hW3]; simp; omega
  have b0 : Bk w.heap.size #[.int .i64 0, .string ⟨#[]⟩, .slice none 0 0, .string ⟨#[]⟩, .int .i64 0, .int .i64 0] 31 W1 := by rw [← hW1]; exact bk_new w _ 31
  have b1 : Bk W1.heap.size #[.int .i64 0, .string ⟨#[]⟩, .slice none 0 0, .string ⟨#[]⟩, .int .i64 (i : Int), .int .i64 (l.length : Int)] 31 W2 := by rw [← hW2]; exact bk_new W1 _ 31
  have b2 : Bk W2.heap.size #[.int .i64 3, .string ⟨#[]⟩, .slice none 0 0, .string ⟨#[]⟩, .int .i64 (i : Int), .int .i64 0] 31 W3 := by rw [← hW3]; exact bk_new W2 _ 31
  have b03 := (b0.below hb2).below hb3
  have b13 := b1.below hb3
  have hbw3 := below_trans (below_trans hb1 hb2) hb3
  have cB := rbegins_any (i : Int) W1 (hs.below hb1) (by omega)
  rw [hbgA] at cB
  have hbL : Below W3.heap.size W3 (W3.alloc (.cells #[.int .i64 9, .int .i64 10, .int .i64 12, .int .i64 32, .int .i64 47, .int .i64 62] 3)) := (Below.refl _ W3).alloc (Nat.le_refl _) _
  have cU : Calls Tryz.prog 37 #[.slice a l.length cap, .int .i64 ((i : Int) + 2), .slice (some ⟨W3.heap.size, 0, none⟩) 6 6] (W3.alloc (.cells #[.int .i64 9, .int .i64 10, .int .i64 12, .int .i64 32, .int .i64 47, .int .i64 62] 3)) _ := upTo_any [9, 10, 12, 32, 47, 62] W3.heap.size 6 (i + 2) _ (hs.below (below_trans hbw3 hbL)) (rw_new [9, 10, 12, 32, 47, 62] W3 #[.int .i64 9, .int .i64 10, .int .i64 12, .int .i64 32, .int .i64 47, .int .i64 62] rfl) (by simp) (by omega) (by omega)
  rw [in_tag] at cU
  have hNE : lw pTag (l.drop (i + 2)) = tn (l.drop i) ∧ i + 2 + ov pTag (l.drop (i + 2)) = i + tw (l.drop i) := by
    unfold tn tw
    rw [hb, List.drop_drop]
    exact ⟨rfl, by omega⟩
  rw [hNE.1, hNE.2] at cU
  obtain ⟨N, hN⟩ : ∃ N, tn (l.drop i) = N := ⟨_, rfl⟩
  obtain ⟨E0, hE0⟩ : ∃ E0, i + tw (l.drop i) = E0 := ⟨_, rfl⟩
  have htr := tr_at l i
  rw [hN, hE0] at cU
  rw [hE0] at htr
  obtain ⟨T0, hT0⟩ : ∃ T0, tw (l.drop i) = T0 := ⟨_, rfl⟩
  rw [hT0] at htr hE0 htw
  have hsome : ∀ L e, ats (l.drop E0) = some (L, e) → tkIn l i = ⟨3, N, accR 2 L, (i : Int), (i : Int) + ((T0 + e : Nat) : Int)⟩ := by
    intro L e h
    rw [tkIn_some (L := L) (e := T0 + e) (by rw [htr, h]; rfl), hb, hN]
    rfl
  have HTR := Lib.hid htr
  have HSM := Lib.hid hsome
  have HE0 := Lib.hid hE0
  have HZ1 := Lib.hid z1
  have HZ2 := Lib.hid z2
  have HZ3 := Lib.hid z3
  have HB3 := Lib.hid (below_trans hbw3 hbL)
  have HK0 := Lib.hid (b03.below hbL)
  have HK1 := Lib.hid (b13.below hbL)
  have HK2 := Lib.hid (b2.below hbL)
  have HS := Lib.hid hs
  have hne : l ≠ [] := by rintro rfl; simp at hi
  obtain ⟨hcap, hnl | ⟨bb, off, rfl, -⟩⟩ := hs
  · exact absurd hnl hne
  rw [zz3] at cU
  rw [zz2] at HK2 HZ2
  rw [← hW3, ← hW2] at cU HB3 HK0 HK1 HK2
  clear hW2 hW3 zz2 zz3
  clear hbw3 hbL b0 b1 b2 b03 b13 hb1 hb2 hb3 z1 z2 z3 hNE hN hT0 htr hsome hb hbgA
  go_enter Tryz.func20, Tryz.ntmps20
  go_wp2_with fail
  refine cB.mono ?_
  rintro e w1 ⟨rfl, rfl⟩
  go_wp2_with fail
  refine cU.mono ?_
  rintro e w5 ⟨rfl, hb5⟩
  have k2 := HK2.out.below hb5
  obtain ⟨q0, q1, q2, q3, q4, q5, f0, f1, f2, f3, f4, f5⟩ := k2.six
  have HB5 := Lib.hid (below_trans HB3.out hb5)
  have HN0 := Lib.hid (HK0.out.below hb5)
  have HN1 := Lib.hid (HK1.out.below hb5)
  have HN2 := Lib.hid k2
  clear k2 hb5 cB cU HK0 HK1 HK2 HB3
  clear hW1
  go_wp2
  go_loopw [9] (fun v wr => RRel l i 2 E0 N w.heap.size W1.heap.size (W1.heap.size + 1) w v wr) (fun v _ => l.length - (RowKit.intOf v).toNat)
  case atStart =>
    refine ⟨E0, [], none, 0, rfl, by omega, Nat.le_refl _, Nat.zero_le _, HB5.out.setCell (p := ⟨(W1.heap.size + 1), 1, none⟩) (by show w.heap.size ≤ (W1.heap.size + 1); have := HZ2.out; omega) _, HN0.out.other (by have := HZ2.out; omega) _, HN1.out.other (by have := HZ2.out; have := HZ1.out; omega) _, (HN2.out.set 1 _), World.ownsRow_nil _ _ _ _, ?_⟩
    cases ats (l.drop E0) with
    | none => rfl
    | some p => simp
  case round =>
    obtain ⟨j, raw, a5, cap5, rfl, hjl, hjE, hraw, hbw, hg0, hg1, hg2, how, heq⟩ := hrel
    have hbR : Below wr.heap.size wr (wr.alloc (.cells #[.int .i64 9, .int .i64 10, .int .i64 12, .int .i64 32, .int .i64 47] 3)) := (Below.refl _ wr).alloc (Nat.le_refl _) _
    have hbwR := below_trans hbw hbR
    have cO := over_any [9, 10, 12, 32, 47] wr.heap.size 5 j _ (HS.out.below hbwR) (rw_new [9, 10, 12, 32, 47] wr #[.int .i64 9, .int .i64 10, .int .i64 12, .int .i64 32, .int .i64 47] rfl) (by simp) hjl (by omega)
    rw [in_gap] at cO
    have hg0R := hg0.below hbR
    have hg1R := hg1.below hbR
    have hg2R := hg2.below hbR
    have howR := At.ownsRow_below how hbR
    have hszR : w.heap.size + 3 ≤ wr.heap.size := by have := hg2.lt; have := HZ2.out; omega
    obtain ⟨WA, hWA⟩ : ∃ W, wr.alloc (.cells #[.int .i64 9, .int .i64 10, .int .i64 12, .int .i64 32, .int .i64 47] 3) = W := ⟨_, rfl⟩
    rw [hWA] at cO hbR hbwR hg0R hg1R hg2R howR
    have hszA : w.heap.size + 3 ≤ WA.heap.size := by have := hbR.size; omega
    have hj1l := drop_len_ov pGap l j hjl
    have hst := fun h0 h62 => ats_step (l := l) (E0 := E0) (j := j) (raw := raw) h0 h62 hjE heq
    have hen := fun h => ats_end (m := l.drop j) h
    have hgt := fun h => ats_gt (m := l.drop j) h
    rw [List.drop_drop] at hen hgt
    obtain ⟨j1, hj1⟩ : ∃ j1, j + ov pGap (l.drop j) = j1 := ⟨_, rfl⟩
    rw [hj1] at cO hj1l hst hen hgt
    have hjj : j ≤ j1 := by omega
    have HBW := Lib.hid hbwR
    have HG0 := Lib.hid hg0R
    have HG1 := Lib.hid hg1R
    have HG2 := Lib.hid hg2R
    have HOW := Lib.hid howR
    have HJ1 := Lib.hid hj1
    have HEQ0 := Lib.hid heq
    clear hg0 hg1 hg2 how hbw hbR hj1 hszR heq
    by_cases hend : j1 = l.length
    · have u1 : ¬ ((j1 : Int) < (l.length : Int)) := by omega
      have hnone : ats (l.drop E0) = none := by rw [HEQ0.out, hen (List.drop_of_length_le (by omega))]; rfl
      have HNO := Lib.hid hnone
      obtain ⟨g0, g1, g2, g3, g4, g5, gf0, gf1, gf2, gf3, gf4, gf5⟩ := HG0.out.six
      obtain ⟨p0, p1, p2, p3, p4, p5, -, -, -, -, -, -⟩ := HG1.out.six
      clear hnone hen hgt hst hbwR hg0R hg1R hg2R howR
      go_wp2_with fail
      refine cO.mono ?_
      rintro e wx ⟨rfl, rfl⟩
      go_wp2
      (try simp only [Exit.inBlock, Exit.then])
      refine bodyPost_ret (results_row_tmp rfl _ _ w.heap.size 31 #[.int .i64 0, .string ⟨#[]⟩, .slice none 0 0, .string ⟨#[]⟩, .int .i64 (i : Int), .int .i64 (l.length : Int)] (0, 0) _ rfl ?_ Tryz.underlying31 rfl info34) rfl ?_
      · exact (HG0.out.set6 _ _ _ _ _ _).blk
      · refine ⟨.slice none 0 0, ?_, ?_, ?_⟩
        · rw [tkIn_none (by rw [HTR.out, HNO.out]; rfl)]; rfl
        · rw [tkIn_none (by rw [HTR.out, HNO.out]; rfl)]; exact World.ownsRow_nil _ _ _ _
        · exact below_set6 HBW.out (Nat.le_refl _) _ _ _ _ _ _
    have u1 : (j1 : Int) < (l.length : Int) := by omega
    have hj1lt : j1 < l.length := by omega
    obtain ⟨-, hnl | ⟨b', off', hb', hcl⟩⟩ := HS.out.below hbwR
    · exact absurd hnl hne
    cases hb'
    have cj := hcl j1 hj1lt
    have hne1 : l.drop j1 ≠ [] := nx_drop hj1lt
    have hat : at0 (l.drop j1) 0 = at0 l j1 := by rw [at0_drop]; rfl
    by_cases h62 : at0 l j1 = 62
    · have u2 : (((at0 l j1 : Nat) : Int) == 62) = true := by simp [h62]
      have hh := hd_of (m := l.drop j1) (c := 62) (by decide) (by decide) (by decide) (by rw [hat]; exact h62)
      have hs1 : ats (l.drop E0) = some (raw, j - E0 + (ov pGap (l.drop j) + 1)) := by
        rw [HEQ0.out, hgt hh.1]
        simp
      have htk := HSM.out _ _ hs1
      rw [show (i : Int) + ((T0 + (j - E0 + (ov pGap (l.drop j) + 1)) : Nat) : Int) = (j1 : Int) + 1 by have := HJ1.out; have := HE0.out; omega] at htk
      have HTK := Lib.hid htk
      obtain ⟨g0, g1, g2, g3, g4, g5, gf0, gf1, gf2, gf3, gf4, gf5⟩ := HG0.out.six
      obtain ⟨p0, p1, p2, p3, p4, p5, pf0, pf1, pf2, pf3, pf4, pf5⟩ := HG2.out.six
      have hgne : w.heap.size ≠ (W1.heap.size + 1) := by have := HZ2.out; omega
      generalize at0 l j1 = C at cj u2
      clear h62 hh hs1 htk hen hgt hst hbwR hg0R hg1R hg2R howR hcl hat hne1
      go_wp2_with fail
      refine cO.mono ?_
      rintro e wx ⟨rfl, rfl⟩
      go_wp2
      (try simp only [Exit.inBlock, Exit.then])
      refine bodyPost_ret (results_row_tmp rfl _ _ w.heap.size 31 #[.int .i64 3, .string ⟨N.toArray⟩, .slice a5 (accR 2 raw).length cap5, .string ⟨#[]⟩, .int .i64 (i : Int), .int .i64 ((j1 : Int) + 1)] (0, 0) _ rfl ?_ Tryz.underlying31 rfl info34) rfl ?_
      · exact ((HG0.out.other hgne _).set6 _ _ _ _ _ _).blk
      · refine ⟨.slice a5 (accR 2 raw).length cap5, ?_, ?_, ?_⟩
        · rw [HTK.out]; rfl
        · rw [HTK.out]
          have hown2 := HOW.out.kept (grown_set _ (W1.heap.size + 1) 5 (.int .i64 ((j1 : Int) + 1))) (by
            cases hv : (Value.slice a5 (accR 2 raw).length cap5).ownBlock with
            | none => exact Or.inl rfl
            | some q => have := (HOW.out.lt q hv).1; have := HZ2.out; exact Or.inr (by simp; omega))
          exact own_set6 (At.ownsRow_base hown2 (by omega)) (by
            cases hv : (Value.slice a5 (accR 2 raw).length cap5).ownBlock with
            | none => exact Or.inl rfl
            | some q => have := (HOW.out.lt q hv).1; exact Or.inr (by simp; omega)) _ _ _ _ _ _
        · exact below_set6 (HBW.out.setCell (p := ⟨(W1.heap.size + 1), 5, none⟩) (by show w.heap.size ≤ (W1.heap.size + 1); have := HZ1.out; omega) _) (Nat.le_refl _) _ _ _ _ _ _
    have u2 : (((at0 l j1 : Nat) : Int) == 62) = false := by simp; omega
    have h62' : hd (l.drop j1) ≠ 62 := fun q => h62 (by rw [← hat]; exact (hd_is (c := 62) (by decide) (by decide) (by decide) q).1)
    have heq2 := hst hne1 h62'
    have hw := nx_width _ hne1
    simp only [List.length_drop] at hw
    have hgd := nx_good (l.drop j1)
    have cN := refNext_any l (some ⟨bb, off, none⟩) cap (j1 : Int) WA (HS.out.below hbwR) (by omega)
    rw [nxAt_in hj1lt] at cN
    have cL := refLower_any ((nx (l.drop j1)).1 : Int) WA
    rw [lowZ] at cL
    have cU8 := utf_ok (lowN (nx (l.drop j1)).1) WA (good_ok (lowN_good hgd))
    have hA : aN (l.drop j1) = encodeRune ((lowN (nx (l.drop j1)).1 : Nat) : Int) ++ lw pAtt (l.drop (j1 + (nx (l.drop j1)).2)) := by unfold aN; rw [List.drop_drop]
    have hA1 : a1 (l.drop j1) = (nx (l.drop j1)).2 + ov pAtt (l.drop (j1 + (nx (l.drop j1)).2)) := by unfold a1; rw [List.drop_drop]
    have e2 := a2_at l j1
    have e3 := a3_at l j1
    have hab1 := ab_le hne1
    have hML := lw_len pAtt (l.drop (j1 + (nx (l.drop j1)).2))
    simp only [List.length_drop] at hab1 hML
    have habY : hd (l.drop (j1 + a2 (l.drop j1))) = 61 → ab (l.drop j1) = ((aN (l.drop j1), (vl (l.drop (j1 + a3 (l.drop j1)))).1), a3 (l.drop j1) + (vl (l.drop (j1 + a3 (l.drop j1)))).2) := by
      intro q; unfold ab; rw [List.drop_drop, List.drop_drop, if_pos q]
    have habN : hd (l.drop (j1 + a2 (l.drop j1))) ≠ 61 → ab (l.drop j1) = ((aN (l.drop j1), []), a2 (l.drop j1)) := by
      intro q; unfold ab; rw [List.drop_drop, if_neg q]
    have ha2 := a2_le hne1
    have ha1 := a1_le hne1
    simp only [List.length_drop] at ha2 ha1
    have ha3 : hd (l.drop (j1 + a2 (l.drop j1))) = 61 → a2 (l.drop j1) + 1 ≤ a3 (l.drop j1) ∧ a3 (l.drop j1) ≤ l.length - j1 := by
      intro q
      have := a3_le hne1 (by rw [List.drop_drop]; exact q)
      simpa using this
    generalize nx (l.drop j1) = RR at cN cL cU8 hw hA hA1 hML
    obtain ⟨c, n⟩ := RR
    simp only at cN cL cU8 hw hA hA1 hML
    obtain ⟨q, hq⟩ : ∃ q, encodeRune ((lowN c : Nat) : Int) = q := ⟨_, rfl⟩
    have hql : q.length ≤ 4 := by rw [← hq]; exact (enc_len _).2
    obtain ⟨M, hM⟩ : ∃ M, lw pAtt (l.drop (j1 + n)) = M := ⟨_, rfl⟩
    obtain ⟨X, hX⟩ : ∃ X, q ++ M = X := ⟨_, rfl⟩
    rw [hq, hM, hX] at hA
    rw [hM] at hML
    have hjoin : (⟨q.toArray⟩ ++ ⟨M.toArray⟩ : ByteArray) = ⟨X.toArray⟩ := by rw [join_one, hX]
    have kp : ¬ (9223372036854775807 < q.length + M.length) := by omega
    obtain ⟨A1, hA1'⟩ : ∃ A1, a1 (l.drop j1) = A1 := ⟨_, rfl⟩
    obtain ⟨A2, hA2'⟩ : ∃ A2, a2 (l.drop j1) = A2 := ⟨_, rfl⟩
    obtain ⟨A3, hA3'⟩ : ∃ A3, a3 (l.drop j1) = A3 := ⟨_, rfl⟩
    rw [hA1', hA2'] at e2
    rw [hA2', hA3'] at e3
    rw [hA1'] at hA1 ha1
    rw [hA1', hA2'] at ha2
    rw [hA2', hA3'] at ha3
    rw [hA2', hA3', hA] at habY
    rw [hA2', hA] at habN
    have HQ := Lib.hid hq
    have HEQ2 := Lib.hid heq2
    have HY := Lib.hid habY
    have HNN := Lib.hid habN
    have HE2 := Lib.hid e2
    have HE3 := Lib.hid e3
    have HA1 := Lib.hid hA1
    have HMM := Lib.hid hM
    have HCL := Lib.hid hcl
    have HAB := Lib.hid hab1
    have HA3 := Lib.hid ha3
    generalize at0 l j1 = C at cj u2
    clear hq hX hM hA heq2 habY habN e2 e3 hA1 hA1' hA2' hA3' hcl hat hab1 ha3 hen hgt hst h62 h62' hbwR hg0R hg1R hg2R howR hgd hne1
    go_wp2_with fail
    refine cO.mono ?_
    rintro e wx ⟨rfl, rfl⟩
    go_wp2_with fail
    refine cN.mono ?_
    rintro e wx ⟨rfl, rfl⟩
    go_wp2_with fail
    refine cL.mono ?_
    rintro e wx ⟨rfl, rfl⟩
    go_wp2_with fail
    refine cU8.mono ?_
    rintro e w6 ⟨cap6, rfl, hcs, hb6⟩
    rw [HQ.out] at hcs ⊢
    have hstr := string_cells (cap := cap6) hcs rfl
    have hz7 : (w6.alloc (.cells #[.string ⟨q.toArray⟩, .string ⟨#[]⟩] 69)).heap.size = w6.heap.size + 1 := by simp
    have hr7 := rw_new [9, 10, 12, 32, 47, 62, 61] (w6.alloc (.cells #[.string ⟨q.toArray⟩, .string ⟨#[]⟩] 69)) #[.int .i64 9, .int .i64 10, .int .i64 12, .int .i64 32, .int .i64 47, .int .i64 62, .int .i64 61] rfl
    rw [hz7] at hr7
    have hb67 : Below w6.heap.size w6 ((w6.alloc (.cells #[.string ⟨q.toArray⟩, .string ⟨#[]⟩] 69)).alloc (.cells #[.int .i64 9, .int .i64 10, .int .i64 12, .int .i64 32, .int .i64 47, .int .i64 62, .int .i64 61] 3)) := ((Below.refl _ w6).alloc (Nat.le_refl _) _).alloc (by simp) _
    have hbA7 := below_trans hb6 hb67
    have hbw7 := below_trans HBW.out hbA7
    have cU7 : Calls Tryz.prog 37 #[.slice (some ⟨bb, off, none⟩) l.length cap, .int .i64 ((j1 : Int) + (n : Int)), .slice (some ⟨w6.heap.size + 1, 0, none⟩) 7 7] _ _ := upTo_any [9, 10, 12, 32, 47, 62, 61] (w6.heap.size + 1) 7 (j1 + n) _ (HS.out.below hbw7) hr7 (by simp) (by omega) (by omega)
    rw [in_att, HMM.out] at cU7
    have hE1 : j1 + n + ov pAtt (l.drop (j1 + n)) = j1 + A1 := by have := HA1.out; omega
    rw [hE1] at cU7
    have HT7 := Lib.hid ((bk_new w6 #[.string ⟨q.toArray⟩, .string ⟨#[]⟩] 69).alloc (.cells #[.int .i64 9, .int .i64 10, .int .i64 12, .int .i64 32, .int .i64 47, .int .i64 62, .int .i64 61] 3))
    have HBA7 := Lib.hid hbA7
    have HBW7 := Lib.hid hbw7
    have hz6 := hb6.size
    clear hcs hb6 hb67 hbA7 hbw7 hr7 hz7 cO cN cL cU8 hWA hE1
    go_wp2_with fail
    refine cU7.mono ?_
    rintro e w9 ⟨rfl, hb9⟩
    have hT9 := HT7.out.below hb9
    have t0 := hT9.cell 0
    have t1 := hT9.cell 1
    have tf0 := hT9.fr 0
    have hbA9 := below_trans HBA7.out hb9
    have hz9 := hT9.lt
    have hb9s : Below WA.heap.size WA (w9.setCell ⟨w6.heap.size, 0, none⟩ (.string ⟨X.toArray⟩)) := hbA9.setCell (p := ⟨w6.heap.size, 0, none⟩) (by show WA.heap.size ≤ w6.heap.size; omega) _
    have hr4 := rw_new [9, 10, 12, 32] (w9.setCell ⟨w6.heap.size, 0, none⟩ (.string ⟨X.toArray⟩)) #[.int .i64 9, .int .i64 10, .int .i64 12, .int .i64 32] rfl
    rw [World.size_setCell] at hr4
    have hbAB : Below WA.heap.size WA ((w9.setCell ⟨w6.heap.size, 0, none⟩ (.string ⟨X.toArray⟩)).alloc (.cells #[.int .i64 9, .int .i64 10, .int .i64 12, .int .i64 32] 3)) := hb9s.alloc hb9s.size _
    have hbwB := below_trans HBW.out hbAB
    have cO4 : Calls Tryz.prog 38 #[.slice (some ⟨bb, off, none⟩) l.length cap, .int .i64 ((j1 + A1 : Nat) : Int), .slice (some ⟨w9.heap.size, 0, none⟩) 4 4] _ _ := over_any [9, 10, 12, 32] w9.heap.size 4 (j1 + A1) _ (HS.out.below hbwB) hr4 (by simp) (by omega) (by omega)
    rw [in_blank, HE2.out] at cO4
    have hTB : Bk w6.heap.size #[.string ⟨X.toArray⟩, .string ⟨#[]⟩] 69 ((w9.setCell ⟨w6.heap.size, 0, none⟩ (.string ⟨X.toArray⟩)).alloc (.cells #[.int .i64 9, .int .i64 10, .int .i64 12, .int .i64 32] 3)) := Bk.alloc ⟨(hT9.set 0 _).blk⟩ _
    obtain ⟨WB, hWB⟩ : ∃ W, (w9.setCell ⟨w6.heap.size, 0, none⟩ (.string ⟨X.toArray⟩)).alloc (.cells #[.int .i64 9, .int .i64 10, .int .i64 12, .int .i64 32] 3) = W := ⟨_, rfl⟩
    rw [hWB] at cO4 hbAB hbwB hTB
    have hBB0 := HG0.out.below hbAB
    have hBB1 := HG1.out.below hbAB
    have hBB2 := HG2.out.below hbAB
    have hBBO := At.ownsRow_below HOW.out hbAB
    have hszB : w.heap.size + 3 ≤ WB.heap.size := by have := hbAB.size; omega
    have hclB := HCL.out.below hbAB
    have hT6 : w.heap.size + 3 ≤ w6.heap.size := by omega
    have HLT := Lib.hid (fun q hq => (HOW.out.lt q hq).2 : ∀ q, (Value.slice a5 (accR 2 raw).length cap5).ownBlock = some q → q < WA.heap.size)
    clear HG0 HG1 HG2 HOW HBW HBA7 HBW7 HT7 hT9 hbA9 hb9s hb9 hr4 cU7
    have HBW := Lib.hid hbwB
    have HG0 := Lib.hid hBB0
    have HG1 := Lib.hid hBB1
    have HG2 := Lib.hid hBB2
    have HOW := Lib.hid hBBO
    have HT12 := Lib.hid hTB
    have HSZ := Lib.hid hszB
    clear hbAB hBB0 hBB1 hBB2 hBBO hTB
    by_cases h61 : hd (l.drop (j1 + A2)) = 61
    · have hab := HY.out h61
      have hA3b := HA3.out h61
      have heq3 := HEQ2.out
      rw [hab] at heq3
      simp only at heq3
      have hh61 := hd_is (c := 61) (by decide) (by decide) (by decide) h61
      have hl2 : j1 + A2 < l.length := by
        have := List.length_pos_iff.2 hh61.2.2
        simp at this
        omega
      have h61b : at0 l (j1 + A2) = 61 := by
        have := hh61.1
        rw [at0_drop, Nat.add_zero] at this
        exact this
      have cV := rvalue_any (j1 + A2 + 1) WB (HS.out.below hbwB) (by omega) hne (by omega)
      rw [HE3.out] at cV
      have hvle := vl_le (l.drop (j1 + A3))
      simp only [List.length_drop] at hvle
      have cj2 := hclB (j1 + A2) hl2
      obtain ⟨J2, hJ2⟩ : ∃ J2, j1 + A2 = J2 := ⟨_, rfl⟩
      rw [hJ2] at cO4 cV cj2 h61b
      have cV' : Calls Tryz.prog 40 #[.slice (some ⟨bb, off, none⟩) l.length cap, .int .i64 ((J2 : Int) + 1)] WB (RvPost l (j1 + A3) WB) := cV
      have v1 : (J2 : Int) < (l.length : Int) := by omega
      have v2 : (((at0 l J2 : Nat) : Int) == 61) = true := by simp [h61b]
      generalize at0 l J2 = C2 at cj2 v2
      clear hab h61 hbwB hclB hh61 h61b cV
      go_wp2_with fail
      refine cO4.mono ?_
      rintro e wx ⟨rfl, rfl⟩
      go_wp2_with fail
      refine cV'.mono ?_
      rintro e w12 ⟨hb12, ⟨hvc, rfl⟩ | ⟨hvc, rfl⟩⟩
      · have hT12 := HT12.out.below hb12
        have t1 := hT12.cell 1
        have tf1 := hT12.fr 1
        have hvl := vcut_len hvc
        simp only [List.length_drop] at hvl
        have hnone : ats (l.drop E0) = none := by
          have hdn : l.drop (j1 + (A3 + (vl (l.drop (j1 + A3))).2)) = [] := List.drop_of_length_le (by omega)
          rw [heq3, hdn, ats_end rfl]
          rfl
        have HNO := Lib.hid hnone
        have k0 := HG0.out.below hb12
        have k1 := HG1.out.below hb12
        obtain ⟨g0, g1, g2, g3, g4, g5, gf0, gf1, gf2, gf3, gf4, gf5⟩ := k0.six
        obtain ⟨p0, p1, p2, p3, p4, p5, -, -, -, -, -, -⟩ := k1.six
        have hgn0 : w.heap.size ≠ w6.heap.size := by omega
        have hgn1 : W1.heap.size ≠ w6.heap.size := by have := HZ1.out; omega
        have HBX := Lib.hid ((below_trans HBW.out hb12).setCell (p := ⟨w6.heap.size, 1, none⟩) (by show w.heap.size ≤ w6.heap.size; omega) (.string ⟨#[]⟩))
        clear HG0
        have HG0 := Lib.hid (k0.other (j := 1) hgn0 (.string ⟨#[]⟩))
        clear hnone hvc hvl hb12 hT12 k0 k1 heq3 hWB
        go_wp2
        (try simp only [Exit.inBlock, Exit.then])
        refine bodyPost_ret (results_row_tmp rfl _ _ w.heap.size 31 #[.int .i64 0, .string ⟨#[]⟩, .slice none 0 0, .string ⟨#[]⟩, .int .i64 (i : Int), .int .i64 (l.length : Int)] (0, 0) _ rfl ?_ Tryz.underlying31 rfl info34) rfl ?_
        · exact (HG0.out.set6 _ _ _ _ _ _).blk
        · refine ⟨.slice none 0 0, ?_, ?_, ?_⟩
          · rw [tkIn_none (by rw [HTR.out, HNO.out]; rfl)]; rfl
          · rw [tkIn_none (by rw [HTR.out, HNO.out]; rfl)]; exact World.ownsRow_nil _ _ _ _
          · exact below_set6 HBX.out (Nat.le_refl _) _ _ _ _ _ _
      · have hT12 := HT12.out.below hb12
        have t1a := hT12.cell 1
        have tf1 := hT12.fr 1
        obtain ⟨V, hV⟩ : ∃ V, (vl (l.drop (j1 + A3))).1 = V := ⟨_, rfl⟩
        obtain ⟨P, hP⟩ : ∃ P, j1 + A3 + (vl (l.drop (j1 + A3))).2 = P := ⟨_, rfl⟩
        rw [hV, ← Nat.add_assoc, hP] at heq3
        rw [hV, hP]
        have hPj : j1 < P ∧ P ≤ l.length := by omega
        have v3 : ¬ ((P : Int) < 0) := by omega
        have hbwC := (below_trans HBW.out hb12).setCell (p := ⟨w6.heap.size, 1, none⟩) (by show w.heap.size ≤ w6.heap.size; omega) (.string ⟨V.toArray⟩)
        have k0 := (HG0.out.below hb12).other (j := 1) (show w.heap.size ≠ w6.heap.size by omega) (.string ⟨V.toArray⟩)
        have k1 := (HG1.out.below hb12).other (j := 1) (show W1.heap.size ≠ w6.heap.size by have := HZ1.out; omega) (.string ⟨V.toArray⟩)
        have k2 := (HG2.out.below hb12).other (j := 1) (show W1.heap.size + 1 ≠ w6.heap.size by have := HZ1.out; omega) (.string ⟨V.toArray⟩)
        have ko := (At.ownsRow_below HOW.out hb12).kept (grown_set w12 w6.heap.size 1 (.string ⟨V.toArray⟩)) (by
          cases hv : (Value.slice a5 (accR 2 raw).length cap5).ownBlock with
          | none => exact Or.inl rfl
          | some q => have := HLT.out q hv; exact Or.inr (by simp; omega))
        have hTC : Bk w6.heap.size #[.string ⟨X.toArray⟩, .string ⟨V.toArray⟩] 69 (w12.setCell ⟨w6.heap.size, 1, none⟩ (.string ⟨V.toArray⟩)) := ⟨(hT12.set 1 _).blk⟩
        have hszC : w.heap.size + 3 ≤ (w12.setCell ⟨w6.heap.size, 1, none⟩ (.string ⟨V.toArray⟩)).heap.size := by
          rw [World.size_setCell]
          have := hb12.size
          have := HSZ.out
          omega
        obtain ⟨WC, hWC⟩ : ∃ W, w12.setCell ⟨w6.heap.size, 1, none⟩ (.string ⟨V.toArray⟩) = W := ⟨_, rfl⟩
        rw [hWC] at hbwC k0 k1 k2 ko hTC hszC
        clear HG0 HG1 HG2 HOW HBW HT12 HSZ hT12 hb12 hvc hWB
        have HBW := Lib.hid hbwC
        have HG0 := Lib.hid k0
        have HG1 := Lib.hid k1
        have HG2 := Lib.hid k2
        have HOW := Lib.hid ko
        have HT12 := Lib.hid hTC
        have HSZ := Lib.hid hszC
        have HEQ := Lib.hid heq3
        clear hbwC k0 k1 k2 ko hTC heq3 hV hP
        go_wp2
        go_roundw
        case rel => exact ⟨P, raw ++ [(X, V)], a5, cap5, by first | rfl | (congr 1; omega) | go_num, by omega, by omega, by simp; omega, HBW.out, HG0.out, HG1.out, HG2.out, HOW.out, HEQ.out⟩
        case measure => first | (simp [RowKit.intOf]; omega) | (unfold RowKit.intOf; simp; omega)
    · have hab := HNN.out h61
      have heq3 := HEQ2.out
      rw [hab] at heq3
      simp only at heq3
      have HEQ := Lib.hid heq3
      by_cases hl2 : j1 + A2 < l.length
      · have v1 : ((j1 : Int) + (A2 : Int)) < (l.length : Int) := by omega
        have v1' : (((j1 + A2 : Nat) : Int)) < (l.length : Int) := by omega
        have cj2 : WB.cell? ⟨bb, off + (j1 + A2), none⟩ = some (.int .u8 ((at0 l (j1 + A2) : Nat) : Int)) := hclB (j1 + A2) hl2
        have v2 : (((at0 l (j1 + A2) : Nat) : Int) == 61) = false := by
          have hn61 : at0 l (j1 + A2) ≠ 61 := by
            intro qq
            exact h61 (hd_of (m := l.drop (j1 + A2)) (c := 61) (by decide) (by decide) (by decide) (by rw [at0_drop]; exact qq)).1
          simp
          omega
        generalize at0 l (j1 + A2) = C2 at cj2 v2
        clear hab heq3 h61 hbwB hclB
        go_wp2_with fail
        refine cO4.mono ?_
        rintro e wx ⟨rfl, rfl⟩
        go_wp2
        go_roundw
        case rel => exact ⟨j1 + A2, raw ++ [(X, ([] : List UInt8))], a5, cap5, by first | rfl | (congr 1; omega) | go_num, by omega, by omega, by simp; omega, HBW.out, HG0.out, HG1.out, HG2.out, HOW.out, HEQ.out⟩
        case measure => first | (simp [RowKit.intOf]; omega) | (unfold RowKit.intOf; simp; omega)
      · have v1 : ¬ (((j1 : Int) + (A2 : Int)) < (l.length : Int)) := by omega
        have v1' : ¬ ((((j1 + A2 : Nat) : Int)) < (l.length : Int)) := by omega
        clear hab heq3 h61 hbwB hclB
        go_wp2_with fail
        refine cO4.mono ?_
        rintro e wx ⟨rfl, rfl⟩
        go_wp2
        go_roundw
        case rel => exact ⟨j1 + A2, raw ++ [(X, ([] : List UInt8))], a5, cap5, by first | rfl | (congr 1; omega) | go_num, by omega, by omega, by simp; omega, HBW.out, HG0.out, HG1.out, HG2.out, HOW.out, HEQ.out⟩
        case measure => first | (simp [RowKit.intOf]; omega) | (unfold RowKit.intOf; simp; omega)
end Go.Proofs.YtndcmapifihgeaaGreatDoor.Tg
