/- The law ArenaSames, walked. -/
import Derived.Test.YtpnjjpbgbdicoaaASame
import Derived.Test.YtpnjjpbgbdicoaaLCounts
namespace Go.Proofs.Ytpnjjpbgbdicoaa
open Go.RowKit Go.Lib
open At (Str cellsA cellsA_len Sl below_drewN)

set_option maxHeartbeats 4000000 in
set_option maxRecDepth 100000 in
theorem arenaSames_few (f g : F) (P : Nat → Prop) (a b : Option Addr) (c cb : Nat) (w : World) (hs : NSl w P f a c) (ht : NSl w P g b cb) (hf : f.wt ≤ 2000000) (hg : g.wt ≤ 2000000) (hn : fewF f = false ∨ fewF g = false) :
    Calls Try.prog 4 #[.slice a f.len c, .slice b g.len cb] w fun e w' => e = .returned (.bool true) ∧ Below w.heap.size w w' := by
  by_cases h1 : fewF f = true
  · have h2 : fewF g = false := by
      rcases hn with h | h
      · rw [h1] at h; cases h
      · exact h
    have S1 := Lib.hid (fun wx hbx => few_any f P a c wx hf (hs.below hbx))
    have S2 := Lib.hid (fun wx hbx => few_any g P b cb wx hg (ht.below hbx))
    rw [h1] at S1
    rw [h2] at S2
    clear hs ht hn h1 h2
    go_enter Try.func4, Try.ntmps4
    go_wp2_with fail
    refine (speaks_any _).mono ?_
    rintro e w1 ⟨rfl, hb1⟩
    have c2 := S1.out w1 hb1
    have HB1 := Lib.hid hb1
    clear hb1
    go_wp2_with fail
    refine c2.mono ?_
    rintro e w2 ⟨rfl, hb2⟩
    have HB2 := Lib.hid (below_trans HB1.out hb2)
    have c3 := S2.out w2 HB2.out
    clear hb2 c2
    go_wp2_with fail
    refine c3.mono ?_
    rintro e w3 ⟨rfl, hb3⟩
    have HB3 := Lib.hid (below_trans HB2.out hb3)
    clear hb3 c3
    go_wp2_with fail
    refine (speaks_any _).mono ?_
    rintro e w4 ⟨rfl, hb4⟩
    go_wp2
    go_ret
    exact ⟨rfl, below_trans HB3.out hb4⟩
  · have h1' : fewF f = false := by simpa using h1
    have S1 := Lib.hid (fun wx hbx => few_any f P a c wx hf (hs.below hbx))
    rw [h1'] at S1
    clear hs ht hn h1 h1'
    go_enter Try.func4, Try.ntmps4
    go_wp2_with fail
    refine (speaks_any _).mono ?_
    rintro e w1 ⟨rfl, hb1⟩
    have c2 := S1.out w1 hb1
    have HB1 := Lib.hid hb1
    clear hb1
    go_wp2_with fail
    refine c2.mono ?_
    rintro e w2 ⟨rfl, hb2⟩
    have HB2 := Lib.hid (below_trans HB1.out hb2)
    clear hb2 c2
    go_wp2_with fail
    refine (speaks_any _).mono ?_
    rintro e w4 ⟨rfl, hb4⟩
    go_wp2
    go_ret
    exact ⟨rfl, below_trans HB2.out hb4⟩

theorem same_own {B B' e e' : Nat} {P P' : Nat → Prop} {ax ay : Option Addr} {cx cy : Nat} {wx : World} (f g : F) (h : NOwn wx B e P (.slice ax f.len cx) f) (k : NOwn wx B' e' P' (.slice ay g.len cy) g) (hsm : f.small 1000000) (hl : f.len ≤ 1000000) :
    Calls Try.prog 37 #[.slice ax f.len cx, .slice ay g.len cy] wx fun e w' => e = .returned (.bool (sameF f g)) ∧ Below wx.heap.size wx w' := by
  obtain ⟨a', c', hv, hsl⟩ := h.sl
  obtain ⟨a'', c'', hv', hsl'⟩ := k.sl
  cases hv
  cases hv'
  exact asame_any f g _ _ _ _ _ _ wx hsm hl hsl hsl'

set_option maxHeartbeats 8000000 in
set_option maxRecDepth 100000 in
theorem arenaSames_walk (f g : F) (P : Nat → Prop) (a b : Option Addr) (c cb : Nat) (w : World) (hs : NSl w P f a c) (ht : NSl w P g b cb) (hf : f.wt ≤ 2000000) (hg : g.wt ≤ 2000000) (hsf : f.small 400000) (hsg : g.small 400000) (hn1 : fewF f = true) (hn2 : fewF g = true) :
    Calls Try.prog 4 #[.slice a f.len c, .slice b g.len cb] w fun e w' => e = .returned (.bool true) ∧ Below w.heap.size w w' := by
  obtain ⟨m1, d1⟩ := few_small hn1
  obtain ⟨m2, d2⟩ := few_small hn2
  have l1 := F.len_many f
  have l2 := F.len_many g
  have S1 := Lib.hid (fun wx hbx => few_any f P a c wx hf (hs.below hbx))
  have S2 := Lib.hid (fun wx hbx => few_any g P b cb wx hg (ht.below hbx))
  have O1 := Lib.hid (fun wx hbx => of_any f.wt f P a c wx rfl hsf (by omega) (hs.below hbx))
  have O2 := Lib.hid (fun wx hbx => of_any g.wt g P b cb wx rfl hsg (by omega) (ht.below hbx))
  have R1 := Lib.hid (fun wx (hbx : Below w.heap.size w wx) => rsame_any f.wt f g P P a b c cb wx rfl (F.small_mono (by decide) hsf) (by omega) (hs.below hbx) (ht.below hbx))
  have M1 := Lib.hid (fun wx hbx => many_any f.wt f P a c wx rfl hf (hs.below hbx))
  have D1 := Lib.hid (fun wx hbx => deep_any f.wt f P a c wx rfl hf (hs.below hbx))
  have HSF := Lib.hid (F.small_mono (M := 1000000) (by decide) hsf)
  rw [hn1] at S1
  rw [hn2] at S2
  clear hs ht hn1 hn2 hsf hsg
  go_enter Try.func4, Try.ntmps4
  go_wp2_with fail
  refine (speaks_any _).mono ?_
  rintro e w1 ⟨rfl, hb1⟩
  have c2 := S1.out w1 hb1
  have HB1 := Lib.hid hb1
  clear hb1
  go_wp2_with fail
  refine c2.mono ?_
  rintro e w2 ⟨rfl, hb2⟩
  have HB2 := Lib.hid (below_trans HB1.out hb2)
  have c3 := S2.out w2 HB2.out
  clear hb2 c2
  go_wp2_with fail
  refine c3.mono ?_
  rintro e w3 ⟨rfl, hb3⟩
  have HB3 := Lib.hid (below_trans HB2.out hb3)
  have c4 := O1.out w3 HB3.out
  clear hb3 c3
  go_wp2_with fail
  refine c4.mono ?_
  rintro e w4 ⟨v4, rfl, ho4, hb4⟩
  have HB4 := Lib.hid (below_trans HB3.out hb4)
  have HO4 := Lib.hid ho4
  have c5 := O2.out w4 HB4.out
  clear hb4 c4 ho4
  go_wp2_with fail
  refine c5.mono ?_
  rintro e w5 ⟨v5, rfl, ho5, hb5⟩
  have HB5 := Lib.hid (below_trans HB4.out hb5)
  have HX := Lib.hid (HO4.out.below hb5)
  have HY := Lib.hid ho5
  obtain ⟨ax, cx, rfl, -⟩ := HX.out.sl
  obtain ⟨ay, cy, rfl, -⟩ := ho5.sl
  have q6 := count_own f HX.out (by omega)
  clear hb5 c5 ho5
  go_wp2_with fail
  refine q6.mono ?_
  rintro e w6 ⟨rfl, hb6⟩
  have HB6 := Lib.hid (below_trans HB5.out hb6)
  have HX6 := Lib.hid (HX.out.below hb6)
  have HY6 := Lib.hid (HY.out.below hb6)
  have q7 := same_own f g HX6.out HY6.out HSF.out (by omega)
  clear hb6 q6
  go_wp2_with fail
  refine q7.mono ?_
  rintro e w7 ⟨rfl, hb7⟩
  have HB7 := Lib.hid (below_trans HB6.out hb7)
  have HX7 := Lib.hid (HX6.out.below hb7)
  have q8 := R1.out w7 HB7.out
  clear hb7 q7
  go_wp2_with fail
  refine q8.mono ?_
  rintro e w8 ⟨rfl, q, rfl⟩
  have HB8 := Lib.hid (below_drewN HB7.out q)
  have HX8 := Lib.hid (HX7.out.below (below_drewN (Below.refl _ w7) q))
  have q9 := same_own f f HX8.out HX8.out HSF.out (by omega)
  rw [sameF_refl] at q9
  generalize sameF f g = R
  clear q8
  have hRR : (R == R) = true := by simp
  go_wp2_with fail
  refine q9.mono ?_
  rintro e w9 ⟨rfl, hb9⟩
  have HB9 := Lib.hid (below_trans HB8.out hb9)
  have q10 := M1.out w9 HB9.out
  clear hb9 q9
  go_wp2_with fail
  refine q10.mono ?_
  rintro e w10 ⟨rfl, hb10⟩
  have HB10 := Lib.hid (below_trans HB9.out hb10)
  have q11 := D1.out w10 HB10.out
  clear hb10 q10
  go_wp2_with fail
  refine q11.mono ?_
  rintro e w11 ⟨rfl, hb11⟩
  have HB11 := Lib.hid (below_trans HB10.out hb11)
  clear hb11 q11
  go_wp2
  go_ret
  exact ⟨rfl, HB11.out⟩
end Go.Proofs.Ytpnjjpbgbdicoaa
