/- The law TagReads, walked. -/
import Derived.Test.YtfnecdifaodamaaDoorTgRRd
import Derived.Test.YtfnecdifaodamaaDoorTgLFr
import Derived.Deep.DeepCutAuto
namespace Go.Proofs.YtfnecdifaodamaaDoor.Tg
open Go.RowKit Go.Lib
open Ch (at0 Sl Sl.below Cells ret_bool)
open At (cellsA ads below_trans)

variable {l : List UInt8} {a : Option Addr} {cap i : Nat} {w w' : World}

def RReadPost (l : List UInt8) (x : Int) (w : World) (e : Ending) (w' : World) : Prop :=
  ∃ s, e = .returned (.tuple #[tokV (tkAt l x) s, .bool (decide (bgAt l x ≠ 0))]) ∧ w'.ownsRow w.heap.size 59 2 s (tkAt l x).attrs.length (cellsA (tkAt l x).attrs) ∧ Below w.heap.size w w'

set_option maxHeartbeats 4000000 in
set_option maxRecDepth 100000 in
theorem rread_any (x : Int) (hs : Sl l a cap w) (hlen : l.length ≤ 100000 - 1) : Calls Tryd.prog 11 #[.slice a l.length cap, .int .i64 x] w (RReadPost l x w) := by
  have hb2 : bgAt l x ≤ 2 := by unfold bgAt; split; exact bg_le _; omega
  by_cases h0 : bgAt l x = 0
  · have hbA : Below w.heap.size w (w.alloc (.cells zero34 34)) := (Below.refl _ w).alloc (Nat.le_refl _) _
    have cB := rbegins_any x (w.alloc (.cells zero34 34)) (hs.below hbA) (by omega)
    rw [h0] at cB
    have bT := bk_new w zero34 34
    have HTK := Lib.hid (show tkAt l x = ⟨0, [], [], 0, 0⟩ by unfold tkAt; rw [if_pos h0])
    have H0 := Lib.hid h0
    unfold zero34 at cB bT
    obtain ⟨k0, k1, k2, k3, k4, k5, f0, f1, f2, f3, f4, f5⟩ := bT.six
    have HBT := Lib.hid bT
    clear h0 hbA bT
    go_enter Tryd.func11, Tryd.ntmps11
    go_wp2_with fail
    refine cB.mono ?_
    rintro e w1 ⟨rfl, rfl⟩
    go_wp2
    (try simp only [Exit.inBlock, Exit.then])
    refine bodyPost_ret (results_row_tmp rfl _ _ w.heap.size 34 #[.int .i64 0, .string ⟨#[]⟩, .slice none 0 0, .string ⟨#[]⟩, .int .i64 0, .int .i64 0] (0, 0) _ rfl ?_ Tryd.underlying34 rfl info34) rfl ?_
    · first | exact HBT.out.blk | exact (HBT.out.set6 _ _ _ _ _ _).blk
    · refine ⟨.slice none 0 0, ?_, ?_, ?_⟩
      · rw [HTK.out, H0.out]; rfl
      · rw [HTK.out]; exact World.ownsRow_nil _ _ _ _
      · first | exact (Below.refl _ w).alloc (Nat.le_refl _) _ | exact below_set6 ((Below.refl _ w).alloc (Nat.le_refl _) _) (Nat.le_refl _) _ _ _ _ _ _
  · have hin : 0 ≤ x ∧ x < (l.length : Int) := by
      unfold bgAt at h0
      split at h0
      · assumption
      · exact absurd rfl h0
    obtain ⟨i, rfl⟩ : ∃ i : Nat, x = i := ⟨x.toNat, by omega⟩
    have hbg : bgAt l (i : Int) = bg (l.drop i) := if_pos hin
    have htk : tkAt l (i : Int) = tkIn l i := by unfold tkAt; rw [if_neg h0]; rfl
    have hd1 : decide (bgAt l (i : Int) ≠ 0) = true := decide_eq_true h0
    have key : Calls Tryd.prog 11 #[.slice a l.length cap, .int .i64 (i : Int)] w (RRPost l i w) := by
      rcases (by omega : bgAt l (i : Int) = 1 ∨ bgAt l (i : Int) = 2) with h1 | h1
      · exact rread_1 hs hlen (by rw [← hbg]; exact h1) (by omega)
      · exact rread_2 hs hlen (by rw [← hbg]; exact h1) (by omega)
    refine key.mono ?_
    rintro e w2 ⟨s, rfl, ho, hb⟩
    refine ⟨s, ?_, ?_, hb⟩
    · rw [htk, hd1]
    · rw [htk]; exact ho

theorem tk_len (l : List UInt8) (x : Int) : (tkAt l x).attrs.length ≤ l.length := by
  unfold tkAt
  split
  · exact Nat.zero_le _
  · unfold tkIn
    split
    · exact Nat.zero_le _
    · rename_i L e h
      have h1 := tr_bd h
      have h2 := ads_len L
      simp only [List.length_drop] at h1
      simp only
      split
      · omega
      · simp

def LRel (n : Nat) (w : World) (v : Value) (wr : World) : Prop := ∃ k : Nat, v = .int .i64 (k : Int) ∧ k ≤ n + 1 ∧ Below w.heap.size w wr

set_option maxHeartbeats 1000000 in
set_option maxRecDepth 100000 in
theorem tagReads_long (n : Nat) (a : Option Addr) (cap : Nat) (x : Int) (w : World) (hT : Tb w) (h : 300 < n) :
    Calls Tryd.prog 3 #[.slice a n cap, .int .i64 x] w fun e w' => e = .returned (.bool true) ∧ Below w.heap.size w w' := by
  have h1 : (300 : Int) < (n : Int) := by omega
  go_enter Tryd.func3, Tryd.ntmps3
  go_wp2_with fail
  refine (tspeaks_any w hT).mono ?_
  rintro e w1 ⟨rfl, hb1⟩
  go_wp2_with fail
  refine (tspeaks_any w1 (hT.below hb1)).mono ?_
  rintro e w2 ⟨rfl, hb2⟩
  go_wp2
  go_ret
  exact ⟨rfl, below_trans hb1 hb2⟩

set_option maxHeartbeats 16000000 in
set_option maxRecDepth 100000 in
theorem tagReads_walk (l : List UInt8) (a : Option Addr) (cap : Nat) (x : Int) (w : World) (hs : Sl l a cap w) (hT : Tb w) (hl : l.length ≤ 300) :
    Calls Tryd.prog 3 #[.slice a l.length cap, .int .i64 x] w fun e w' => e = .returned (.bool true) ∧ Below w.heap.size w w' := by
  have h1 : ¬ ((300 : Int) < (l.length : Int)) := by omega
  go_enter Tryd.func3, Tryd.ntmps3
  go_wp2_with fail
  refine (tspeaks_any w hT).mono ?_
  rintro e w1 ⟨rfl, hb1⟩
  have HB1 := Lib.hid hb1
  have HS := Lib.hid hs
  have HT := Lib.hid hT
  clear hb1 hs hT
  go_wp2
  go_loopw [24] (fun v wr => LRel l.length w v wr) (fun v _ => l.length + 1 - (RowKit.intOf v).toNat)
  case atStart => exact ⟨0, rfl, by omega, HB1.out⟩
  case round =>
    obtain ⟨k, rfl, hk, hbw⟩ := hrel
    have hsz := hbw.size
    by_cases hk1 : k < l.length + 1
    · have hk2 : (k : Int) < (l.length : Int) + 1 := by omega
      by_cases hk3 : k = l.length
      · subst hk3
        have hb2 : bgAt l x ≤ 2 := by unfold bgAt; split; exact bg_le _; omega
        have hLl := tk_len l x
        have cB := begins_any x wr (HS.out.below hbw) (by omega)
        have cF := rbegins_any x wr (HS.out.below hbw) (by omega)
        have cR := read_on x (HS.out.below hbw) (HT.out.below hbw) (by omega)
        have HRR := Lib.hid (fun (wz : World) (hz : Below w.heap.size w wz) => rread_any x (HS.out.below hz) (show l.length ≤ 100000 - 1 by omega))
        have HBW := Lib.hid hbw
        obtain ⟨T, hTT⟩ : ∃ T, tkAt l x = T := ⟨_, rfl⟩
        obtain ⟨tk, tnm, tat, tfr, tup⟩ := T
        rw [hTT] at hLl
        simp only at hLl
        have HTT := Lib.hid hTT
        obtain ⟨B, hB⟩ : ∃ B, bgAt l x = B := ⟨_, rfl⟩
        have HBB := Lib.hid hB
        rw [hB] at cB cF hb2
        clear hbw hTT hB
        rcases (by omega : B = 0 ∨ B = 1 ∨ B = 2) with rfl | rfl | rfl
        all_goals
          go_wp2_with fail
          refine cB.mono ?_
          rintro e wx ⟨rfl, rfl⟩
          go_wp2_with fail
          refine cF.mono ?_
          rintro e wx ⟨rfl, rfl⟩
          go_wp2_with fail
          refine cR.mono ?_
          rintro e w2 ⟨s2, rfl, ho2, hb2'⟩
          rw [HTT.out] at ho2 ⊢
          rw [HBB.out]
          obtain ⟨a5, cap5, rfl, -⟩ := At.sl_own ho2
          unfold tokV
          simp only at ho2 ⊢
          have hbw2 := HBW.out.trans (hb2'.mono hsz)
          have hbw2A := hbw2.alloc hbw2.size (.cells #[.int .i64 (tk : Int), .string ⟨tnm.toArray⟩, .slice a5 tat.length cap5, .string ⟨#[]⟩, .int .i64 tfr, .int .i64 tup] 29)
          have hs5 := (sl_of ho2).below ((Below.refl _ w2).alloc (Nat.le_refl _) (.cells #[.int .i64 (tk : Int), .string ⟨tnm.toArray⟩, .slice a5 tat.length cap5, .string ⟨#[]⟩, .int .i64 tfr, .int .i64 tup] 29))
          have hk9 := bk_new w2 #[.int .i64 (tk : Int), .string ⟨tnm.toArray⟩, .slice a5 tat.length cap5, .string ⟨#[]⟩, .int .i64 tfr, .int .i64 tup] 29
          obtain ⟨WD, hWD⟩ : ∃ W, w2.alloc (.cells #[.int .i64 (tk : Int), .string ⟨tnm.toArray⟩, .slice a5 tat.length cap5, .string ⟨#[]⟩, .int .i64 tfr, .int .i64 tup] 29) = W := ⟨_, rfl⟩
          rw [hWD] at hbw2A hs5 hk9
          have cQ := HRR.out WD hbw2A
          have HB2 := Lib.hid hbw2A
          have HS5 := Lib.hid hs5
          have HK9 := Lib.hid hk9
          clear cR ho2 hb2' hbw2 hbw2A hs5 hk9
          go_wp2_with fail
          refine cQ.mono ?_
          rintro e w4 ⟨s4, rfl, ho4, hb4⟩
          rw [HTT.out] at ho4 ⊢
          rw [HBB.out]
          obtain ⟨a6, cap6, rfl, -⟩ := At.sl_own ho4
          unfold tokV
          simp only at ho4 ⊢
          have hb4A := hb4.alloc hb4.size (.cells #[.int .i64 (tk : Int), .string ⟨tnm.toArray⟩, .slice a6 tat.length cap6, .string ⟨#[]⟩, .int .i64 tfr, .int .i64 tup] 34)
          have hs6 := (sl_of ho4).below ((Below.refl _ w4).alloc (Nat.le_refl _) (.cells #[.int .i64 (tk : Int), .string ⟨tnm.toArray⟩, .slice a6 tat.length cap6, .string ⟨#[]⟩, .int .i64 tfr, .int .i64 tup] 34))
          have hk11 := bk_new w4 #[.int .i64 (tk : Int), .string ⟨tnm.toArray⟩, .slice a6 tat.length cap6, .string ⟨#[]⟩, .int .i64 tfr, .int .i64 tup] 34
          obtain ⟨WE, hWE⟩ : ∃ W, w4.alloc (.cells #[.int .i64 (tk : Int), .string ⟨tnm.toArray⟩, .slice a6 tat.length cap6, .string ⟨#[]⟩, .int .i64 tfr, .int .i64 tup] 34) = W := ⟨_, rfl⟩
          rw [hWE] at hb4A hs6 hk11
          have hs5E := HS5.out.below hb4A
          have hk9E := HK9.out.below hb4A
          have dr : Below WE.heap.size WE WE.drew := ⟨rfl, rfl, rfl, Nat.le_refl _, fun _ _ => rfl⟩
          have cTo := to_tok (tk : Int) tnm tat tfr tup a5 cap5 WE.drew (hs5E.below dr) (by omega)
          have SA := six2 hk9E hk11
          have SD := six2 hk9E.drew hk11.drew
          have HK9E := Lib.hid hk9E
          have HK11 := Lib.hid hk11
          have HS6 := Lib.hid hs6
          have HBE := Lib.hid (HB2.out.trans (hb4A.mono HB2.out.size))
          clear cQ ho4 hb4 hb4A hs6 hk11 hs5E hk9E dr hWD HRR
          go_upto_region 12 with (fail)
          go_cut [74] (fun v wx => v = .bool false ∧ Below w.heap.size w wx)
          case first =>
            go_region_held3 (fun w' => (w'.cell? ⟨w2.heap.size, 0, none⟩ = some (.int .i64 (tk : Int)) ∧ w'.cell? ⟨w2.heap.size, 1, none⟩ = some (.string ⟨tnm.toArray⟩) ∧ w'.cell? ⟨w2.heap.size, 2, none⟩ = some (.slice a5 tat.length cap5) ∧ w'.cell? ⟨w2.heap.size, 3, none⟩ = some (.string ⟨#[]⟩) ∧ w'.cell? ⟨w2.heap.size, 4, none⟩ = some (.int .i64 tfr) ∧ w'.cell? ⟨w2.heap.size, 5, none⟩ = some (.int .i64 tup)) ∧ w'.cell? ⟨w4.heap.size, 0, none⟩ = some (.int .i64 (tk : Int)) ∧ w'.cell? ⟨w4.heap.size, 1, none⟩ = some (.string ⟨tnm.toArray⟩) ∧ w'.cell? ⟨w4.heap.size, 2, none⟩ = some (.slice a6 tat.length cap6) ∧ w'.cell? ⟨w4.heap.size, 3, none⟩ = some (.string ⟨#[]⟩) ∧ w'.cell? ⟨w4.heap.size, 4, none⟩ = some (.int .i64 tfr) ∧ w'.cell? ⟨w4.heap.size, 5, none⟩ = some (.int .i64 tup)) (first | with_reducible exact S8 | with_reducible exact S7 | with_reducible exact SA | with_reducible exact SD)
              (first
              | (go_at_call 13; with_reducible refine cTo.mono ?_; rintro e w7 ⟨a8, cap8, rfl, ho8, hb8⟩; have hb8 := below_of_drew hb8; have S7 := six2 (HK9E.out.below hb8) (HK11.out.below hb8); have HK7 := Lib.hid (HK9E.out.below hb8); have HT7 := Lib.hid (HK11.out.below hb8); have cSm := same_tok (tk : Int) tnm tat tfr tup a8 cap8 a6 cap6 w7 (sl_of ho8) (HS6.out.below hb8) (by omega); have HB8 := Lib.hid (HBE.out.trans (hb8.mono HBE.out.size)); clear ho8 hb8)
              | (go_at_call 12; with_reducible refine cSm.mono ?_; rintro e w8 ⟨rfl, hb9⟩; have S8 := six2 (HK7.out.below hb9) (HT7.out.below hb9); have HB9 := Lib.hid (HB8.out.trans (hb9.mono HB8.out.size)); clear hb9))
            all_goals (go_wp2_with fail; go_meet; exact ⟨rfl, HB9.out⟩)
          case rest =>
            obtain ⟨rfl, hbx⟩ := hcut
            go_wp2
            go_roundw
            case rel => exact ⟨l.length + 1, by go_num, by omega, hbx⟩
            case measure => first | (simp [RowKit.intOf]; done) | (simp [RowKit.intOf]; omega)
      · have t0 : ((k : Int) == (l.length : Int)) = false := by simp; omega
        have hb2 : bgAt l (k : Int) ≤ 2 := by unfold bgAt; split; exact bg_le _; omega
        have hLl := tk_len l (k : Int)
        have cB := begins_any (k : Int) wr (HS.out.below hbw) (by omega)
        have cF := rbegins_any (k : Int) wr (HS.out.below hbw) (by omega)
        have cR := read_on (k : Int) (HS.out.below hbw) (HT.out.below hbw) (by omega)
        have HRR := Lib.hid (fun (wz : World) (hz : Below w.heap.size w wz) => rread_any (k : Int) (HS.out.below hz) (show l.length ≤ 100000 - 1 by omega))
        have HBW := Lib.hid hbw
        obtain ⟨T, hTT⟩ : ∃ T, tkAt l (k : Int) = T := ⟨_, rfl⟩
        obtain ⟨tk, tnm, tat, tfr, tup⟩ := T
        rw [hTT] at hLl
        simp only at hLl
        have HTT := Lib.hid hTT
        obtain ⟨B, hB⟩ : ∃ B, bgAt l (k : Int) = B := ⟨_, rfl⟩
        have HBB := Lib.hid hB
        rw [hB] at cB cF hb2
        clear hbw hTT hB
        rcases (by omega : B = 0 ∨ B = 1 ∨ B = 2) with rfl | rfl | rfl
        all_goals
          go_wp2_with fail
          refine cB.mono ?_
          rintro e wx ⟨rfl, rfl⟩
          go_wp2_with fail
          refine cF.mono ?_
          rintro e wx ⟨rfl, rfl⟩
          go_wp2_with fail
          refine cR.mono ?_
          rintro e w2 ⟨s2, rfl, ho2, hb2'⟩
          rw [HTT.out] at ho2 ⊢
          rw [HBB.out]
          obtain ⟨a5, cap5, rfl, -⟩ := At.sl_own ho2
          unfold tokV
          simp only at ho2 ⊢
          have hbw2 := HBW.out.trans (hb2'.mono hsz)
          have hbw2A := hbw2.alloc hbw2.size (.cells #[.int .i64 (tk : Int), .string ⟨tnm.toArray⟩, .slice a5 tat.length cap5, .string ⟨#[]⟩, .int .i64 tfr, .int .i64 tup] 29)
          have hs5 := (sl_of ho2).below ((Below.refl _ w2).alloc (Nat.le_refl _) (.cells #[.int .i64 (tk : Int), .string ⟨tnm.toArray⟩, .slice a5 tat.length cap5, .string ⟨#[]⟩, .int .i64 tfr, .int .i64 tup] 29))
          have hk9 := bk_new w2 #[.int .i64 (tk : Int), .string ⟨tnm.toArray⟩, .slice a5 tat.length cap5, .string ⟨#[]⟩, .int .i64 tfr, .int .i64 tup] 29
          obtain ⟨WD, hWD⟩ : ∃ W, w2.alloc (.cells #[.int .i64 (tk : Int), .string ⟨tnm.toArray⟩, .slice a5 tat.length cap5, .string ⟨#[]⟩, .int .i64 tfr, .int .i64 tup] 29) = W := ⟨_, rfl⟩
          rw [hWD] at hbw2A hs5 hk9
          have cQ := HRR.out WD hbw2A
          have HB2 := Lib.hid hbw2A
          have HS5 := Lib.hid hs5
          have HK9 := Lib.hid hk9
          clear cR ho2 hb2' hbw2 hbw2A hs5 hk9
          go_wp2_with fail
          refine cQ.mono ?_
          rintro e w4 ⟨s4, rfl, ho4, hb4⟩
          rw [HTT.out] at ho4 ⊢
          rw [HBB.out]
          obtain ⟨a6, cap6, rfl, -⟩ := At.sl_own ho4
          unfold tokV
          simp only at ho4 ⊢
          have hb4A := hb4.alloc hb4.size (.cells #[.int .i64 (tk : Int), .string ⟨tnm.toArray⟩, .slice a6 tat.length cap6, .string ⟨#[]⟩, .int .i64 tfr, .int .i64 tup] 34)
          have hs6 := (sl_of ho4).below ((Below.refl _ w4).alloc (Nat.le_refl _) (.cells #[.int .i64 (tk : Int), .string ⟨tnm.toArray⟩, .slice a6 tat.length cap6, .string ⟨#[]⟩, .int .i64 tfr, .int .i64 tup] 34))
          have hk11 := bk_new w4 #[.int .i64 (tk : Int), .string ⟨tnm.toArray⟩, .slice a6 tat.length cap6, .string ⟨#[]⟩, .int .i64 tfr, .int .i64 tup] 34
          obtain ⟨WE, hWE⟩ : ∃ W, w4.alloc (.cells #[.int .i64 (tk : Int), .string ⟨tnm.toArray⟩, .slice a6 tat.length cap6, .string ⟨#[]⟩, .int .i64 tfr, .int .i64 tup] 34) = W := ⟨_, rfl⟩
          rw [hWE] at hb4A hs6 hk11
          have hs5E := HS5.out.below hb4A
          have hk9E := HK9.out.below hb4A
          have dr : Below WE.heap.size WE WE.drew := ⟨rfl, rfl, rfl, Nat.le_refl _, fun _ _ => rfl⟩
          have cTo := to_tok (tk : Int) tnm tat tfr tup a5 cap5 WE.drew (hs5E.below dr) (by omega)
          have SA := six2 hk9E hk11
          have SD := six2 hk9E.drew hk11.drew
          have HK9E := Lib.hid hk9E
          have HK11 := Lib.hid hk11
          have HS6 := Lib.hid hs6
          have HBE := Lib.hid (HB2.out.trans (hb4A.mono HB2.out.size))
          clear cQ ho4 hb4 hb4A hs6 hk11 hs5E hk9E dr hWD HRR
          go_upto_region 12 with (fail)
          go_cut [74] (fun v wx => v = .bool false ∧ Below w.heap.size w wx)
          case first =>
            go_region_held3 (fun w' => (w'.cell? ⟨w2.heap.size, 0, none⟩ = some (.int .i64 (tk : Int)) ∧ w'.cell? ⟨w2.heap.size, 1, none⟩ = some (.string ⟨tnm.toArray⟩) ∧ w'.cell? ⟨w2.heap.size, 2, none⟩ = some (.slice a5 tat.length cap5) ∧ w'.cell? ⟨w2.heap.size, 3, none⟩ = some (.string ⟨#[]⟩) ∧ w'.cell? ⟨w2.heap.size, 4, none⟩ = some (.int .i64 tfr) ∧ w'.cell? ⟨w2.heap.size, 5, none⟩ = some (.int .i64 tup)) ∧ w'.cell? ⟨w4.heap.size, 0, none⟩ = some (.int .i64 (tk : Int)) ∧ w'.cell? ⟨w4.heap.size, 1, none⟩ = some (.string ⟨tnm.toArray⟩) ∧ w'.cell? ⟨w4.heap.size, 2, none⟩ = some (.slice a6 tat.length cap6) ∧ w'.cell? ⟨w4.heap.size, 3, none⟩ = some (.string ⟨#[]⟩) ∧ w'.cell? ⟨w4.heap.size, 4, none⟩ = some (.int .i64 tfr) ∧ w'.cell? ⟨w4.heap.size, 5, none⟩ = some (.int .i64 tup)) (first | with_reducible exact S8 | with_reducible exact S7 | with_reducible exact SA | with_reducible exact SD)
              (first
              | (go_at_call 13; with_reducible refine cTo.mono ?_; rintro e w7 ⟨a8, cap8, rfl, ho8, hb8⟩; have hb8 := below_of_drew hb8; have S7 := six2 (HK9E.out.below hb8) (HK11.out.below hb8); have HK7 := Lib.hid (HK9E.out.below hb8); have HT7 := Lib.hid (HK11.out.below hb8); have cSm := same_tok (tk : Int) tnm tat tfr tup a8 cap8 a6 cap6 w7 (sl_of ho8) (HS6.out.below hb8) (by omega); have HB8 := Lib.hid (HBE.out.trans (hb8.mono HBE.out.size)); clear ho8 hb8)
              | (go_at_call 12; with_reducible refine cSm.mono ?_; rintro e w8 ⟨rfl, hb9⟩; have S8 := six2 (HK7.out.below hb9) (HT7.out.below hb9); have HB9 := Lib.hid (HB8.out.trans (hb9.mono HB8.out.size)); clear hb9))
            all_goals (go_wp2_with fail; go_meet; exact ⟨rfl, HB9.out⟩)
          case rest =>
            obtain ⟨rfl, hbx⟩ := hcut
            go_wp2
            go_roundw
            case rel => exact ⟨k + 1, by go_num, by omega, hbx⟩
            case measure => first | (simp [RowKit.intOf]; done) | (simp [RowKit.intOf]; omega)
    · have hk2 : ¬ ((k : Int) < (l.length : Int) + 1) := by omega
      go_wp2
      go_ret
      exact ⟨rfl, hbw⟩
end Go.Proofs.YtfnecdifaodamaaDoor.Tg
