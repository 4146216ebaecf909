/- Layer 10's smaller functions, walked: refText, rawText, breaks, textEnd. -/
import Derived.Test.YtndcmapifihgeaaGreatDoorTkMath
import Derived.Test.YtndcmapifihgeaaGreatDoorTgTo
import Derived.Test.YtndcmapifihgeaaGreatDoorMkRead
import Derived.Test.YtndcmapifihgeaaGreatDoorRwRe
namespace Go.Proofs.YtndcmapifihgeaaGreatDoor.Tk
open Go.RowKit Go.Lib
open Ch (at0 nx nx_width at0_lt at0_drop Sl Sl.below Cells allN allFrom ret_bool)
open Tg (bg tr tn zero29 info29 Bk bk_new below_set6 bgAt)
open At (cellsA)

variable {l : List UInt8} {a : Option Addr} {cap i : Nat} {w w' : World}

/-- the characters up to a < are those of the bytes ahead of it alone -/
theorem all_lt (k : Nat) : ∀ m : List UInt8, k ≤ m.length → (k < m.length → at0 m k = 60) → allN m k = all0 (m.take k) := by
  induction k using Nat.strongRecOn with
  | ind k ih =>
    intro m hk h60
    by_cases h0 : k = 0
    · subst h0
      rw [Ch.allN_zero, List.take_zero, all0_nil]
    have hm : m ≠ [] := by rintro rfl; simp at hk; omega
    have ht : m.take k ≠ [] := by
      intro e
      have := congrArg List.length e
      simp at this
      rcases this with h | h
      · exact h0 h
      · exact hm h
    have hnx : nx m = nx (m.take k) := by
      rcases Nat.lt_or_ge k m.length with h | h
      · have e : m = m.take k ++ m.drop k := (List.take_append_drop k m).symm
        have hs : Stops (m.drop k) := by
          have e60 : at0 (m.drop k) 0 = 60 := by rw [at0_drop]; exact h60 h
          exact ⟨by rw [e60]; decide, by rw [e60]; decide⟩
        conv => lhs; rw [e]
        exact nx_stops ht hs
      · rw [List.take_of_length_le h]
    have hw := nx_width (m.take k) ht
    rw [List.length_take, Nat.min_eq_left hk] at hw
    rw [Ch.allN_step m k hm (by omega), all0_step ht, hnx]
    obtain ⟨c, hc⟩ : ∃ c, (nx (m.take k)).2 = c := ⟨_, rfl⟩
    rw [hc] at hw ⊢
    rw [ih (k - c) (by omega) (m.drop c) (by rw [List.length_drop]; omega) (fun h => by
      rw [List.length_drop] at h
      rw [at0_drop, show c + (k - c) = k by omega]
      exact h60 (by omega))]
    rw [List.drop_take]

set_option maxHeartbeats 1000000 in
set_option maxRecDepth 100000 in
theorem refText_any (i e : Nat) (w : World) (hs : Sl l a cap w) (hT : Tb w) (hl : l.length ≤ 1000000) (hie : i ≤ e) (hin : e ≤ l.length) :
    Calls Tryz.prog 28 #[.slice a l.length cap, .int .i64 (i : Int), .int .i64 (e : Int)] w fun r w' => r = .returned (.agg #[.int .i64 1, .string ⟨#[]⟩, .slice none 0 0, .string ⟨(txt false (sl l i e)).toArray⟩, .int .i64 (i : Int), .int .i64 (e : Int)]) ∧ Below w.heap.size w w' := by
  obtain ⟨W1, hW1⟩ : ∃ W1, w.alloc (.cells zero29 26) = W1 := ⟨_, rfl⟩
  have hbA : Below w.heap.size w W1 := by rw [← hW1]; exact (Below.refl _ w).alloc (Nat.le_refl _) _
  have bT : Bk w.heap.size zero29 26 W1 := by rw [← hW1]; exact bk_new w zero29 26
  have cT := text_any l a cap i (e - i) (i : Int) (e : Int) false W1 (hs.below hbA) rfl (by omega) (by omega) (hT.below hbA) hl
  change Calls _ _ _ _ (fun r w' => r = .returned (.string ⟨(txt false (sl l i e)).toArray⟩) ∧ _) at cT
  generalize txt false (sl l i e) = X at cT ⊢
  unfold zero29 at hW1 bT
  have HBT := Lib.hid bT
  have HB := Lib.hid hbA
  clear bT hbA hs hT
  go_enter Tryz.func28, Tryz.ntmps28
  go_wp2_with fail
  refine cT.mono ?_
  rintro r w2 ⟨rfl, hb2⟩
  obtain ⟨k0, k1, k2, k3, k4, k5, f0, f1, f2, f3, f4, f5⟩ := (HBT.out.below hb2).six
  have HB2 := Lib.hid hb2
  clear hb2
  go_wp2
  (try simp only [Exit.inBlock, Exit.then])
  refine bodyPost_ret (results_cell_row rfl _ _ w.heap.size 26 #[.int .i64 1, .string ⟨#[]⟩, .slice none 0 0, .string ⟨X.toArray⟩, .int .i64 (i : Int), .int .i64 (e : Int)] (0, 0) _ rfl ?_ Tryz.underlying26 rfl info29) rfl ?_
  · exact ((HBT.out.below HB2.out).set6 _ _ _ _ _ _).blk
  · exact ⟨rfl, below_set6 (HB.out.trans (HB2.out.mono HB.out.size)) (Nat.le_refl _) _ _ _ _ _ _⟩

set_option maxHeartbeats 1000000 in
set_option maxRecDepth 100000 in
theorem rawText_any (n : List UInt8) (i e : Nat) (w : World) (hs : Sl l a cap w) (hT : Tb w) (hl : l.length ≤ 1000000) (hie : i ≤ e) (hin : e ≤ l.length) (h60 : e < l.length → at0 l e = 60) (hi : i < l.length) :
    Calls Tryz.prog 13 #[.slice a l.length cap, .int .i64 (i : Int), .int .i64 (e : Int), .int .i64 ((Rw.kdN n : Nat) : Int)] w fun r w' => r = .returned (.agg #[.int .i64 1, .string ⟨#[]⟩, .slice none 0 0, .string ⟨(rwT l n i e).text.toArray⟩, .int .i64 (i : Int), .int .i64 (e : Int)]) ∧ Below w.heap.size w w' := by
  obtain ⟨W1, hW1⟩ : ∃ W1, w.alloc (.cells zero29 26) = W1 := ⟨_, rfl⟩
  have hbA : Below w.heap.size w W1 := by rw [← hW1]; exact (Below.refl _ w).alloc (Nat.le_refl _) _
  have bT : Bk w.heap.size zero29 26 W1 := by rw [← hW1]; exact bk_new w zero29 26
  have cR := refText_any i e W1 (hs.below hbA) (hT.below hbA) hl hie hin
  have cA := Ch.all_any l a cap (i : Int) (e : Int) W1 (hs.below hbA) (hT.below hbA).1 hl
  have hall : allFrom l (i : Int) (e : Int) = all0 (sl l i e) := by
    unfold allFrom sl
    rw [if_pos (by omega), show (i : Int).toNat = i by omega, show ((e : Int) - (i : Int)).toNat = e - i by omega]
    exact all_lt (e - i) (l.drop i) (by rw [List.length_drop]; omega) (fun h => by
      rw [List.length_drop] at h
      rw [at0_drop, show i + (e - i) = e by omega]
      exact h60 (by omega))
  rw [hall] at cA
  show Calls _ _ _ _ fun r w' => r = .returned (.agg #[.int .i64 1, .string ⟨#[]⟩, .slice none 0 0, .string ⟨(if Rw.kdN n = 1 then txt false (sl l i e) else all0 (sl l i e)).toArray⟩, .int .i64 (i : Int), .int .i64 (e : Int)]) ∧ Below w.heap.size w w'
  generalize txt false (sl l i e) = X at cR ⊢
  generalize all0 (sl l i e) = Y at cA ⊢
  unfold zero29 at hW1 bT
  have HBT := Lib.hid bT
  have HB := Lib.hid hbA
  have hk3 := Rw.kdN_le n
  clear bT hbA hs hT hall
  generalize Rw.kdN n = K at hk3 ⊢
  by_cases h1 : K = 1
  · subst h1
    rw [if_pos rfl]
    go_enter Tryz.func13, Tryz.ntmps13
    go_wp2_with fail
    refine cR.mono ?_
    rintro r w2 ⟨rfl, hb2⟩
    obtain ⟨k0, k1, k2, k3, k4, k5, f0, f1, f2, f3, f4, f5⟩ := (HBT.out.below hb2).six
    have HB2 := Lib.hid hb2
    clear hb2
    go_wp2
    (try simp only [Exit.inBlock, Exit.then])
    refine bodyPost_ret (results_cell_row rfl _ _ w.heap.size 26 #[.int .i64 1, .string ⟨#[]⟩, .slice none 0 0, .string ⟨X.toArray⟩, .int .i64 (i : Int), .int .i64 (e : Int)] (0, 0) _ rfl ?_ Tryz.underlying26 rfl info29) rfl ?_
    · exact ((HBT.out.below HB2.out).set6 _ _ _ _ _ _).blk
    · exact ⟨rfl, below_set6 (HB.out.trans (HB2.out.mono HB.out.size)) (Nat.le_refl _) _ _ _ _ _ _⟩
  · rw [if_neg h1]
    have h2 : ¬ ((K : Int) = 1) := by omega
    go_enter Tryz.func13, Tryz.ntmps13
    go_wp2_with fail
    refine cA.mono ?_
    rintro r w2 ⟨rfl, hb2⟩
    obtain ⟨k0, k1, k2, k3, k4, k5, f0, f1, f2, f3, f4, f5⟩ := (HBT.out.below hb2).six
    have HB2 := Lib.hid hb2
    clear hb2
    go_wp2
    (try simp only [Exit.inBlock, Exit.then])
    refine bodyPost_ret (results_cell_row rfl _ _ w.heap.size 26 #[.int .i64 1, .string ⟨#[]⟩, .slice none 0 0, .string ⟨Y.toArray⟩, .int .i64 (i : Int), .int .i64 (e : Int)] (0, 0) _ rfl ?_ Tryz.underlying26 rfl info29) rfl ?_
    · exact ((HBT.out.below HB2.out).set6 _ _ _ _ _ _).blk
    · exact ⟨rfl, below_set6 (HB.out.trans (HB2.out.mono HB.out.size)) (Nat.le_refl _) _ _ _ _ _ _⟩

set_option maxHeartbeats 1000000 in
set_option maxRecDepth 100000 in
theorem breaks_any (i : Nat) (w : World) (hs : Sl l a cap w) (hl : l.length ≤ 1000000) (hi : i < l.length) :
    Calls Tryz.prog 57 #[.slice a l.length cap, .int .i64 (i : Int)] w fun r w' => r = .returned (.bool (brk (l.drop i))) ∧ Below w.heap.size w w' := by
  have cB := Tg.begins_any (i : Int) w hs hl
  have hbg : bgAt l (i : Int) = bg (l.drop i) := by unfold bgAt; rw [if_pos (by omega)]; rfl
  rw [hbg] at cB
  unfold brk
  by_cases h0 : bg (l.drop i) ≠ 0
  · rw [decide_eq_true h0, Bool.true_or]
    rw [decide_eq_true h0] at cB
    go_enter Tryz.func57, Tryz.ntmps57
    go_wp2_with fail
    refine cB.mono ?_
    rintro r w2 ⟨rfl, rfl⟩
    go_wp2
    go_ret
    exact ⟨rfl, Below.refl _ _⟩
  · rw [decide_eq_false h0, Bool.false_or]
    rw [decide_eq_false h0] at cB
    have cM := Mk.read_any i w hs hi hl
    unfold Mk.rdAns at cM
    generalize decide (Mk.kd (l.drop i) ≠ 0) = D at cM ⊢
    generalize (if Mk.kd (l.drop i) = 0 then 0 else i + Mk.ln (l.drop i) (Mk.kd (l.drop i))) = E at cM
    generalize Mk.kd (l.drop i) = K at cM
    generalize decide (bg (l.drop i) = 2) = F at cB
    go_enter Tryz.func57, Tryz.ntmps57
    go_wp2_with fail
    refine cB.mono ?_
    rintro r w2 ⟨rfl, rfl⟩
    go_wp2_with fail
    refine cM.mono ?_
    rintro r w3 ⟨rfl, hb3⟩
    go_wp2
    go_ret
    exact ⟨rfl, hb3⟩

theorem lt60 {i : Nat} : (((at0 l i : Nat) : Int) == 60) = decide (at0 l i = 60) := by
  rw [Bool.eq_iff_iff]; simp only [beq_iff_eq, decide_eq_true_eq]; omega
theorem brk_at0 {i : Nat} (h : at0 l i ≠ 60) : brk (l.drop i) = false := by
  cases hb : brk (l.drop i) with
  | false => rfl
  | true =>
    have := ((brk_iff _).1 hb).1
    rw [at0_drop] at this
    exact absurd this h

def TeRel (l : List UInt8) (i : Nat) (w : World) (v : Value) (wr : World) : Prop :=
  ∃ j : Nat, v = .int .i64 (j : Int) ∧ i + 1 ≤ j ∧ j ≤ l.length ∧ j + tx (l.drop j) = te l i ∧ Below w.heap.size w wr

set_option maxHeartbeats 2000000 in
set_option maxRecDepth 100000 in
theorem textEnd_any (i : Nat) (w : World) (hs : Sl l a cap w) (hl : l.length ≤ 1000000) (hi : i < l.length) :
    Calls Tryz.prog 32 #[.slice a l.length cap, .int .i64 (i : Int)] w fun r w' => r = .returned (.int .i64 ((te l i : Nat) : Int)) ∧ Below w.heap.size w w' := by
  obtain ⟨hcap, h2 | ⟨b, off, rfl, hc⟩⟩ := hs
  · subst h2; simp at hi
  have hs : Sl l (some ⟨b, off, none⟩) cap w := ⟨hcap, Or.inr ⟨b, off, rfl, hc⟩⟩
  have HS := Lib.hid hs
  have HC := Lib.hid hc
  clear hs hc
  go_enter Tryz.func32, Tryz.ntmps32
  go_wp2
  go_loopw [5] (fun v wr => TeRel l i w v wr) (fun v _ => l.length - (RowKit.intOf v).toNat)
  case atStart => exact ⟨i + 1, by go_num, by omega, by omega, rfl, Below.refl _ w⟩
  case round =>
    obtain ⟨j, rfl, hj1, hj2, hj3, hbw⟩ := hrel
    by_cases hlt : j < l.length
    · have hlt1 : (j : Int) < (l.length : Int) := by omega
      have hcell : wr.cell? ⟨b, off + j, none⟩ = some (.int .u8 ((at0 l j : Nat) : Int)) := (Ch.Cells.below HC.out hbw) j hlt
      have cB := breaks_any (l := l) (a := some ⟨b, off, none⟩) (cap := cap) j wr (HS.out.below hbw) hl hlt
      have htx := tx_at hlt
      have HBW := Lib.hid hbw
      clear hbw
      by_cases h60 : at0 l j = 60
      · have hq : (((at0 l j : Nat) : Int) = 60) := by omega
        cases hb : brk (l.drop j) with
        | true =>
          rw [hb] at cB htx
          rw [if_pos rfl] at htx
          have HJ := Lib.hid (show j = te l i by omega)
          clear htx hj3
          go_wp2_with fail
          refine cB.mono ?_
          rintro r w2 ⟨rfl, hb2⟩
          go_wp2
          go_ret
          exact ⟨congrArg (fun x : Nat => Ending.returned (.int .i64 (x : Int))) HJ.out, HBW.out.trans (hb2.mono HBW.out.size)⟩
        | false =>
          rw [hb] at cB htx
          rw [if_neg (by decide)] at htx
          have HJ := Lib.hid (show j + 1 + tx (l.drop (j + 1)) = te l i by omega)
          clear htx hj3
          go_wp2_with fail
          refine cB.mono ?_
          rintro r w2 ⟨rfl, hb2⟩
          have HB2 := Lib.hid (HBW.out.trans (hb2.mono HBW.out.size))
          clear hb2
          go_wp2
          go_roundw
          case rel => exact ⟨j + 1, by go_num, by omega, by omega, HJ.out, HB2.out⟩
          case measure => simp [RowKit.intOf]; omega
      · have hq : ¬ (((at0 l j : Nat) : Int) = 60) := by omega
        rw [brk_at0 h60, if_neg (by decide)] at htx
        have HJ := Lib.hid (show j + 1 + tx (l.drop (j + 1)) = te l i by omega)
        clear htx hj3 cB
        generalize at0 l j = A at *
        go_wp2
        go_roundw
        case rel => exact ⟨j + 1, by go_num, by omega, by omega, HJ.out, HBW.out⟩
        case measure => simp [RowKit.intOf]; omega
    · have hlt1 : ¬ ((j : Int) < (l.length : Int)) := by omega
      obtain rfl : j = l.length := by omega
      have HJ := Lib.hid (show l.length = te l i by rw [← hj3, List.drop_length]; rfl)
      have HBW := Lib.hid hbw
      clear hbw hj3
      go_wp2
      go_ret
      exact ⟨congrArg (fun x : Nat => Ending.returned (.int .i64 (x : Int))) HJ.out, HBW.out⟩
end Go.Proofs.YtndcmapifihgeaaGreatDoor.Tk

/- Layer 10's tagged, Next and within, walked. -/
namespace Go.Proofs.YtndcmapifihgeaaGreatDoor.Tk
open Go.RowKit Go.Lib
open Ch (at0 nx nx_width at0_lt at0_drop Sl Sl.below Cells allN allFrom ret_bool)
open Tg (bg tr tn zero29 info29 Bk bk_new below_set6 own_set6 bgAt tkAt tkIn tokV)
open At (cellsA ads)

variable {l : List UInt8} {a : Option Addr} {cap i : Nat} {w w' : World}

/-- a token's cells -/
def tkV (t : Tok) (s : Value) : Value := .agg #[.int .i64 (t.kind : Int), .string ⟨t.name.toArray⟩, s, .string ⟨t.text.toArray⟩, .int .i64 (t.frm : Int), .int .i64 (t.upto : Int)]

theorem tok_tg (l : List UInt8) (i : Nat) (s : Value) : tokV (tkIn l i) s = tkV (tgT l i) s ∧ (tkIn l i).attrs = (tgT l i).attrs := by
  unfold tkIn tgT
  cases tr (l.drop i) with
  | none => exact ⟨rfl, rfl⟩
  | some p => exact ⟨rfl, rfl⟩

theorem own_apart {g : Nat} {B : Nat} {e : TypeId} {k : Nat} {v : Value} {n : Nat} {xs : List Value} (h : w.ownsRow B e k v n xs) (hg : g < B) : v.ownBlock = none ∨ v.ownBlock ≠ some g := by
  cases hv : v.ownBlock with
  | none => exact Or.inl rfl
  | some q => have := (h.lt q hv).1; exact Or.inr (by simp; omega)

/-- what tagged and Next answer -/
def TkPost (t : Tok) (w : World) (r : Ending) (w' : World) : Prop :=
  ∃ s, r = .returned (tkV t s) ∧ w'.ownsRow w.heap.size 75 2 s t.attrs.length (cellsA t.attrs) ∧ Below w.heap.size w w'

set_option maxHeartbeats 4000000 in
set_option maxRecDepth 100000 in
theorem tagged_any (i : Nat) (w : World) (hs : Sl l a cap w) (hT : Tb w) (hl : l.length ≤ 100000 - 1) (hi : i < l.length) :
    Calls Tryz.prog 15 #[.slice a l.length cap, .int .i64 (i : Int)] w (TkPost (tdT l i) w) := by
  obtain ⟨W1, hW1⟩ : ∃ W1, w.alloc (.cells zero29 26) = W1 := ⟨_, rfl⟩
  have hbA : Below w.heap.size w W1 := by rw [← hW1]; exact (Below.refl _ w).alloc (Nat.le_refl _) _
  have hz1 : W1.heap.size = w.heap.size + 1 := by rw [← hW1]; simp
  have bT : Bk w.heap.size zero29 26 W1 := by rw [← hW1]; exact bk_new w zero29 26
  have cR := Tg.read_on (i : Int) (hs.below hbA) (hT.below hbA) hl
  have hbg : bgAt l (i : Int) = bg (l.drop i) := by unfold bgAt; rw [if_pos (by omega)]; rfl
  have HS := Lib.hid hs
  have HT := Lib.hid hT
  have HBT := Lib.hid bT
  have HB := Lib.hid hbA
  have HZ := Lib.hid hz1
  unfold zero29 at hW1 HBT
  clear bT hbA hs hT hz1
  unfold Tg.ReadPost at cR
  by_cases h0 : bg (l.drop i) ≠ 0
  · have htk : tkAt l (i : Int) = tkIn l i := by unfold tkAt; rw [hbg, if_neg h0]; rfl
    have HTD := Lib.hid (show tdT l i = tgT l i by unfold tdT; rw [if_pos h0])
    have HTG := Lib.hid (tok_tg l i)
    have HD := Lib.hid (show decide (bgAt l (i : Int) ≠ 0) = true by rw [hbg]; exact decide_eq_true h0)
    have HK := Lib.hid htk
    clear htk hbg h0
    have cR : Calls Tryz.prog 30 #[.slice a l.length cap, .int .i64 (i : Int)] W1 (fun r w' => ∃ s, r = .returned (.tuple #[tkV (tgT l i) s, .bool true]) ∧ w'.ownsRow W1.heap.size 75 2 s (tgT l i).attrs.length (cellsA (tgT l i).attrs) ∧ Below W1.heap.size W1 w') := cR.mono (by
      rintro r w2 ⟨s, rfl, ho2, hb2⟩
      rw [HK.out, (HTG.out s).2] at ho2
      exact ⟨s, by rw [HD.out, HK.out, (HTG.out s).1], ho2, hb2⟩)
    rw [HTD.out]
    unfold TkPost
    unfold tkV at cR ⊢
    clear HTG HD HK HTD
    generalize (tgT l i).kind = tk at *
    generalize (tgT l i).name = tnm at *
    generalize (tgT l i).text = ttx at *
    generalize (tgT l i).frm = tfr at *
    generalize (tgT l i).upto = tup at *
    generalize (tgT l i).attrs = tat at *
    go_enter Tryz.func15, Tryz.ntmps15
    go_wp2_with fail
    refine cR.mono ?_
    rintro r w2 ⟨s, rfl, ho2, hb2⟩
    obtain ⟨a5, cap5, rfl, -⟩ := At.sl_own ho2
    have HO2 := Lib.hid ho2
    have HB2 := Lib.hid hb2
    obtain ⟨W3, hW3⟩ : ∃ W3, w2.alloc (.cells #[.int .i64 (tk : Int), .string ⟨tnm.toArray⟩, .slice a5 tat.length cap5, .string ⟨ttx.toArray⟩, .int .i64 (tfr : Int), .int .i64 (tup : Int)] 26) = W3 := ⟨_, rfl⟩
    have hbw2 : Below w.heap.size w w2 := HB.out.trans (hb2.mono HB.out.size)
    have hbw3 : Below w.heap.size w W3 := by rw [← hW3]; exact hbw2.alloc hbw2.size _
    have bk2 := HBT.out.below hb2
    have bk3 : Bk w.heap.size #[.int .i64 0, .string ⟨#[]⟩, .slice none 0 0, .string ⟨#[]⟩, .int .i64 0, .int .i64 0] 26 W3 := by rw [← hW3]; exact bk2.alloc _
    clear bk2
    have bn3 : Bk w2.heap.size #[.int .i64 (tk : Int), .string ⟨tnm.toArray⟩, .slice a5 tat.length cap5, .string ⟨ttx.toArray⟩, .int .i64 (tfr : Int), .int .i64 (tup : Int)] 26 W3 := by rw [← hW3]; exact bk_new w2 _ 26
    have ho3 : W3.ownsRow W1.heap.size 75 2 (.slice a5 tat.length cap5) tat.length (cellsA tat) := by rw [← hW3]; exact ho2.alloc _
    obtain ⟨k0, k1, k2, k3, k4, k5, f0, f1, f2, f3, f4, f5⟩ := bk3.six
    obtain ⟨q0, q1, q2, q3, q4, q5, -, -, -, -, -, -⟩ := bn3.six
    have HO3 := Lib.hid ho3
    have HB3 := Lib.hid hbw3
    have HK3 := Lib.hid bk3
    clear ho2 hb2 ho3 hbw2 hbw3 bk3 bn3 HO2 HB2
    go_wp2
    (try simp only [Exit.inBlock, Exit.then])
    refine bodyPost_ret (results_cell_row rfl _ _ w.heap.size 26 #[.int .i64 (tk : Int), .string ⟨tnm.toArray⟩, .slice a5 tat.length cap5, .string ⟨ttx.toArray⟩, .int .i64 (tfr : Int), .int .i64 (tup : Int)] (0, 0) _ rfl ?_ Tryz.underlying26 rfl info29) rfl ?_
    · exact (HK3.out.set6 _ _ _ _ _ _).blk
    · refine ⟨_, rfl, ?_, ?_⟩
      · exact own_set6 (At.ownsRow_base HO3.out (by have := HZ.out; omega)) (own_apart HO3.out (by have := HZ.out; omega)) _ _ _ _ _ _
      · exact below_set6 HB3.out (Nat.le_refl _) _ _ _ _ _ _
  · have h0' : bg (l.drop i) = 0 := by simpa using h0
    have htk : tkAt l (i : Int) = ⟨0, [], [], 0, 0⟩ := by unfold tkAt; rw [hbg, if_pos h0']
    rw [htk, hbg, h0'] at cR
    unfold tokV at cR
    have HTD := Lib.hid (show tdT l i = if Mk.kd (l.drop i) ≠ 0 then ⟨0, [], [], [], i, i + Mk.ln (l.drop i) (Mk.kd (l.drop i))⟩ else ⟨1, [], [], txt false (sl l i (te l i)), i, te l i⟩ by unfold tdT; rw [if_neg h0])
    clear htk hbg h0 h0'
    by_cases hk : Mk.kd (l.drop i) ≠ 0
    · have HTD2 := Lib.hid (show tdT l i = ⟨0, [], [], [], i, i + Mk.ln (l.drop i) (Mk.kd (l.drop i))⟩ by rw [HTD.out, if_pos hk])
      have hln := (Mk.mark_is hk).2.2.2.2.1
      rw [List.length_drop] at hln
      have HK := Lib.hid hk
      clear HTD hk
      rw [HTD2.out]
      clear HTD2
      obtain ⟨U, hU⟩ : ∃ U, i + Mk.ln (l.drop i) (Mk.kd (l.drop i)) = U := ⟨_, rfl⟩
      rw [hU]
      have HU := Lib.hid hU
      clear hU
      go_enter Tryz.func15, Tryz.ntmps15
      go_wp2_with fail
      refine cR.mono ?_
      rintro r w2 ⟨s, rfl, ho2, hb2⟩
      obtain ⟨a5, cap5, rfl, -⟩ := At.sl_own ho2
      have hbw2 : Below w.heap.size w w2 := HB.out.trans (hb2.mono HB.out.size)
      have bk2 := HBT.out.below hb2
      clear ho2 hb2
      simp only [List.length_nil]
      have hbw3 : Below w.heap.size w (w2.alloc (.cells #[.int .i64 0, .string ⟨#[]⟩, .slice a5 0 cap5, .string ⟨#[]⟩, .int .i64 0, .int .i64 0] 26)) := hbw2.alloc hbw2.size _
      have bk3 : Bk w.heap.size #[.int .i64 0, .string ⟨#[]⟩, .slice none 0 0, .string ⟨#[]⟩, .int .i64 0, .int .i64 0] 26 (w2.alloc (.cells #[.int .i64 0, .string ⟨#[]⟩, .slice a5 0 cap5, .string ⟨#[]⟩, .int .i64 0, .int .i64 0] 26)) := bk2.alloc _
      have cM := Mk.read_any i (w2.alloc (.cells #[.int .i64 0, .string ⟨#[]⟩, .slice a5 0 cap5, .string ⟨#[]⟩, .int .i64 0, .int .i64 0] 26)) (HS.out.below hbw3) hi (by omega)
      unfold Mk.rdAns at cM
      rw [if_neg HK.out, decide_eq_true HK.out, HU.out] at cM
      generalize Mk.kd (l.drop i) = K at cM
      have HB3 := Lib.hid hbw3
      have HK3 := Lib.hid bk3
      clear hbw2 hbw3 bk2 bk3
      go_wp2_with fail
      refine cM.mono ?_
      rintro r w4 ⟨rfl, hb4⟩
      obtain ⟨k0, k1, k2, k3, k4, k5, f0, f1, f2, f3, f4, f5⟩ := (HK3.out.below hb4).six
      have HB4 := Lib.hid hb4
      clear hb4
      go_wp2
      (try simp only [Exit.inBlock, Exit.then])
      refine bodyPost_ret (results_cell_row rfl _ _ w.heap.size 26 #[.int .i64 0, .string ⟨#[]⟩, .slice none 0 0, .string ⟨#[]⟩, .int .i64 (i : Int), .int .i64 (U : Int)] (0, 0) _ rfl ?_ Tryz.underlying26 rfl info29) rfl ?_
      · exact ((HK3.out.below HB4.out).set6 _ _ _ _ _ _).blk
      · exact ⟨.slice none 0 0, rfl, World.ownsRow_nil _ _ _ _, below_set6 (HB3.out.trans (HB4.out.mono HB3.out.size)) (Nat.le_refl _) _ _ _ _ _ _⟩
    · have HTD2 := Lib.hid (show tdT l i = ⟨1, [], [], txt false (sl l i (te l i)), i, te l i⟩ by rw [HTD.out, if_neg hk])
      have HK := Lib.hid (show Mk.kd (l.drop i) = 0 by simpa using hk)
      have hte := te_le hi
      clear HTD hk
      rw [HTD2.out]
      clear HTD2
      have cE := fun w hs => textEnd_any (l := l) (a := a) (cap := cap) i w hs (by omega) hi
      have cX := fun w hs hT => refText_any (l := l) (a := a) (cap := cap) i (te l i) w hs hT (by omega) (by omega) hte.1
      generalize txt false (sl l i (te l i)) = X at cX ⊢
      generalize te l i = U at *
      have CE := Lib.hid cE
      have CX := Lib.hid cX
      clear cE cX
      go_enter Tryz.func15, Tryz.ntmps15
      go_wp2_with fail
      refine cR.mono ?_
      rintro r w2 ⟨s, rfl, ho2, hb2⟩
      obtain ⟨a5, cap5, rfl, -⟩ := At.sl_own ho2
      have hbw2 : Below w.heap.size w w2 := HB.out.trans (hb2.mono HB.out.size)
      have bk2 := HBT.out.below hb2
      clear ho2 hb2
      simp only [List.length_nil]
      have hbw3 : Below w.heap.size w (w2.alloc (.cells #[.int .i64 0, .string ⟨#[]⟩, .slice a5 0 cap5, .string ⟨#[]⟩, .int .i64 0, .int .i64 0] 26)) := hbw2.alloc hbw2.size _
      have bk3 : Bk w.heap.size #[.int .i64 0, .string ⟨#[]⟩, .slice none 0 0, .string ⟨#[]⟩, .int .i64 0, .int .i64 0] 26 (w2.alloc (.cells #[.int .i64 0, .string ⟨#[]⟩, .slice a5 0 cap5, .string ⟨#[]⟩, .int .i64 0, .int .i64 0] 26)) := bk2.alloc _
      have cM := Mk.read_any i (w2.alloc (.cells #[.int .i64 0, .string ⟨#[]⟩, .slice a5 0 cap5, .string ⟨#[]⟩, .int .i64 0, .int .i64 0] 26)) (HS.out.below hbw3) hi (by omega)
      unfold Mk.rdAns at cM
      rw [if_pos HK.out, HK.out] at cM
      have HB3 := Lib.hid hbw3
      have HK3 := Lib.hid bk3
      clear hbw2 hbw3 bk2 bk3
      go_wp2_with fail
      refine cM.mono ?_
      rintro r w4 ⟨rfl, hb4⟩
      have hbw4 := HB3.out.trans (hb4.mono HB3.out.size)
      have bk4 := HK3.out.below hb4
      have cE := CE.out w4 (HS.out.below hbw4)
      have HB4 := Lib.hid hbw4
      have HK4 := Lib.hid bk4
      clear hb4 hbw4 bk4
      go_wp2_with fail
      refine cE.mono ?_
      rintro r w5 ⟨rfl, hb5⟩
      have hbw5 := HB4.out.trans (hb5.mono HB4.out.size)
      have bk5 := HK4.out.below hb5
      have cX := CX.out w5 (HS.out.below hbw5) (HT.out.below hbw5)
      have HB5 := Lib.hid hbw5
      have HK5 := Lib.hid bk5
      clear hb5 hbw5 bk5
      go_wp2_with fail
      refine cX.mono ?_
      rintro r w6 ⟨rfl, hb6⟩
      obtain ⟨k0, k1, k2, k3, k4, k5, f0, f1, f2, f3, f4, f5⟩ := (HK5.out.below hb6).six
      have HB6 := Lib.hid hb6
      clear hb6
      go_wp2
      (try simp only [Exit.inBlock, Exit.then])
      refine bodyPost_ret (results_cell_row rfl _ _ w.heap.size 26 #[.int .i64 1, .string ⟨#[]⟩, .slice none 0 0, .string ⟨X.toArray⟩, .int .i64 (i : Int), .int .i64 (U : Int)] (0, 0) _ rfl ?_ Tryz.underlying26 rfl info29) rfl ?_
      · exact ((HK5.out.below HB6.out).set6 _ _ _ _ _ _).blk
      · exact ⟨.slice none 0 0, rfl, World.ownsRow_nil _ _ _ _, below_set6 (HB5.out.trans (HB6.out.mono HB5.out.size)) (Nat.le_refl _) _ _ _ _ _ _⟩
end Go.Proofs.YtndcmapifihgeaaGreatDoor.Tk

/- Layer 10's Next and within, walked. -/
namespace Go.Proofs.YtndcmapifihgeaaGreatDoor.Tk
open Go.RowKit Go.Lib
open Ch (at0 nx nx_width at0_lt at0_drop Sl Sl.below Cells allN allFrom ret_bool)
open Tg (bg tr tn zero29 info29 Bk bk_new below_set6 own_set6 bgAt tkAt tkIn tokV)
open At (cellsA ads)

variable {l : List UInt8} {a : Option Addr} {cap i : Nat} {w w' : World}

set_option maxHeartbeats 2000000 in
set_option maxRecDepth 100000 in
theorem next_out (n : List UInt8) (x : Int) (m : Nat) (w : World) (h : ¬ (0 ≤ x ∧ x < (m : Int))) :
    Calls Tryz.prog 6 #[.slice a m cap, .int .i64 x, .string ⟨n.toArray⟩] w fun r w' => r = .returned (.tuple #[.agg #[.int .i64 0, .string ⟨#[]⟩, .slice none 0 0, .string ⟨#[]⟩, .int .i64 0, .int .i64 0], .bool false]) ∧ Below w.heap.size w w' := by
  have bT := bk_new w zero29 26
  unfold zero29 at bT
  obtain ⟨k0, k1, k2, k3, k4, k5, f0, f1, f2, f3, f4, f5⟩ := bT.six
  have HBT := Lib.hid bT
  clear bT
  by_cases h1 : x < 0
  · skip
    clear h
    go_enter Tryz.func6, Tryz.ntmps6
    go_wp2
    (try simp only [Exit.inBlock, Exit.then])
    refine bodyPost_ret (Tg.results_row_tmp rfl _ _ w.heap.size 26 #[.int .i64 0, .string ⟨#[]⟩, .slice none 0 0, .string ⟨#[]⟩, .int .i64 0, .int .i64 0] (0, 0) _ rfl ?_ Tryz.underlying26 rfl info29) rfl ?_
    · first | exact HBT.out.blk | exact (HBT.out.set6 _ _ _ _ _ _).blk
    · exact ⟨rfl, by first | exact (Below.refl _ w).alloc (Nat.le_refl _) _ | exact below_set6 ((Below.refl _ w).alloc (Nat.le_refl _) _) (Nat.le_refl _) _ _ _ _ _ _⟩
  · have h2 : (m : Int) ≤ x := by omega
    clear h
    go_enter Tryz.func6, Tryz.ntmps6
    go_wp2
    (try simp only [Exit.inBlock, Exit.then])
    refine bodyPost_ret (Tg.results_row_tmp rfl _ _ w.heap.size 26 #[.int .i64 0, .string ⟨#[]⟩, .slice none 0 0, .string ⟨#[]⟩, .int .i64 0, .int .i64 0] (0, 0) _ rfl ?_ Tryz.underlying26 rfl info29) rfl ?_
    · first | exact HBT.out.blk | exact (HBT.out.set6 _ _ _ _ _ _).blk
    · exact ⟨rfl, by first | exact (Below.refl _ w).alloc (Nat.le_refl _) _ | exact below_set6 ((Below.refl _ w).alloc (Nat.le_refl _) _) (Nat.le_refl _) _ _ _ _ _ _⟩

/-- what Next answers -/
def NxPost (t : Tok) (w : World) (r : Ending) (w' : World) : Prop :=
  ∃ s, r = .returned (.tuple #[tkV t s, .bool true]) ∧ w'.ownsRow w.heap.size 75 2 s t.attrs.length (cellsA t.attrs) ∧ Below w.heap.size w w'

set_option maxHeartbeats 4000000 in
set_option maxRecDepth 100000 in
theorem next_in (n : List UInt8) (i : Nat) (w : World) (hs : Sl l a cap w) (hT : Tb w) (hl : l.length ≤ 100000 - 1) (hln : n.length ≤ 100000) (hi : i < l.length) :
    Calls Tryz.prog 6 #[.slice a l.length cap, .int .i64 (i : Int), .string ⟨n.toArray⟩] w (NxPost (nxT l n i) w) := by
  obtain ⟨W1, hW1⟩ : ∃ W1, w.alloc (.cells zero29 26) = W1 := ⟨_, rfl⟩
  have hbA : Below w.heap.size w W1 := by rw [← hW1]; exact (Below.refl _ w).alloc (Nat.le_refl _) _
  have hz1 : W1.heap.size = w.heap.size + 1 := by rw [← hW1]; simp
  have bT : Bk w.heap.size zero29 26 W1 := by rw [← hW1]; exact bk_new w zero29 26
  have cE := Rw.end_any n i W1 (hs.below hbA) (by omega) (by omega) hln
  have HS := Lib.hid hs
  have HT := Lib.hid hT
  have HBT := Lib.hid bT
  have HB := Lib.hid hbA
  have HZ := Lib.hid hz1
  unfold zero29 at hW1 HBT
  clear bT hbA hs hT hz1
  have h1 : ¬ ((i : Int) < 0) := by omega
  have h2 : ¬ ((l.length : Int) ≤ (i : Int)) := by omega
  by_cases he : Rw.ed n l i ≠ i
  · have HNX := Lib.hid (show nxT l n i = rwT l n i (Rw.ed n l i) by unfold nxT; rw [if_pos he])
    have g1 := ed_ge n l i (by omega)
    have g2 := Rw.ed_le (n := n) (l := l) (i := i) (by omega)
    have g3 := fun h => ed_head he h
    rw [HNX.out]
    clear HNX
    have cX := fun w hs hT => rawText_any (l := l) (a := a) (cap := cap) n i (Rw.ed n l i) w hs hT (by omega) g1 g2 g3 hi
    have cK := fun w => Rw.kind_any n w
    have hV : ∀ s, tkV (rwT l n i (Rw.ed n l i)) s = .agg #[.int .i64 1, .string ⟨#[]⟩, s, .string ⟨(rwT l n i (Rw.ed n l i)).text.toArray⟩, .int .i64 (i : Int), .int .i64 ((Rw.ed n l i : Nat) : Int)] := fun _ => rfl
    have hat : (rwT l n i (Rw.ed n l i)).attrs = [] := rfl
    unfold NxPost
    simp only [hV, hat]
    generalize (rwT l n i (Rw.ed n l i)).text = X at *
    generalize Rw.ed n l i = E at *
    generalize Rw.kdN n = K at *
    have h3 : ¬ ((E : Int) = (i : Int)) := by omega
    have CX := Lib.hid cX
    have CK := Lib.hid cK
    clear cX cK g3 hV hat he
    go_enter Tryz.func6, Tryz.ntmps6
    go_wp2_with fail
    refine cE.mono ?_
    rintro r w2 ⟨rfl, hb2⟩
    have hbw2 := HB.out.trans (hb2.mono HB.out.size)
    have bk2 := HBT.out.below hb2
    have cK2 := CK.out w2
    have cX2 := CX.out w2 (HS.out.below hbw2) (HT.out.below hbw2)
    have HB2 := Lib.hid hbw2
    have HK2 := Lib.hid bk2
    clear hb2 hbw2 bk2
    go_wp2_with fail
    refine cK2.mono ?_
    rintro r w3 ⟨rfl, rfl⟩
    go_wp2_with fail
    refine cX2.mono ?_
    rintro r w4 ⟨rfl, hb4⟩
    obtain ⟨k0, k1, k2, k3, k4, k5, f0, f1, f2, f3, f4, f5⟩ := (HK2.out.below hb4).six
    have HB4 := Lib.hid hb4
    clear hb4
    go_wp2
    (try simp only [Exit.inBlock, Exit.then])
    refine bodyPost_ret (Tg.results_row_tmp rfl _ _ w.heap.size 26 #[.int .i64 1, .string ⟨#[]⟩, .slice none 0 0, .string ⟨X.toArray⟩, .int .i64 (i : Int), .int .i64 (E : Int)] (0, 0) _ rfl ?_ Tryz.underlying26 rfl info29) rfl ?_
    · exact ((HK2.out.below HB4.out).set6 _ _ _ _ _ _).blk
    · exact ⟨.slice none 0 0, rfl, World.ownsRow_nil _ _ _ _, below_set6 (HB2.out.trans (HB4.out.mono HB2.out.size)) (Nat.le_refl _) _ _ _ _ _ _⟩
  · have HNX := Lib.hid (show nxT l n i = tdT l i by unfold nxT; rw [if_neg he])
    have he' : Rw.ed n l i = i := by simpa using he
    rw [he'] at cE
    rw [HNX.out]
    clear HNX he he'
    have cT := fun w hs hT => tagged_any (l := l) (a := a) (cap := cap) i w hs hT hl hi
    unfold TkPost tkV at cT
    unfold NxPost tkV
    generalize (tdT l i).kind = tk at *
    generalize (tdT l i).name = tnm at *
    generalize (tdT l i).text = ttx at *
    generalize (tdT l i).frm = tfr at *
    generalize (tdT l i).upto = tup at *
    generalize (tdT l i).attrs = tat at *
    have CT := Lib.hid cT
    clear cT
    go_enter Tryz.func6, Tryz.ntmps6
    go_wp2_with fail
    refine cE.mono ?_
    rintro r w2 ⟨rfl, hb2⟩
    have hbw2 := HB.out.trans (hb2.mono HB.out.size)
    have bk2 := HBT.out.below hb2
    have cT2 := CT.out w2 (HS.out.below hbw2) (HT.out.below hbw2)
    have HZ2 := Lib.hid hb2.size
    have HB2 := Lib.hid hbw2
    have HK2 := Lib.hid bk2
    clear hb2 hbw2 bk2
    go_wp2_with fail
    refine cT2.mono ?_
    rintro r w3 ⟨s, rfl, ho3, hb3⟩
    obtain ⟨a5, cap5, rfl, -⟩ := At.sl_own ho3
    obtain ⟨k0, k1, k2, k3, k4, k5, f0, f1, f2, f3, f4, f5⟩ := (HK2.out.below hb3).six
    have HB3 := Lib.hid hb3
    have HO3 := Lib.hid ho3
    clear hb3 ho3
    go_wp2
    (try simp only [Exit.inBlock, Exit.then])
    refine bodyPost_ret (Tg.results_row_tmp rfl _ _ w.heap.size 26 #[.int .i64 (tk : Int), .string ⟨tnm.toArray⟩, .slice a5 tat.length cap5, .string ⟨ttx.toArray⟩, .int .i64 (tfr : Int), .int .i64 (tup : Int)] (0, 0) _ rfl ?_ Tryz.underlying26 rfl info29) rfl ?_
    · exact ((HK2.out.below HB3.out).set6 _ _ _ _ _ _).blk
    · refine ⟨_, rfl, ?_, ?_⟩
      · exact own_set6 (At.ownsRow_base HO3.out (by have := HZ.out; have := HZ2.out; omega)) (own_apart HO3.out (by have := HZ.out; have := HZ2.out; omega)) _ _ _ _ _ _
      · exact below_set6 (HB2.out.trans (HB3.out.mono HB2.out.size)) (Nat.le_refl _) _ _ _ _ _ _

set_option maxHeartbeats 1000000 in
set_option maxRecDepth 100000 in
theorem within_any (n : List UInt8) (t : Tok) (s : Value) (hs : ∃ a k c, s = .slice a k c) (w : World) :
    Calls Tryz.prog 25 #[.string ⟨n.toArray⟩, tkV t s] w fun r w' => r = .returned (.string ⟨(wi n t).toArray⟩) ∧ Below w.heap.size w w' := by
  obtain ⟨a5, k5, c5, rfl⟩ := hs
  unfold tkV wi
  generalize t.kind = tk
  generalize t.name = tnm
  generalize t.text = ttx
  generalize t.frm = tfr
  generalize t.upto = tup
  by_cases h2 : tk = 2
  · subst h2
    rw [if_pos rfl]
    go_enter Tryz.func25, Tryz.ntmps25
    go_wp2
    go_ret
    exact ⟨rfl, (Below.refl _ w).alloc (Nat.le_refl _) _⟩
  · rw [if_neg h2]
    by_cases h3 : tk = 3
    · subst h3
      rw [if_pos rfl]
      go_enter Tryz.func25, Tryz.ntmps25
      go_wp2
      go_ret
      exact ⟨rfl, (Below.refl _ w).alloc (Nat.le_refl _) _⟩
    · rw [if_neg h3]
      have g2 : ¬ ((tk : Int) = 2) := by omega
      have g3 : ¬ ((tk : Int) = 3) := by omega
      go_enter Tryz.func25, Tryz.ntmps25
      go_wp2
      go_ret
      exact ⟨rfl, (Below.refl _ w).alloc (Nat.le_refl _) _⟩
end Go.Proofs.YtndcmapifihgeaaGreatDoor.Tk
