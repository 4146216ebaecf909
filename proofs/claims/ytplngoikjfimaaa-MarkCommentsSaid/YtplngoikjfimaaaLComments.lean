/- The law MarkComments, walked. -/
import Derived.Test.YtplngoikjfimaaaAp
namespace Go.Proofs.Ytplngoikjfimaaa
open Go.RowKit Go.Lib

set_option maxHeartbeats 1000000 in
set_option maxRecDepth 100000 in
theorem markComments_long (n : Nat) (a : Option Addr) (cap : Nat) (bang : Bool) (w : World) (h : 200 < n) :
    Calls Try.prog 4 #[.slice a n cap, .bool bang] w fun e w' => e = .returned (.bool true) ∧ Below w.heap.size w w' := by
  have h1 : (200 : Int) < (n : Int) := by omega
  go_enter Try.func4, Try.ntmps4
  go_wp2_with fail
  refine (speaks_any w).mono ?_
  rintro e w1 ⟨rfl, hb1⟩
  go_wp2_with fail
  refine (speaks_any w1).mono ?_
  rintro e w2 ⟨rfl, hb2⟩
  go_wp2
  go_ret
  exact ⟨rfl, hb1.trans (hb2.mono hb1.size)⟩

theorem read_comment (f : List UInt8) (hf : ∀ b ∈ f, keep b = true) (bang : Bool) : rdAns ([60, 33, 45, 45] ++ f ++ endOf bang ++ [120, 45, 45, 62]) 0 = .tuple #[.int .i64 1, .int .i64 ((([60, 33, 45, 45] ++ f ++ endOf bang).length : Nat) : Int), .bool true] := by
  have h := comment_is f hf bang
  unfold rdAns
  rw [List.drop_zero, h.1, h.2, Nat.zero_add]
  rfl

/-- where the loop stands -/
def CoRel (l : List UInt8) (w : World) (v5 v24 : Value) (wr : World) : Prop :=
  ∃ k : Nat, v24 = .int .i64 (k : Int) ∧ k ≤ l.length ∧ Mine ([60, 33, 45, 45] ++ (l.take k).filter keep) w.heap.size v5 wr ∧ Below w.heap.size w wr

theorem keep_step {l : List UInt8} {k : Nat} (h : k < l.length) : (l.take (k + 1)).filter keep = (l.take k).filter keep ++ if at0 l k ≠ 62 ∧ at0 l k ≠ 45 then [l[k]] else [] := by
  rw [take_snoc h, List.filter_append]
  congr 1
  have e : keep l[k] = decide (at0 l k ≠ 62 ∧ at0 l k ≠ 45) := by
    rw [getD_at0 h, Bool.eq_iff_iff]
    simp only [keep, Bool.and_eq_true, bne_iff_ne, decide_eq_true_eq]
    have e1 : ∀ c : UInt8, l[k] ≠ c ↔ l[k].toNat ≠ c.toNat := fun c => ⟨fun h e => h (UInt8.toNat_inj.1 e), fun h e => h (by rw [e])⟩
    rw [e1, e1]
    exact Iff.rfl
  by_cases hk : at0 l k ≠ 62 ∧ at0 l k ≠ 45
  · rw [if_pos hk, List.filter_cons_of_pos (by rw [e]; exact decide_eq_true hk)]; rfl
  · rw [if_neg hk, List.filter_cons_of_neg (by rw [e]; simpa using hk)]; rfl

set_option maxHeartbeats 4000000 in
set_option maxRecDepth 100000 in
theorem markComments_walk (l : List UInt8) (a : Option Addr) (cap : Nat) (bang : Bool) (w : World) (hs : Sl l a cap w) (h : l.length ≤ 200) :
    Calls Try.prog 4 #[.slice a l.length cap, .bool bang] w fun e w' => e = .returned (.bool true) ∧ Below w.heap.size w w' := by
  have h1 : ¬ ((200 : Int) < (l.length : Int)) := by omega
  have HS := Lib.hid hs
  clear hs
  go_enter Try.func4, Try.ntmps4
  go_wp2_with fail
  refine (speaks_any w).mono ?_
  rintro e w1 ⟨rfl, hb1⟩
  have hz1 := hb1.size
  obtain ⟨hA, hbA, hzA, kA⟩ := sl_const [60, 33, 45, 45] w1 #[.int .u8 60, .int .u8 33, .int .u8 45, .int .u8 45] 4 (by rfl) rfl
  obtain ⟨W1, hW1⟩ : ∃ W, w1.alloc (.cells #[.int .u8 60, .int .u8 33, .int .u8 45, .int .u8 45] 5 (4, 4 + 1)) = W := ⟨_, rfl⟩
  rw [hW1] at hA hbA hzA kA
  clear hW1
  have HB01 := Lib.hid (hb1.trans (hbA.mono hz1))
  have HMA := Lib.hid (show Mine [60, 33, 45, 45] w.heap.size (.slice (some ⟨w1.heap.size, 0, none⟩) 4 4) W1 from Or.inr ⟨w1.heap.size, rfl, hA, hz1⟩)
  clear hA hbA hb1
  go_wp2
  go_loopw [5, 24] (fun v5 v24 wr => CoRel l w v5 v24 wr) (fun _ v24 _ => l.length - (RowKit.intOf v24).toNat)
  case atStart => exact ⟨0, rfl, by omega, HMA.out, HB01.out⟩
  case round =>
    obtain ⟨k, rfl, hk, hMw, hbw⟩ := hrel
    have hsz := hbw.size
    clear HMA HB01
    by_cases hlt : k < l.length
    · have hlt' : (k : Int) < (l.length : Int) := by omega
      obtain ⟨hcp, hz | ⟨b, off, rfl, hc⟩⟩ := HS.out
      · rw [hz] at hlt; simp at hlt
      have hcell := (hc.below hbw) k hlt
      have HKS := Lib.hid (keep_step hlt)
      have hbd := at0_lt l k
      have HL1 := Lib.hid (getD_at0 hlt)
      obtain ⟨c, hcc⟩ : ∃ c, at0 l k = c := ⟨_, rfl⟩
      rw [hcc] at hcell HKS hbd HL1
      clear hc hcc
      by_cases h62 : c = 62
      · have t1 : ((c : Int) != 62) = false := by rw [h62]; rfl
        have HM2 := Lib.hid (show Mine ([60, 33, 45, 45] ++ (l.take (k + 1)).filter keep) w.heap.size _ wr by rw [HKS.out, if_neg (fun x => x.1 h62), List.append_nil]; exact hMw)
        clear hMw h62
        go_wp2
        go_roundw
        case rel => exact ⟨k + 1, by go_num, by omega, HM2.out, hbw⟩
        case measure => simp [RowKit.intOf]; omega
      · have t1 : ((c : Int) != 62) = true := by simp; omega
        by_cases h45 : c = 45
        · have t2 : ((c : Int) != 45) = false := by rw [h45]; rfl
          have HM2 := Lib.hid (show Mine ([60, 33, 45, 45] ++ (l.take (k + 1)).filter keep) w.heap.size _ wr by rw [HKS.out, if_neg (fun x => x.2 h45), List.append_nil]; exact hMw)
          clear hMw h45
          go_wp2
          go_roundw
          case rel => exact ⟨k + 1, by go_num, by omega, HM2.out, hbw⟩
          case measure => simp [RowKit.intOf]; omega
        · have t2 : ((c : Int) != 45) = true := by simp; omega
          have hbN : Below wr.heap.size wr (wr.alloc (.cells #[.int .u8 (c : Int)] 5)) := (Below.refl _ wr).alloc (Nat.le_refl _) _
          have hcN : Cells [l[k]] wr.heap.size 0 (wr.alloc (.cells #[.int .u8 (c : Int)] 5)) := by
            intro j hj
            simp only [List.length_cons, List.length_nil] at hj
            obtain rfl : j = 0 := by omega
            have e : at0 [l[k]] 0 = c := HL1.out.symm
            rw [e]
            exact row_cell' wr 5 0 _ _ _ rfl
          obtain ⟨v2, w2, hr, hM2, hb2⟩ := (hMw.below hbN).slice (hbw.trans (hbN.mono hsz)) wr.heap.size 0 1 (by simp) hcN (by have := List.length_filter_le keep (l.take k); have := List.length_take_le k l; simp only [List.length_append, List.length_cons, List.length_nil]; omega)
          have HR := Lib.hid hr
          have HM2 := Lib.hid (show Mine ([60, 33, 45, 45] ++ (l.take (k + 1)).filter keep) w.heap.size v2 w2 by rw [HKS.out, if_pos ⟨h62, h45⟩, ← List.append_assoc]; exact hM2)
          have HB2 := Lib.hid hb2
          clear hMw hM2 hr hcN hbN hb2 h62 h45
          go_wp2_with (at_builtin; refine Lib.wpList_append_run _ rfl (.tmp 34) (.tmp 36) 22 22 rfl _ _ rfl rfl v2 w2 HR.out ?_)
          go_wp2
          go_roundw
          case rel => exact ⟨k + 1, by go_num, by omega, HM2.out, HB2.out⟩
          case measure => simp [RowKit.intOf]; omega
    · have hlt' : ¬ ((k : Int) < (l.length : Int)) := by omega
      rw [List.take_of_length_le (by omega)] at hMw
      cases bang with
      | false =>
        obtain ⟨v8, w8, hr8, hM8, hb8⟩ := hMw.str hbw [45, 45, 62] (by decide) (by have := List.length_filter_le keep l; simp only [List.length_append, List.length_cons, List.length_nil]; omega)
        obtain ⟨v9, w9, hr9, hM9, hb9⟩ := hM8.str hb8 [120, 45, 45, 62] (by decide) (by have := List.length_filter_le keep l; simp only [List.length_append, List.length_cons, List.length_nil]; omega)
        have hans := read_comment (l.filter keep) (fun b hb => (List.mem_filter.1 hb).2) false
        have hlen9 : ([60, 33, 45, 45] ++ l.filter keep ++ [45, 45, 62] ++ [120, 45, 45, 62]).length ≤ 1000000 ∧ 0 < ([60, 33, 45, 45] ++ l.filter keep ++ [45, 45, 62] ++ [120, 45, 45, 62]).length := by
          have := List.length_filter_le keep l
          simp only [List.length_append, List.length_cons, List.length_nil]
          omega
        have hlen8 : ([60, 33, 45, 45] ++ l.filter keep ++ [45, 45, 62]).length ≤ 1000000 := by
          have := hlen9.1
          simp only [List.length_append, List.length_cons, List.length_nil] at this ⊢
          omega
        obtain ⟨a8, cap8, rfl, -⟩ := hM8.sl
        obtain ⟨a9, cap9, rfl, hs9⟩ := hM9.sl
        have cR := read_any 0 w9 hs9 hlen9.2 hlen9.1
        have hz9 := hb9.size
        change rdAns ([60, 33, 45, 45] ++ l.filter keep ++ [45, 45, 62] ++ [120, 45, 45, 62]) 0 = .tuple #[.int .i64 1, .int .i64 ((([60, 33, 45, 45] ++ l.filter keep ++ [45, 45, 62]).length : Nat) : Int), .bool true] at hans
        rw [hans] at cR
        generalize ([60, 33, 45, 45] ++ l.filter keep ++ [45, 45, 62] ++ [120, 45, 45, 62]).length = n9 at *
        generalize ([60, 33, 45, 45] ++ l.filter keep ++ [45, 45, 62]).length = n8 at *
        have HR8 := Lib.hid hr8
        have HR9 := Lib.hid hr9
        have HB9 := Lib.hid hb9
        clear hr8 hr9 hM8 hM9 hb8 hb9 hs9 hans hMw hbw
        go_wp2_with (at_builtin; first | refine Lib.wpList_append_run _ rfl (.tmp 40) (.tmp 41) 22 9 rfl _ _ rfl rfl _ w8 HR8.out ?_ | refine Lib.wpList_append_run _ rfl (.tmp 44) (.const (.string ⟨#[120, 45, 45, 62]⟩)) 22 9 rfl _ _ rfl rfl _ w9 HR9.out ?_)
        refine cR.mono ?_
        rintro e w3 ⟨rfl, hb3⟩
        go_wp2
        go_ret
        exact ⟨ret_bool (by simp), HB9.out.trans (hb3.mono hz9)⟩
      | true =>
        obtain ⟨v8, w8, hr8, hM8, hb8⟩ := hMw.str hbw [45, 45, 33, 62] (by decide) (by have := List.length_filter_le keep l; simp only [List.length_append, List.length_cons, List.length_nil]; omega)
        obtain ⟨v9, w9, hr9, hM9, hb9⟩ := hM8.str hb8 [120, 45, 45, 62] (by decide) (by have := List.length_filter_le keep l; simp only [List.length_append, List.length_cons, List.length_nil]; omega)
        have hans := read_comment (l.filter keep) (fun b hb => (List.mem_filter.1 hb).2) true
        have hlen9 : ([60, 33, 45, 45] ++ l.filter keep ++ [45, 45, 33, 62] ++ [120, 45, 45, 62]).length ≤ 1000000 ∧ 0 < ([60, 33, 45, 45] ++ l.filter keep ++ [45, 45, 33, 62] ++ [120, 45, 45, 62]).length := by
          have := List.length_filter_le keep l
          simp only [List.length_append, List.length_cons, List.length_nil]
          omega
        have hlen8 : ([60, 33, 45, 45] ++ l.filter keep ++ [45, 45, 33, 62]).length ≤ 1000000 := by
          have := hlen9.1
          simp only [List.length_append, List.length_cons, List.length_nil] at this ⊢
          omega
        obtain ⟨a8, cap8, rfl, -⟩ := hM8.sl
        obtain ⟨a9, cap9, rfl, hs9⟩ := hM9.sl
        have cR := read_any 0 w9 hs9 hlen9.2 hlen9.1
        have hz9 := hb9.size
        change rdAns ([60, 33, 45, 45] ++ l.filter keep ++ [45, 45, 33, 62] ++ [120, 45, 45, 62]) 0 = .tuple #[.int .i64 1, .int .i64 ((([60, 33, 45, 45] ++ l.filter keep ++ [45, 45, 33, 62]).length : Nat) : Int), .bool true] at hans
        rw [hans] at cR
        generalize ([60, 33, 45, 45] ++ l.filter keep ++ [45, 45, 33, 62] ++ [120, 45, 45, 62]).length = n9 at *
        generalize ([60, 33, 45, 45] ++ l.filter keep ++ [45, 45, 33, 62]).length = n8 at *
        have HR8 := Lib.hid hr8
        have HR9 := Lib.hid hr9
        have HB9 := Lib.hid hb9
        clear hr8 hr9 hM8 hM9 hb8 hb9 hs9 hans hMw hbw
        go_wp2_with (at_builtin; first | refine Lib.wpList_append_run _ rfl (.tmp 40) (.tmp 41) 22 9 rfl _ _ rfl rfl _ w8 HR8.out ?_ | refine Lib.wpList_append_run _ rfl (.tmp 44) (.const (.string ⟨#[120, 45, 45, 62]⟩)) 22 9 rfl _ _ rfl rfl _ w9 HR9.out ?_)
        refine cR.mono ?_
        rintro e w3 ⟨rfl, hb3⟩
        go_wp2
        go_ret
        exact ⟨ret_bool (by simp), HB9.out.trans (hb3.mono hz9)⟩
end Go.Proofs.Ytplngoikjfimaaa
