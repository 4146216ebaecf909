/- The reader's text, value and attr, walked. -/
import Derived.Test.YtndcmapifihgeaaDoorTgNm
namespace Go.Proofs.YtndcmapifihgeaaDoor.Tg
open Go.RowKit Go.Lib
open Ch (at0 nx nx_width nx_range at0_lt at0_drop enc_len Sl Sl.below Cells ret_str good nx_good)
open Kl (blankN greatN blankZ blank_any)

variable {l : List UInt8} {a : Option Addr} {cap R i : Nat} {W w w' : World}

set_option maxHeartbeats 2000000 in
set_option maxRecDepth 100000 in
theorem text_on (fn : Nat) (caps : Array Value) (p : Nat → Bool) (I : World → Prop) (hen : ∀ (args : Array Value) (w : World), (callFunc fn args).run Tryd.prog w = .ok (.enter fn args) w)
    (h : On l a cap R i W w) (hI : I w) (hst : ∀ w1 w2, I w1 → Kp R w1 w2 → I w2)
    (hmay : ∀ (c : Nat) w1, I w1 → Calls Tryd.prog fn (#[.int .i32 (c : Int)] ++ caps) w1 fun e w2 => e = .returned (.bool (p c)) ∧ Below w1.heap.size w1 w2) :
    Calls Tryd.prog 89 #[.pointer (some ⟨R, 0, none⟩), .func (.func fn) #[] caps] w fun e w' => e = .returned (.string ⟨(txt true ((l.drop i).take (ov p (l.drop i)))).toArray⟩) ∧ On l a cap R (i + ov p (l.drop i)) W w' ∧ Kp R w w' := by
  have c1 := h.c1
  have hle := drop_len_ov p l i h.ile
  have hlen := h.len
  have cP := pass_on fn caps p I hen h hI hst hmay
  obtain ⟨Y, hY⟩ : ∃ Y, i + ov p (l.drop i) = Y := ⟨_, rfl⟩
  have cX := fun (w : World) (hs : Sl l a cap w) (hT : Tb w) => text_any l a cap i (ov p (l.drop i)) (i : Int) (Y : Int) true w hs rfl (by omega) hle hT hlen
  rw [hY] at cP ⊢
  have HX := Lib.hid cX
  clear hI hst hmay cX hle hY
  go_enter Tryd.func89, Tryd.ntmps89
  go_wp2_with fail
  refine cP.mono ?_
  rintro e w1 ⟨rfl, h1, hk1⟩
  have d0 := h1.c0
  have d1 := h1.c1
  have HK1 := Lib.hid hk1
  clear hk1 cP h
  go_wp2_with fail
  go_region_held3 (fun w' => w'.cell? ⟨R, 0, none⟩ = some (.slice a l.length cap) ∧ w'.cell? ⟨R, 1, none⟩ = some (.int .i64 (Y : Int))) (first | exact ⟨d0, d1⟩ | exact ⟨(h1.below (by assumption)).c0, (h1.below (by assumption)).c1⟩)
    (first
      | (go_at_call 35; refine (HX.out w1.drew ?_ ?_).mono ?_; (exact h1.drew.sl'); (exact h1.drew.tb'); rintro e w' ⟨rfl, g1⟩; have g1 := below_of_drew g1))
  go_wp2
  go_ret
  exact ⟨rfl, h1.below g1, HK1.out.trans (Kp.of_below g1)⟩

set_option maxHeartbeats 1000000 in
theorem bare_any (c : Nat) (w : World) : Calls Tryd.prog 90 #[.int .i32 (c : Int)] w fun e w' => e = .returned (.bool (pBare c)) ∧ Below w.heap.size w w' := by
  have cB := blank_any (c : Int) w
  rw [Kl.blankZ_nat] at cB
  unfold pBare
  cases hb : blankN c with
  | true =>
    rw [hb] at cB
    go_enter Tryd.func90, Tryd.ntmps90
    go_wp2_with fail
    refine cB.mono ?_
    rintro e w1 ⟨rfl, rfl⟩
    go_wp2
    go_ret
    exact ⟨rfl, Below.refl _ _⟩
  | false =>
    rw [hb] at cB
    cases h6 : ((c : Int) != 62) with
    | true =>
      have e : (c == 62) = false := by simp at h6 ⊢; omega
      rw [e]
      go_enter Tryd.func90, Tryd.ntmps90
      go_wp2_with fail
      refine cB.mono ?_
      rintro e w1 ⟨rfl, rfl⟩
      go_wp2
      go_ret
      exact ⟨rfl, Below.refl _ _⟩
    | false =>
      have e : (c == 62) = true := by simp at h6 ⊢; omega
      rw [e]
      go_enter Tryd.func90, Tryd.ntmps90
      go_wp2_with fail
      refine cB.mono ?_
      rintro e w1 ⟨rfl, rfl⟩
      go_wp2
      go_ret
      exact ⟨rfl, Below.refl _ _⟩

set_option maxHeartbeats 1000000 in
theorem gap_any (c : Nat) (w : World) : Calls Tryd.prog 70 #[.int .i32 (c : Int)] w fun e w' => e = .returned (.bool (pGap c)) ∧ Below w.heap.size w w' := by
  have cB := blank_any (c : Int) w
  rw [Kl.blankZ_nat] at cB
  unfold pGap
  cases hb : blankN c with
  | true =>
    rw [hb] at cB
    go_enter Tryd.func70, Tryd.ntmps70
    go_wp2_with fail
    refine cB.mono ?_
    rintro e w1 ⟨rfl, rfl⟩
    go_wp2
    go_ret
    exact ⟨rfl, Below.refl _ _⟩
  | false =>
    rw [hb] at cB
    have e : (c == 47) = ((c : Int) == 47) := by rw [Bool.eq_iff_iff]; simp; omega
    rw [e]
    go_enter Tryd.func70, Tryd.ntmps70
    go_wp2_with fail
    refine cB.mono ?_
    rintro e w1 ⟨rfl, rfl⟩
    go_wp2
    go_ret
    exact ⟨rfl, Below.refl _ _⟩

theorem blank_on (c : Nat) (w : World) : Calls Tryd.prog 59 #[.int .i32 (c : Int)] w fun e w' => e = .returned (.bool (blankN c)) ∧ Below w.heap.size w w' := by
  have cB := blank_any (c : Int) w
  rw [Kl.blankZ_nat] at cB
  refine cB.mono ?_
  rintro e w1 ⟨rfl, rfl⟩
  exact ⟨rfl, Below.refl _ _⟩

set_option maxHeartbeats 1000000 in
theorem quote_any (c q g : Nat) (w : World) (hg : w.cell? ⟨g, 0, none⟩ = some (.int .i32 (q : Int))) : Calls Tryd.prog 91 #[.int .i32 (c : Int), .pointer (some ⟨g, 0, none⟩)] w fun e w' => e = .returned (.bool (pQ q c)) ∧ Below w.heap.size w w' := by
  have e : pQ q c = ((c : Int) != (q : Int)) := by
    unfold pQ
    rw [Bool.eq_iff_iff]; simp; omega
  rw [e]
  clear e
  go_enter Tryd.func91, Tryd.ntmps91
  go_wp2
  go_ret
  exact ⟨rfl, Below.refl _ _⟩

theorem en77 (args : Array Value) (w : World) : (callFunc 90 args).run Tryd.prog w = .ok (.enter 90 args) w := Go.Proofs.enters_of Tryd.func90 (by kernel_rfl) rfl args w
theorem en78 (args : Array Value) (w : World) : (callFunc 91 args).run Tryd.prog w = .ok (.enter 91 args) w := Go.Proofs.enters_of Tryd.func91 (by kernel_rfl) rfl args w
theorem en55 (args : Array Value) (w : World) : (callFunc 70 args).run Tryd.prog w = .ok (.enter 70 args) w := Go.Proofs.enters_of Tryd.func70 (by kernel_rfl) rfl args w
theorem en14 (args : Array Value) (w : World) : (callFunc 59 args).run Tryd.prog w = .ok (.enter 59 args) w := Go.Proofs.enters_of Tryd.func59 (by kernel_rfl) rfl args w

theorem On.alloc (h : On l a cap R i W w) (o : Obj) : On l a cap R i W (w.alloc o) := h.below ((Below.refl _ w).alloc (Nat.le_refl _) _)

theorem vl_bare {m : List UInt8} (h : ¬ (hd m = 34 ∨ hd m = 39)) : vl m = (txt true (m.take (ov pBare m)), ov pBare m) := if_neg h
theorem vl_quote {m : List UInt8} (h : hd m = 34 ∨ hd m = 39) : vl m = (txt true ((m.drop 1).take (ov (pQ (hd m)) (m.drop 1))), 1 + ov (pQ (hd m)) (m.drop 1) + wd (m.drop (1 + ov (pQ (hd m)) (m.drop 1)))) := if_pos h

set_option maxHeartbeats 4000000 in
set_option maxRecDepth 100000 in
theorem value_on (h : On l a cap R i W w) :
    Calls Tryd.prog 80 #[.pointer (some ⟨R, 0, none⟩)] w fun e w' => e = .returned (.string ⟨(vl (l.drop i)).1.toArray⟩) ∧ On l a cap R (i + (vl (l.drop i)).2) W w' ∧ Kp R w w' := by
  have cP := peek_on h
  have H := Lib.hid h
  have hbd := hd_bd (l.drop i)
  by_cases hq : hd (l.drop i) = 34 ∨ hd (l.drop i) = 39
  · have hw1 : wd (l.drop i) = 1 := by
      have hne := hd_pos (m := l.drop i) (by omega)
      rcases hq with k | k
      · rw [wd_ne hne, (hd_is (c := 34) (by decide) (by decide) (by decide) k).2.1]
      · rw [wd_ne hne, (hd_is (c := 39) (by decide) (by decide) (by decide) k).2.1]
    rw [vl_quote hq]
    have hdd : ∀ k, (l.drop i).drop k = l.drop (i + k) := fun k => List.drop_drop
    rw [hdd, hdd]
    obtain ⟨C, hC⟩ : ∃ C, hd (l.drop i) = C := ⟨_, rfl⟩
    rw [hC] at cP hq hbd ⊢
    obtain ⟨n, hn⟩ : ∃ n, ov (pQ C) (l.drop (i + 1)) = n := ⟨_, rfl⟩
    obtain ⟨S, hS⟩ : ∃ S, txt true ((l.drop (i + 1)).take n) = S := ⟨_, rfl⟩
    obtain ⟨D, hD⟩ : ∃ D, wd (l.drop (i + (1 + n))) = D := ⟨_, rfl⟩
    rw [hn, hS, hD]
    have HN := Lib.hid hn
    have HS := Lib.hid hS
    have HD := Lib.hid hD
    have HW := Lib.hid hw1
    clear h hw1 hC hn hS hD hdd
    have go : ∀ (w1 : World), On l a cap R i W w1 → Kp R w w1 → ∀ g, g = w1.heap.size → Calls Tryd.prog 66 #[.pointer (some ⟨R, 0, none⟩)] (w1.alloc (.cells #[.int .i32 (C : Int)] 21)) fun e w' => e = .returned (.int .i32 ((hd (l.drop i) : Nat) : Int)) ∧ On l a cap R (i + 1) W w' ∧ Kp R w w' ∧ w'.cell? ⟨g, 0, none⟩ = some (.int .i32 (C : Int)) ∧ R < g := by
      rintro w1 h1 hk1 g rfl
      have hA := h1.alloc (.cells #[.int .i32 (C : Int)] 21)
      refine (take_on hA).mono ?_
      rintro e w2 ⟨rfl, h2, hk2⟩
      rw [HW.out] at h2
      refine ⟨rfl, h2, (hk1.trans (Kp.alloc _)).trans hk2, ?_, h1.lt⟩
      have : w2.heap[w1.heap.size]? = some (.cells #[.int .i32 (C : Int)] 21 (0, 0)) := by
        rw [hk2.block w1.heap.size (by simp) (by have := h1.lt; simp; omega)]
        exact heap_alloc_new w1 _
      rw [Lib.cell_of_heap this]
      rfl
    have HG := Lib.hid go
    clear go
    rcases hq with rfl | rfl
    all_goals
      go_enter Tryd.func80, Tryd.ntmps80
      go_wp2_with fail
      refine cP.mono ?_
      rintro e w1 ⟨rfl, hb1⟩
      have cT := HG.out w1 (H.out.below hb1) (Kp.of_below hb1) _ rfl
      clear cP hb1
      go_wp2_with fail
      refine cT.mono ?_
      rintro e w2 ⟨rfl, h2, hk2, hg2, hRg⟩
      have cX := text_on 91 #[.pointer (some ⟨w1.heap.size, 0, none⟩)] _ (fun w => w.cell? ⟨w1.heap.size, 0, none⟩ = some (.int .i32 _)) en78 h2 hg2 (fun wa wb ha hab => by
        have hlt := World.block_lt_of_cell? wa _ ha
        exact (World.cell?_of_block (hab.block _ hlt (by simp; omega))).trans ha) (fun c wa ha => quote_any c _ _ wa ha)
      rw [HN.out, HS.out] at cX
      have HK2 := Lib.hid hk2
      clear cT hk2 h2
      go_wp2_with fail
      refine cX.mono ?_
      rintro e w3 ⟨rfl, h3, hk3⟩
      have cT := take_on h3
      have HK3 := Lib.hid (HK2.out.trans hk3)
      clear cX hk3 h3
      go_wp2_with fail
      refine cT.mono ?_
      rintro e w4 ⟨rfl, h4, hk4⟩
      have HK4 := Lib.hid (HK3.out.trans hk4)
      rw [show i + 1 + n = i + (1 + n) by omega, HD.out, show i + (1 + n) + D = i + (1 + n + D) by omega] at h4
      have H4 := Lib.hid h4
      clear hk4 cT h4
      go_wp2
      go_ret
      exact ⟨rfl, H4.out, HK4.out⟩
  · have t1 : (((hd (l.drop i) : Nat) : Int) != 34) = true := by simp; omega
    have t2 : (((hd (l.drop i) : Nat) : Int) != 39) = true := by simp; omega
    rw [vl_bare hq]
    clear h
    generalize hd (l.drop i) = C at cP t1 t2
    clear hq
    go_enter Tryd.func80, Tryd.ntmps80
    go_wp2_with fail
    refine cP.mono ?_
    rintro e w1 ⟨rfl, hb1⟩
    have h1 := H.out.below hb1
    have cX := text_on 90 #[] pBare (fun _ => True) en77 (h1.alloc (.cells #[.int .i32 (C : Int)] 21)) trivial (fun _ _ _ _ => trivial) (fun c wa _ => bare_any c wa)
    have HK1 := Lib.hid ((Kp.of_below (R := R) hb1).trans (Kp.alloc (.cells #[.int .i32 (C : Int)] 21)))
    clear cP hb1 h1
    go_wp2_with fail
    refine cX.mono ?_
    rintro e w2 ⟨rfl, h2, hk2⟩
    have H2 := Lib.hid h2
    have HK2 := Lib.hid (HK1.out.trans hk2)
    clear cX h2 hk2
    go_wp2
    go_ret
    exact ⟨rfl, H2.out, HK2.out⟩
end Go.Proofs.YtndcmapifihgeaaDoor.Tg
