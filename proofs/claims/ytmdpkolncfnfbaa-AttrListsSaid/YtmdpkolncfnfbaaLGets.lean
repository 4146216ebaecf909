/- The law AttrGets, walked. -/
import Derived.Test.YtmdpkolncfnfbaaSpk
namespace Go.Proofs.Ytmdpkolncfnfbaa
open Go.RowKit Go.Lib

theorem get_hit {a : At} {r : List At} {n : Str} (h : a.1 = n) : get (a :: r) n = some a.2 := if_pos h
theorem get_miss {a : At} {r : List At} {n : Str} (h : a.1 ≠ n) : get (a :: r) n = get r n := if_neg h
theorem get_append : ∀ (L M : List At) (n : Str), get (L ++ M) n = (match get L n with | some v => some v | none => get M n)
  | [], _, _ => rfl
  | a :: r, M, n => by
    rw [List.cons_append]
    by_cases h : a.1 = n
    · rw [get_hit h, get_hit h]
    · rw [get_miss h, get_miss h]; exact get_append r M n
theorem get_add_some {L : List At} {x : At} {u : Str} (h : get L x.1 = some u) : get (add L x) x.1 = some u := by rw [add_some h, h]
theorem get_add_none {L : List At} {x : At} (h : get L x.1 = none) : get (add L x) x.1 = some x.2 := by
  rw [add_none h, get_append, h]
  show get [x] x.1 = _
  unfold get
  rw [if_pos rfl]
theorem get_add_other {L : List At} {x : At} {n : Str} (h : x.1 ≠ n) : get (add L x) n = get L n := by
  cases hg : get L x.1 with
  | some u => rw [add_some hg]
  | none =>
    rw [add_none hg, get_append]
    cases get L n with
    | some v => rfl
    | none =>
      show get [x] n = none
      unfold get
      rw [if_neg h]
      rfl

/-- what the boxed attribute holds, in a later world -/
theorem box_at {w w2 : World} {x y : Value} {t : TypeId} (hb : Below (w.alloc (.cells #[x, y] t)).heap.size (w.alloc (.cells #[x, y] t)) w2) :
    w2.cell? ⟨w.heap.size, 0, none⟩ = some x ∧ w2.cell? ⟨w.heap.size, 1, none⟩ = some y := two_kept hb

theorem below_trans {w w1 w2 : World} (h : Below w.heap.size w w1) (h2 : Below w1.heap.size w1 w2) : Below w.heap.size w w2 := h.trans (h2.mono h.size)

set_option maxHeartbeats 1000000 in
set_option maxRecDepth 100000 in
theorem attrGets_long (N : Nat) (a : Option Addr) (cap : Nat) (x1 x2 : Str) (n : Str) (w : World) (h : 30 < N) :
    Calls Try.prog 6 #[.slice a N cap, .agg #[.string ⟨x1.toArray⟩, .string ⟨x2.toArray⟩], .string ⟨n.toArray⟩] w fun e w' => e = .returned (.bool true) ∧ Below w.heap.size w w' := by
  have h1 : (30 : Int) < (N : Int) := by omega
  have hb0 : Below w.heap.size w (w.alloc (.cells #[.string ⟨x1.toArray⟩, .string ⟨x2.toArray⟩] 24)) := below_alloc _
  go_enter Try.func6, Try.ntmps6
  go_wp2_with fail
  refine (speaks_any _).mono ?_
  rintro e w1 ⟨rfl, hb1⟩
  go_wp2_with fail
  refine (speaks_any w1).mono ?_
  rintro e w2 ⟨rfl, hb2⟩
  go_wp2
  go_ret
  exact ⟨rfl, below_trans (below_trans hb0 hb1) hb2⟩

set_option maxHeartbeats 8000000 in
set_option maxRecDepth 100000 in
theorem attrGets_walk (L : List At) (a : Option Addr) (cap : Nat) (x1 x2 : Str) (n : Str) (w : World) (hs : Sl L a cap w) (hl : L.length ≤ 30) :
    Calls Try.prog 6 #[.slice a L.length cap, .agg #[.string ⟨x1.toArray⟩, .string ⟨x2.toArray⟩], .string ⟨n.toArray⟩] w fun e w' => e = .returned (.bool true) ∧ Below w.heap.size w w' := by
  have h1 : ¬ (30 : Int) < (L.length : Int) := by omega
  have hb0 : Below w.heap.size w (w.alloc (.cells #[.string ⟨x1.toArray⟩, .string ⟨x2.toArray⟩] 24)) := below_alloc _
  have HS := Lib.hid (hs.below hb0)
  have HB0 := Lib.hid hb0
  clear hs hb0
  go_enter Try.func6, Try.ntmps6
  go_wp2_with fail
  refine (speaks_any _).mono ?_
  rintro e w1 ⟨rfl, hb1⟩
  have cO := of_any L a cap w1 (HS.out.below hb1) (by omega)
  have HB1 := Lib.hid hb1
  clear hb1
  go_wp2_with fail
  refine cO.mono ?_
  rintro e w2 ⟨v, rfl, hown, hb2⟩
  obtain ⟨al, capl, rfl, hsl⟩ := sl_own hown
  have HB2 := Lib.hid (below_trans HB1.out hb2)
  obtain ⟨d1, d2⟩ := box_at HB2.out
  have cG := get_any L al capl x1 w2 hsl (by omega)
  have HSL := Lib.hid hsl
  clear hb2 cO HB1 hsl hown
  go_wp2_with fail
  obtain ⟨m1, m2⟩ := add_len L (x1, x2)
  cases hg : get L x1 with
  | none =>
    rw [resG_none hg] at cG
    have HG := Lib.hid hg
    clear hg
    refine cG.mono ?_
    rintro e w3 ⟨rfl, hb3⟩
    have HB3 := Lib.hid (below_trans HB2.out hb3)
    obtain ⟨d3, d4⟩ := box_at HB3.out
    have s3 := HSL.out.below hb3
    have cA := add_any L al capl (x1, x2) w3 s3 (by omega)
    have HS3 := Lib.hid s3
    clear hb3 cG d1 d2 HB2 s3 HSL
    go_wp2_with fail
    refine cA.mono ?_
    rintro e w4 ⟨v4, rfl, hown4, hb4⟩
    obtain ⟨am, capm, rfl, hsm⟩ := sl_own hown4
    have HB4 := Lib.hid (below_trans HB3.out hb4)
    obtain ⟨d5, d6⟩ := box_at HB4.out
    have cG2 := get_any (add L (x1, x2)) am capm x1 w4 hsm (by omega)
    rw [resG_some (get_add_none (x := (x1, x2)) HG.out)] at cG2
    have HS4 := Lib.hid (HS3.out.below hb4)
    have HM4 := Lib.hid hsm
    clear hb4 cA d3 d4 HB3 HS3 hown4 hsm
    go_wp2_with fail
    refine cG2.mono ?_
    rintro e w5 ⟨rfl, hb5⟩
    have HB5 := Lib.hid (below_trans HB4.out hb5)
    obtain ⟨d7, d8⟩ := box_at HB5.out
    have HS5 := Lib.hid (HS4.out.below hb5)
    have HM5 := Lib.hid (HM4.out.below hb5)
    have t1 : (x2 != x2) = false := by simp
    have t2 : ¬ (((add L (x1, x2)).length : Int) < (L.length : Int)) := by omega
    have t3 : ¬ ((L.length : Int) + 1 < ((add L (x1, x2)).length : Int)) := by omega
    clear hb5 cG2 d5 d6 HB4 HS4 HM4
    cases hn : (n == x1)
    · have hne : x1 ≠ n := by intro h; subst h; simp at hn
      have cN := get_any (add L (x1, x2)) am capm n w5 HM5.out (by omega)
      rw [get_add_other (x := (x1, x2)) hne, resG_pair] at cN
      obtain ⟨y, hy⟩ : ∃ y, (get L n).getD [] = y := ⟨_, rfl⟩
      obtain ⟨q, hq⟩ : ∃ q, (get L n).isSome = q := ⟨_, rfl⟩
      rw [hy, hq] at cN
      have t4 : (y == y) = true := by simp
      have t5 : (q == q) = true := by simp
      have HY := Lib.hid hy
      have HQ := Lib.hid hq
      clear hy hq hne
      go_wp2_with fail
      refine cN.mono ?_
      rintro e w6 ⟨rfl, hb6⟩
      have cN2 := get_any L al capl n w6 (HS5.out.below hb6) (by omega)
      rw [resG_pair, HY.out, HQ.out] at cN2
      have HB6 := Lib.hid (below_trans HB5.out hb6)
      clear hb6 cN HB5 HY HQ
      go_wp2_with fail
      refine cN2.mono ?_
      rintro e w7 ⟨rfl, hb7⟩
      have HB7 := Lib.hid (below_trans HB6.out hb7)
      clear hb7
      go_wp2
      go_ret
      exact ⟨ret_bool (by simp), below_trans HB0.out HB7.out⟩
    · go_wp2
      go_ret
      exact ⟨rfl, below_trans HB0.out HB5.out⟩
  | some u =>
    rw [resG_some hg] at cG
    have HG := Lib.hid hg
    clear hg
    refine cG.mono ?_
    rintro e w3 ⟨rfl, hb3⟩
    have HB3 := Lib.hid (below_trans HB2.out hb3)
    obtain ⟨d3, d4⟩ := box_at HB3.out
    have s3 := HSL.out.below hb3
    have cA := add_any L al capl (x1, x2) w3 s3 (by omega)
    have HS3 := Lib.hid s3
    clear hb3 cG d1 d2 HB2 s3 HSL
    go_wp2_with fail
    refine cA.mono ?_
    rintro e w4 ⟨v4, rfl, hown4, hb4⟩
    obtain ⟨am, capm, rfl, hsm⟩ := sl_own hown4
    have HB4 := Lib.hid (below_trans HB3.out hb4)
    obtain ⟨d5, d6⟩ := box_at HB4.out
    have cG2 := get_any (add L (x1, x2)) am capm x1 w4 hsm (by omega)
    rw [resG_some (get_add_some (x := (x1, x2)) HG.out)] at cG2
    have HS4 := Lib.hid (HS3.out.below hb4)
    have HM4 := Lib.hid hsm
    clear hb4 cA d3 d4 HB3 HS3 hown4 hsm
    go_wp2_with fail
    refine cG2.mono ?_
    rintro e w5 ⟨rfl, hb5⟩
    have HB5 := Lib.hid (below_trans HB4.out hb5)
    obtain ⟨d7, d8⟩ := box_at HB5.out
    have HS5 := Lib.hid (HS4.out.below hb5)
    have HM5 := Lib.hid (HM4.out.below hb5)
    have t1 : (u != u) = false := by simp
    have t2 : ¬ (((add L (x1, x2)).length : Int) < (L.length : Int)) := by omega
    have t3 : ¬ ((L.length : Int) + 1 < ((add L (x1, x2)).length : Int)) := by omega
    clear hb5 cG2 d5 d6 HB4 HS4 HM4
    cases hn : (n == x1)
    · have hne : x1 ≠ n := by intro h; subst h; simp at hn
      have cN := get_any (add L (x1, x2)) am capm n w5 HM5.out (by omega)
      rw [get_add_other (x := (x1, x2)) hne, resG_pair] at cN
      obtain ⟨y, hy⟩ : ∃ y, (get L n).getD [] = y := ⟨_, rfl⟩
      obtain ⟨q, hq⟩ : ∃ q, (get L n).isSome = q := ⟨_, rfl⟩
      rw [hy, hq] at cN
      have t4 : (y == y) = true := by simp
      have t5 : (q == q) = true := by simp
      have HY := Lib.hid hy
      have HQ := Lib.hid hq
      clear hy hq hne
      go_wp2_with fail
      refine cN.mono ?_
      rintro e w6 ⟨rfl, hb6⟩
      have cN2 := get_any L al capl n w6 (HS5.out.below hb6) (by omega)
      rw [resG_pair, HY.out, HQ.out] at cN2
      have HB6 := Lib.hid (below_trans HB5.out hb6)
      clear hb6 cN HB5 HY HQ
      go_wp2_with fail
      refine cN2.mono ?_
      rintro e w7 ⟨rfl, hb7⟩
      have HB7 := Lib.hid (below_trans HB6.out hb7)
      clear hb7
      go_wp2
      go_ret
      exact ⟨ret_bool (by simp), below_trans HB0.out HB7.out⟩
    · go_wp2
      go_ret
      exact ⟨rfl, below_trans HB0.out HB5.out⟩
end Go.Proofs.Ytmdpkolncfnfbaa
