/- The law CharPlain, walked. -/
import Derived.Test.YtfodfjjhlbpniaaDoorLSteps
import Derived.Laws.AppendOwnNone
import Derived.Lib.AppendStr
namespace Go.Proofs.YtfodfjjhlbpniaaDoor
open Go.RowKit Go.Lib

/-- a row of one's own as a slice of bytes -/
theorem sl_own {w : World} {B : Nat} {v : Value} {p : List UInt8} (h : w.ownsRow B 5 1 v p.length (Lib.byteCells p)) (hp : p ≠ []) :
    ∃ g cap, v = .slice (some ⟨g, 0, none⟩) p.length cap ∧ Sl p (some ⟨g, 0, none⟩) cap w := by
  have hl : 0 < p.length := List.length_pos_iff.2 hp
  rcases h.2 with ⟨_, h0⟩ | ⟨g, cap, cur, hv, hg, hh, hn, r⟩
  · omega
  · refine ⟨g, cap, hv, hn, Or.inr ⟨g, 0, rfl, fun j hj => ?_⟩⟩
    have := h.cells (g := g) (by rw [hv]; rfl) j (.int .u8 ((at0 p j : Nat) : Int)) (by simp [Lib.byteCells, at0, List.getD_eq_getElem?_getD, List.getElem?_eq_getElem hj])
    rw [addr_add0] at this
    rw [Nat.zero_add]
    exact this

/-- what a character's own bytes are -/
def EncL (c : Nat) (q : List UInt8) : Prop := q = encodeRune (c : Int)

theorem EncL.next {c : Nat} {q : List UInt8} (h : EncL c q) (hc : good c) (l : List UInt8) : nxAt (l ++ q) l.length = (c, q.length) := by
  have hq : 0 < q.length := by rw [h]; exact (enc_len _).1
  rw [nxAt_in (by simp; omega), List.drop_left]
  have := nx_enc c [] hc
  rw [List.append_nil] at this
  rw [h]; exact this

theorem EncL.clean {c : Nat} {q : List UInt8} (h : EncL c q) (hc : good c) : (allFrom q 0 q.length == q) = true := by
  have hg : Good q := by
    have := Good.cons c [] hc .nil
    rw [List.append_nil] at this
    rw [h]; exact this
  rw [allFrom_whole, hg.own _ (Nat.le_refl _)]; simp

theorem EncL.len {c : Nat} {q : List UInt8} (h : EncL c q) : 1 ≤ q.length ∧ q.length ≤ 4 := by rw [h]; exact enc_len _

set_option maxHeartbeats 1000000 in
set_option maxRecDepth 100000 in
theorem charPlain_long (n : Nat) (a : Option Addr) (cap : Nat) (x : Int) (w : World) (hT : Lib.Utf8Tabs 0 1 w) (h : 100 < n) :
    Calls Tryd.prog 8 #[.int .u32 x, .slice a n cap] w fun e w' => e = .returned (.bool true) ∧ Below w.heap.size w w' := by
  have h1 : (100 : Int) < (n : Int) := by omega
  go_enter Tryd.func8, Tryd.ntmps8
  go_wp2_with fail
  refine (speaks_any w hT).mono ?_
  rintro e w1 ⟨rfl, hb1⟩
  go_wp2_with fail
  refine (speaks_any w1 (Tabs_below hT hb1)).mono ?_
  rintro e w2 ⟨rfl, hb2⟩
  go_wp2
  go_ret
  exact ⟨rfl, hb1.trans (hb2.mono hb1.size)⟩

set_option maxHeartbeats 1000000 in
set_option maxRecDepth 100000 in
theorem charPlain_out (l : List UInt8) (a : Option Addr) (cap : Nat) (x : Int) (c : Nat) (w : World) (hT : Lib.Utf8Tabs 0 1 w) (h : l.length ≤ 100) (hx0 : 0 ≤ x) (hx1 : x ≤ 4294967295) (hc : x % 1114112 = c) (hbad : ¬ good c) :
    Calls Tryd.prog 8 #[.int .u32 x, .slice a l.length cap] w fun e w' => e = .returned (.bool true) ∧ Below w.heap.size w w' := by
  have h1 : ¬ ((100 : Int) < (l.length : Int)) := by omega
  have hcb : c < 1114112 := by omega
  by_cases c0 : c = 0
  · subst c0
    go_enter Tryd.func8, Tryd.ntmps8
    go_wp2_with fail
    refine (speaks_any w hT).mono ?_
    rintro e w1 ⟨rfl, hb1⟩
    go_wp2
    go_ret
    exact ⟨rfl, hb1⟩
  · have d0 : ((c : Int) == 0) = false := by simp; omega
    by_cases c13 : c = 13
    · subst c13
      go_enter Tryd.func8, Tryd.ntmps8
      go_wp2_with fail
      refine (speaks_any w hT).mono ?_
      rintro e w1 ⟨rfl, hb1⟩
      go_wp2
      go_ret
      exact ⟨rfl, hb1⟩
    · have d13 : ((c : Int) == 13) = false := by simp; omega
      have hv : Lib.validRune (c : Int) = false := by
        unfold good at hbad
        exact decide_eq_false (by omega)
      go_enter Tryd.func8, Tryd.ntmps8
      go_wp2_with fail
      refine (speaks_any w hT).mono ?_
      rintro e w1 ⟨rfl, hb1⟩
      have hV := Tryd.utf8_ValidRune (c : Int) w1
      rw [hv] at hV
      clear hv
      go_wp2_with fail
      refine hV.mono ?_
      rintro e w2 ⟨rfl, rfl⟩
      go_wp2
      go_ret
      exact ⟨rfl, hb1⟩

set_option maxHeartbeats 2000000 in
set_option maxRecDepth 100000 in
theorem charPlain_in_some (l : List UInt8) (ad : Addr) (cap : Nat) (x : Int) (c : Nat) (w : World) (hs : Sl l (some ad) cap w) (hT : Lib.Utf8Tabs 0 1 w) (h : l.length ≤ 100) (hx0 : 0 ≤ x) (hx1 : x ≤ 4294967295) (hc : x % 1114112 = c) (hg : good c) :
    Calls Tryd.prog 8 #[.int .u32 x, .slice (some ad) l.length cap] w fun e w' => e = .returned (.bool true) ∧ Below w.heap.size w w' := by
  have h1 : ¬ ((100 : Int) < (l.length : Int)) := by omega
  have hcb : c < 1114112 := by omega
  have d0 : ((c : Int) == 0) = false := by have := hg.1; simp; omega
  have d13 : ((c : Int) == 13) = false := by have := hg.2.1; simp; omega
  have hv : Lib.validRune (c : Int) = true := by
    unfold good at hg
    exact decide_eq_true (by omega)
  obtain ⟨q, hq⟩ : ∃ q, EncL c q := ⟨_, rfl⟩
  have hql := hq.len
  have hconv : ∀ w, (convert 21 9 (.int .i32 (c : Int))).run Tryd.prog w = .ok (.string ⟨q.toArray⟩) w := by
    intro w; rw [hq, ← encode_good c hg]; exact run_convert_int_string w 21 9 .i32 c rfl Tryd.underlying9
  obtain ⟨i5, hi5, hp5⟩ := info5
  simp only [Prod.mk.injEq] at hp5
  obtain ⟨hz5, hsz5, hby5⟩ := hp5
  have HI5 := Lib.hid hi5
  have HZ5 := Lib.hid hz5
  have HS5 := Lib.hid hsz5
  have HB5 := Lib.hid hby5
  clear hi5 hz5 hsz5 hby5
  go_enter Tryd.func8, Tryd.ntmps8
  go_wp2_with fail
  refine (speaks_any w hT).mono ?_
  rintro e w1 ⟨rfl, B1⟩
  have hV := Tryd.utf8_ValidRune (c : Int) w1
  rw [hv] at hV
  clear hv
  go_wp2_with fail
  refine hV.mono ?_
  rintro e w2 ⟨rfl, rfl⟩
  have z1 := B1.size
  have B2 : Below w.heap.size w (w2.alloc (.cells #[] 5)) := B1.alloc z1 _
  have own2 : (w2.alloc (.cells #[] 5)).ownsRow w.heap.size 5 1 (.slice (some ⟨w2.heap.size, 0, none⟩) 0 0) 0 [] := by
    refine ⟨rfl, Or.inr ⟨w2.heap.size, 0, #[], rfl, z1, ?_, by simp, by simp, by simp, by simp⟩⟩
    simp [World.alloc, -World.alloc_eq]
  have z2 := B2.size
  have s2 := hs.below B2
  go_wp2_with (at_builtin; refine wpList_append_own _ rfl (.tmp 34) (.tmp 35) 22 rfl w.heap.size 5 i5 (.int .u8 0) 1 1 Tryd.underlying22 HI5.out HZ5.out HS5.out HB5.out rfl (by decide) _ _ _ rfl own2 ad _ _ (Lib.byteCells l) rfl ?c0 ?c1 ?c2 ?c3 ?c4 ?c5 ?_)
  case c0 => simp [Lib.byteCells]
  case c1 =>
    intro j u hj
    have hjl : j < l.length := by
      rcases Nat.lt_or_ge j l.length with h | h
      · exact h
      · simp [Lib.byteCells, List.getElem?_eq_none h] at hj
    obtain ⟨_, rfl | ⟨b, off, hab, hcc⟩⟩ := s2
    · simp at hjl
    · obtain rfl := Option.some.inj hab
      rw [show (⟨b, off, none⟩ : Addr).add j = ⟨b, off + j, none⟩ by unfold Addr.add; split <;> simp_all, hcc j hjl]
      simp [Lib.byteCells, List.getElem?_eq_getElem hjl] at hj
      simp [at0, List.getD_eq_getElem?_getD, List.getElem?_eq_getElem hjl, hj]
  case c2 =>
    intro u hu
    obtain ⟨z, _, rfl⟩ := List.mem_map.1 hu
    rfl
  case c3 => unfold maxLen; omega
  case c4 => omega
  case c5 => exact z2
  intro v3 w3 own3 grow3 _
  have B3 := B2.grown grow3 z2 (fun k hk => (own2.lt k hk).1)
  have z3 := B3.size
  have hpl : (l ++ q).length ≤ 104 := by simp; omega
  go_wp2_with (at_builtin; refine wpList_append_own_string _ rfl (.tmp 36) (.tmp 37) 22 9 rfl w.heap.size 5 i5 Tryd.underlying22 Tryd.underlying9 HI5.out HZ5.out HS5.out HB5.out _ _ _ rfl own3 ⟨q.toArray⟩ rfl ?e1 ?e2 ?e3 ?_)
  case e1 => rw [str_size]; unfold maxLen; omega
  case e2 => rw [str_size]; omega
  case e3 => exact z3
  intro v4 w4 own4 grow4 _
  have own4' : w4.ownsRow w.heap.size 5 1 v4 (l ++ q).length (Lib.byteCells (l ++ q)) := by
    rw [List.length_append, Lib.byteCells_append]
    exact own4
  have B4 := B3.grown grow4 z3 (fun k hk => (own3.lt k hk).1)
  have hex := sl_own own4' (by intro e; have := congrArg List.length e; rw [List.length_append, List.length_nil] at this; omega)
  rw [List.length_append] at hex
  obtain ⟨g, cap4, rfl, s4⟩ := hex
  have hN := next_any (l ++ q) (some ⟨g, 0, none⟩) cap4 l.length w4 s4 (Tabs_below hT B4)
  rw [hq.next hg l, List.length_append] at hN
  have hcl := hq.clean hg
  have HQ := Lib.hid hq
  have HG := Lib.hid hg
  clear hq hg own4 own4'
  go_wp2_with fail
  refine hN.mono ?_
  rintro e w5 ⟨rfl, b5⟩
  have B5 := B4.trans (b5.mono B4.size)
  have hC := clean_bool q w5 (Tabs_below hT B5) (by omega)
  rw [hcl] at hC
  clear hcl
  go_wp2_with fail
  refine hC.mono ?_
  rintro e w6 ⟨rfl, b6⟩
  have B6 := B5.trans (b6.mono B5.size)
  go_wp2
  go_ret
  exact ⟨rfl, B6⟩

set_option maxHeartbeats 2000000 in
set_option maxRecDepth 100000 in
theorem charPlain_in_none (x : Int) (c : Nat) (w : World) (hT : Lib.Utf8Tabs 0 1 w) (hx0 : 0 ≤ x) (hx1 : x ≤ 4294967295) (hc : x % 1114112 = c) (hg : good c) :
    Calls Tryd.prog 8 #[.int .u32 x, .slice none 0 0] w fun e w' => e = .returned (.bool true) ∧ Below w.heap.size w w' := by
  have hcb : c < 1114112 := by omega
  have d0 : ((c : Int) == 0) = false := by have := hg.1; simp; omega
  have d13 : ((c : Int) == 13) = false := by have := hg.2.1; simp; omega
  have hv : Lib.validRune (c : Int) = true := by
    unfold good at hg
    exact decide_eq_true (by omega)
  obtain ⟨q, hq⟩ : ∃ q, EncL c q := ⟨_, rfl⟩
  have hql := hq.len
  have hconv : ∀ w, (convert 21 9 (.int .i32 (c : Int))).run Tryd.prog w = .ok (.string ⟨q.toArray⟩) w := by
    intro w; rw [hq, ← encode_good c hg]; exact run_convert_int_string w 21 9 .i32 c rfl Tryd.underlying9
  obtain ⟨i5, hi5, hp5⟩ := info5
  simp only [Prod.mk.injEq] at hp5
  obtain ⟨hz5, hsz5, hby5⟩ := hp5
  have HI5 := Lib.hid hi5
  have HZ5 := Lib.hid hz5
  have HS5 := Lib.hid hsz5
  have HB5 := Lib.hid hby5
  clear hi5 hz5 hsz5 hby5
  go_enter Tryd.func8, Tryd.ntmps8
  go_wp2_with fail
  refine (speaks_any w hT).mono ?_
  rintro e w1 ⟨rfl, B1⟩
  have hV := Tryd.utf8_ValidRune (c : Int) w1
  rw [hv] at hV
  clear hv
  go_wp2_with fail
  refine hV.mono ?_
  rintro e w2 ⟨rfl, rfl⟩
  have z1 := B1.size
  have B2 : Below w.heap.size w (w2.alloc (.cells #[] 5)) := B1.alloc z1 _
  have own2 : (w2.alloc (.cells #[] 5)).ownsRow w.heap.size 5 1 (.slice (some ⟨w2.heap.size, 0, none⟩) 0 0) 0 [] := by
    refine ⟨rfl, Or.inr ⟨w2.heap.size, 0, #[], rfl, z1, ?_, by simp, by simp, by simp, by simp⟩⟩
    simp [World.alloc, -World.alloc_eq]
  have z2 := B2.size
  have own3 := own2
  have B3 := B2
  have z3 := z2
  go_wp2_with (at_builtin; first | (refine wpList_append_own_none rfl (.tmp 34) (.tmp 35) 22 rfl w.heap.size 5 i5 1 Tryd.underlying22 HI5.out _ _ _ rfl own2 rfl ?_) | (refine wpList_append_own_string _ rfl (.tmp 36) (.tmp 37) 22 9 rfl w.heap.size 5 i5 Tryd.underlying22 Tryd.underlying9 HI5.out HZ5.out HS5.out HB5.out _ _ _ rfl own3 ⟨q.toArray⟩ rfl ?e1 ?e2 ?e3 ?_))
  case e1 => rw [str_size]; unfold maxLen; omega
  case e2 => rw [str_size]; omega
  case e3 => exact z3
  intro v4 w4 own4 grow4 _
  have own4' : w4.ownsRow w.heap.size 5 1 v4 q.length (Lib.byteCells q) := by
    exact own4
  have B4 := B3.grown grow4 z3 (fun k hk => (own3.lt k hk).1)
  have hex := sl_own own4' (by intro e; rw [e] at hql; simp at hql)
  obtain ⟨g, cap4, rfl, s4⟩ := hex
  have hN := next_any q (some ⟨g, 0, none⟩) cap4 0 w4 s4 (Tabs_below hT B4)
  have hnx : nxAt q 0 = (c, q.length) := hq.next hg []
  rw [hnx] at hN
  clear hnx
  have hcl := hq.clean hg
  have HQ := Lib.hid hq
  have HG := Lib.hid hg
  clear hq hg own4 own4'
  go_wp2_with fail
  refine hN.mono ?_
  rintro e w5 ⟨rfl, b5⟩
  have B5 := B4.trans (b5.mono B4.size)
  have hC := clean_bool q w5 (Tabs_below hT B5) (by omega)
  rw [hcl] at hC
  clear hcl
  go_wp2_with fail
  refine hC.mono ?_
  rintro e w6 ⟨rfl, b6⟩
  have B6 := B5.trans (b6.mono B5.size)
  go_wp2
  go_ret
  exact ⟨rfl, B6⟩
end Go.Proofs.YtfodfjjhlbpniaaDoor
