/- The law RefPlain, walked. -/
import Derived.Test.YtkcmpceckbggmaaDoorSpk
import Derived.Test.YtkcmpceckbggmaaDoorMath3
import Derived.Maps.AppendAt
import Derived.Lib.AppendStr
import Derived.Lib.AppendZeros
namespace Go.Proofs.YtkcmpceckbggmaaDoor
open Go.RowKit Go.Lib
open Ch (at0 nx nx_width nx_range at0_lt at0_drop enc_len Sl Sl.below Cells ret_bool info5 ownsRow_below addr_add0 all_any allFrom)

/-- a string's bytes behind a row of one's own: where it lies then -/
theorem str_behind (w : World) (B : Nat) (v : Value) (n : Nat) (xs : List Value) (hown : w.ownsRow B 5 1 v n xs) (s : ByteArray) (hs : 0 < s.size) (hlen : n + s.size ≤ 140737488355328) (hB : B ≤ w.heap.size) :
    ∃ v' w', (Builtin.append_ #[22, 9] 22 #[v, .string s]).run Tryd.prog w = .ok v' w' ∧ w'.ownsRow B 5 1 v' (n + s.size) (xs ++ strCells s) ∧ w.grownBy w' v.ownBlock ∧ (v'.ownBlock = v.ownBlock ∨ v'.ownBlock = some w.heap.size) := by
  obtain ⟨i5, hi5, hp5⟩ := info5
  simp only [Prod.mk.injEq] at hp5
  obtain ⟨hz5, hsz5, hby5⟩ := hp5
  obtain ⟨v', w', hr, h1, h2, -⟩ := run_append_own_string (P := Tryd.prog) w B 22 9 22 5 i5 Tryd.underlying22 Tryd.underlying9 hi5 hz5 hsz5 hby5 v n xs hown s (by unfold maxLen; omega) hlen hB
  refine ⟨v', w', hr, h1, h2, ?_⟩
  have hxl : xs.length = n := by simpa using hown.1
  rcases hown.2 with ⟨rfl, rfl⟩ | ⟨g, cap, cur, rfl, hbg, hg, hnc, hcm, hcs, htake⟩
  · have hk := run_append_nil_string (P := Tryd.prog) w 22 9 22 5 i5 (.int .u8 0) Tryd.underlying22 Tryd.underlying9 hi5 hz5 s (by omega) (by omega) (by rw [hby5]; omega)
    rw [hr] at hk
    injection hk with hv _
    right; rw [hv]; rfl
  · by_cases hroom : n + s.size ≤ cap
    · have hk := run_append_room_string (P := Tryd.prog) w 22 9 22 5 i5 Tryd.underlying22 Tryd.underlying9 hi5 hsz5 g n cap cur hg s hroom (by omega)
      rw [hr] at hk
      injection hk with hv _
      left; rw [hv]; rfl
    · have hk := run_append_grow_string (P := Tryd.prog) w 22 9 22 5 i5 (.int .u8 0) Tryd.underlying22 Tryd.underlying9 hi5 hz5 ⟨g, 0, none⟩ n cap xs (by rw [hsz5]; simpa using hxl) (hown.cells (g := g) rfl) s (by omega) (by omega) (by rw [hby5]; exact growslice_fits (by omega) (by omega))
      rw [hr] at hk
      injection hk with hv _
      right; rw [hv]; rfl

set_option maxHeartbeats 1000000 in
set_option maxRecDepth 100000 in
theorem refPlain_long (n : Nat) (a : Option Addr) (cap : Nat) (attr : Bool) (w : World) (hT : Tb w) (h : 300 < n) :
    Calls Tryd.prog 6 #[.slice a n cap, .bool attr] w fun e w' => e = .returned (.bool true) ∧ Below w.heap.size w w' := by
  have h1 : (300 : Int) < (n : Int) := by omega
  go_enter Tryd.func6, Tryd.ntmps6
  go_wp2_with fail
  refine (speaks_any w hT).mono ?_
  rintro e w1 ⟨rfl, hb1⟩
  go_wp2_with fail
  refine (speaks_any w1 (hT.below hb1)).mono ?_
  rintro e w2 ⟨rfl, hb2⟩
  go_wp2
  go_ret
  exact ⟨rfl, hb1.trans (hb2.mono hb1.size)⟩

/-- where the loop stands -/
def PlRel (l : List UInt8) (w : World) (v5 v6 v19 : Value) (wr : World) : Prop :=
  ∃ i : Nat, v19 = .int .i64 (i : Int) ∧ i ≤ l.length ∧ wr.ownsRow w.heap.size 5 1 v5 (pln (l.take i)).length (byteCells (pln (l.take i))) ∧ wr.ownsRow w.heap.size 5 1 v6 (esc (l.take i)).length (byteCells (esc (l.take i))) ∧
    (v5.ownBlock = none ∨ v5.ownBlock ≠ v6.ownBlock) ∧ Below w.heap.size w wr

/-- a row of one's own as a slice of bytes -/
theorem sl_own {w : World} {B : Nat} {v : Value} {p : List UInt8} (h : w.ownsRow B 5 1 v p.length (byteCells p)) :
    ∃ a cap, v = .slice a p.length cap ∧ Sl p a cap w := by
  rcases h.2 with ⟨hv, h0⟩ | ⟨g, cap, cur, hv, hg, hh, hn, r⟩
  · obtain rfl : p = [] := List.eq_nil_of_length_eq_zero h0
    exact ⟨none, 0, hv, Nat.zero_le _, Or.inl rfl⟩
  · refine ⟨some ⟨g, 0, none⟩, cap, hv, hn, Or.inr ⟨g, 0, rfl, fun j hj => ?_⟩⟩
    have := h.cells (g := g) (by rw [hv]; rfl) j (.int .u8 ((at0 p j : Nat) : Int)) (by simp [byteCells, at0, List.getD_eq_getElem?_getD, List.getElem?_eq_getElem hj])
    rw [addr_add0] at this
    rw [Nat.zero_add]
    exact this

theorem apart_symm {a b : Option Nat} (h : a = none ∨ a ≠ b) : b = none ∨ b ≠ a := by
  cases b with
  | none => exact Or.inl rfl
  | some y =>
    right
    rcases h with rfl | h
    · simp
    · exact fun e => h e.symm

theorem apart_new {w : World} {B : Nat} {u v v' : Value} {n N : Nat} {xs : List Value} (hu : w.ownsRow B 5 1 u n xs) (h : v.ownBlock = none ∨ v.ownBlock ≠ u.ownBlock) (hN : w.heap.size ≤ N) (hv : v'.ownBlock = v.ownBlock ∨ v'.ownBlock = some N) : v'.ownBlock = none ∨ v'.ownBlock ≠ u.ownBlock := by
  rcases hv with e | e
  · rw [e]; exact h
  · right
    rw [e]
    intro k
    have := (hu.lt N k.symm).2
    omega

theorem byte_cells (b : UInt8) : byteCells [b] = [.int .u8 ((b.toNat : Nat) : Int)] := rfl

theorem take_next {l : List UInt8} {i : Nat} (h : i < l.length) : l.take (i + 1) = l.take i ++ [l[i]] := List.take_succ_eq_append_getElem h
theorem at0_elem {l : List UInt8} {i : Nat} (h : i < l.length) : at0 l i = l[i].toNat := by
  unfold at0; rw [List.getD_eq_getElem?_getD, List.getElem?_eq_getElem h]; rfl

theorem one_new (w : World) (c : Value) : ∀ (j : Nat) (u : Value), [c][j]? = some u → (w.alloc (.cells #[c] 5)).cell? ((⟨w.heap.size, 0, none⟩ : Addr).add j) = some u := by
  intro j u h
  rw [addr_add0]
  exact row_cell w 5 j u #[c] (by simpa using h)

set_option maxHeartbeats 8000000 in
set_option maxRecDepth 100000 in
theorem refPlain_walk (l : List UInt8) (a : Option Addr) (cap : Nat) (attr : Bool) (w : World) (hs : Sl l a cap w) (hT : Tb w) (hl : l.length ≤ 300) :
    Calls Tryd.prog 6 #[.slice a l.length cap, .bool attr] w fun e w' => e = .returned (.bool true) ∧ Below w.heap.size w w' := by
  have h1 : ¬ ((300 : Int) < (l.length : Int)) := by omega
  obtain ⟨i5, hi5, hp5⟩ := info5
  simp only [Prod.mk.injEq] at hp5
  obtain ⟨hz5, hsz5, hby5⟩ := hp5
  have HI5 := Lib.hid hi5
  have HZ5 := Lib.hid hz5
  have HS5 := Lib.hid hsz5
  have HB5 := Lib.hid hby5
  clear hi5 hz5 hsz5 hby5
  go_enter Tryd.func6, Tryd.ntmps6
  go_wp2_with fail
  refine (speaks_any w hT).mono ?_
  rintro e w1 ⟨rfl, hb1⟩
  have HB1 := Lib.hid hb1
  clear hb1
  go_wp2
  go_loopw [5, 6, 19] (fun v5 v6 v19 wr => PlRel l w v5 v6 v19 wr) (fun _ _ v19 _ => ((l.length : Int) - RowKit.intOf v19).toNat)
  case atStart => exact ⟨0, rfl, by omega, World.ownsRow_nil _ _ _ _, World.ownsRow_nil _ _ _ _, Or.inl rfl, HB1.out⟩
  case round =>
    obtain ⟨i, rfl, hi, hP, hE, hap, hbw⟩ := hrel
    clear HB1
    have hsz := hbw.size
    have hle := esc_len (l.take i)
    have hlp := pln_len (l.take i)
    have hlt : (l.take i).length ≤ 300 := by simp; omega
    by_cases hil : i < l.length
    · have hil' : (i : Int) < (l.length : Int) := by omega
      obtain ⟨hcap, h2 | ⟨b, off, rfl, hc⟩⟩ := hs.below hbw
      · subst h2; simp at hil
      · have hcell := hc i hil
        have hb8 := at0_lt l i
        have HES := Lib.hid (show esc (l.take (i + 1)) = esc (l.take i) ++ esc1 l[i] by rw [take_next hil, esc_snoc])
        have HPS := Lib.hid (show pln (l.take (i + 1)) = pln (l.take i) ++ (if l[i] = 38 then [] else [l[i]]) by rw [take_next hil, pln_snoc])
        have HAT := Lib.hid (at0_elem hil)
        by_cases h38 : at0 l i = 38
        · have t0 : (((at0 l i : Nat) : Int) != 38) = false := by rw [h38]; rfl
          have hEl := Lib.hid (show l[i] = 38 from UInt8.toNat_inj.1 (by rw [← at0_elem hil]; exact h38))
          obtain ⟨v6', w2, hr, hE2, hg2, hblk⟩ := str_behind wr w.heap.size _ _ _ hE ⟨#[38, 97, 109, 112, 59]⟩ (by decide) (by show _ + 5 ≤ _; omega) hsz
          have hP2 := hP.kept hg2 hap
          have hb2 := hbw.grown hg2 hsz (fun k hk => (hE.lt k hk).1)
          have hap2 := apart_symm (apart_new hP (apart_symm hap) (Nat.le_refl _) hblk)
          have HR := Lib.hid hr
          have HE2 := Lib.hid hE2
          have HP2 := Lib.hid hP2
          have HAP := Lib.hid hap2
          have HB2 := Lib.hid hb2
          clear hr hE2 hP2 hap2 hb2 hg2 hblk h38 hE hP hap
          go_wp2_with (at_builtin; refine Lib.wpList_append_run _ rfl (.tmp 33) (.const (.string ⟨#[38, 97, 109, 112, 59]⟩)) 22 9 rfl _ _ rfl rfl v6' w2 HR.out ?_)
          go_wp2
          go_roundw
          case rel =>
            refine ⟨i + 1, by go_num, by omega, ?_, ?_, HAP.out, HB2.out⟩
            · rw [HPS.out, hEl.out, if_pos rfl, List.append_nil]; exact HP2.out
            · have e : esc1 38 = [38, 97, 109, 112, 59] := rfl
              rw [HES.out, hEl.out, e, byteCells_append, List.length_append]; exact HE2.out
          case measure => simp [RowKit.intOf]; omega
        · have t0 : (((at0 l i : Nat) : Int) != 38) = true := by simp; omega
          have hEl := Lib.hid (show l[i] ≠ 38 from fun e => h38 (by rw [at0_elem hil, e]; rfl))
          have hbA : Below wr.heap.size wr (wr.alloc (.cells #[.int .u8 ((at0 l i : Nat) : Int)] 5)) := (Below.refl _ wr).alloc (Nat.le_refl _) _
          have hPA := ownsRow_below hP hbA
          have hEA := ownsRow_below hE hbA
          have hzA := hbA.size
          have HC1 := Lib.hid (one_new wr (.int .u8 ((at0 l i : Nat) : Int)))
          clear h38
          go_wp2_with (at_builtin; refine wpList_append_own_at (w := wr.alloc (.cells #[.int .u8 ((at0 l i : Nat) : Int)] 5)) rfl (.tmp 25) (.tmp 27) 22 rfl w.heap.size 5 i5 (.int .u8 0) 1 1 Tryd.underlying22 HI5.out HZ5.out HS5.out HB5.out rfl (by decide) _ _ _ rfl hPA ⟨wr.heap.size, 0, none⟩ 1 1 [.int .u8 ((at0 l i : Nat) : Int)] rfl rfl HC1.out ?c2 ?c3 ?c4 ?c5 ?_)
          case c2 => first | rfl | (intro u hu; simp only [List.mem_singleton] at hu; subst hu; rfl)
          case c3 => unfold maxLen; omega
          case c4 => omega
          case c5 => omega
          intro v5' w2 hP2 hg2 _ hblk2
          have hE2 := hEA.kept hg2 (apart_symm hap)
          have hap2 := apart_new hEA hap (by simp) hblk2
          have hb2 := (hbw.trans (hbA.mono hsz)).grown hg2 (by omega) (fun k hk => (hPA.lt k hk).1)
          have hz2 := hb2.size
          have hbB : Below w2.heap.size w2 (w2.alloc (.cells #[.int .u8 ((at0 l i : Nat) : Int)] 5)) := (Below.refl _ w2).alloc (Nat.le_refl _) _
          have hPB := ownsRow_below hP2 hbB
          have hEB := ownsRow_below hE2 hbB
          have hzB := hbB.size
          have HC2 := Lib.hid (one_new w2 (.int .u8 ((at0 l i : Nat) : Int)))
          have HP2 := Lib.hid hP2
          have HE2 := Lib.hid hE2
          have HB2 := Lib.hid hb2
          clear hP2 hE2 hb2 hg2 hblk2 hPA hEA hP hE hap
          go_wp2_with (at_builtin; refine wpList_append_own_at (w := w2.alloc (.cells #[.int .u8 ((at0 l i : Nat) : Int)] 5)) rfl (.tmp 29) (.tmp 31) 22 rfl w.heap.size 5 i5 (.int .u8 0) 1 1 Tryd.underlying22 HI5.out HZ5.out HS5.out HB5.out rfl (by decide) _ _ _ rfl hEB ⟨w2.heap.size, 0, none⟩ 1 1 [.int .u8 ((at0 l i : Nat) : Int)] rfl rfl HC2.out ?c2 ?c3 ?c4 ?c5 ?_)
          case c2 => first | rfl | (intro u hu; simp only [List.mem_singleton] at hu; subst hu; rfl)
          case c3 => unfold maxLen; omega
          case c4 => omega
          case c5 => omega
          intro v6' w4 hE4 hg4 _ hblk4
          have hP4 := hPB.kept hg4 hap2
          have hap4 := apart_symm (apart_new hPB (apart_symm hap2) (by simp) hblk4)
          have hb4 := (HB2.out.trans (hbB.mono hz2)).grown hg4 (by omega) (fun k hk => (hEB.lt k hk).1)
          have HP4 := Lib.hid hP4
          have HE4 := Lib.hid hE4
          have HB4 := Lib.hid hb4
          have HAP4 := Lib.hid hap4
          clear hP4 hE4 hb4 hg4 hblk4 hPB hEB hap2 hap4 HP2 HE2 HB2
          go_wp2
          go_roundw
          case rel =>
            refine ⟨i + 1, by go_num, by omega, ?_, ?_, HAP4.out, HB4.out⟩
            · rw [HPS.out, if_neg hEl.out, byteCells_append, byte_cells, ← HAT.out, List.length_append]; exact HP4.out
            · have e : esc1 l[i] = [l[i]] := if_neg hEl.out
              rw [HES.out, e, byteCells_append, byte_cells, ← HAT.out, List.length_append]; exact HE4.out
          case measure => simp [RowKit.intOf]; omega
    · have hil' : ¬ ((i : Int) < (l.length : Int)) := by omega
      have hli : l.take i = l := List.take_of_length_le (by omega)
      rw [hli] at hP hE hle hlp
      obtain ⟨a5, c5, rfl, s5⟩ := sl_own hP
      obtain ⟨a6, c6, rfl, s6⟩ := sl_own hE
      have hTr := hT.below hbw
      have m1 := Lib.hid (txt_plain attr _ (pln l) (Nat.le_refl _) (pln_mem l))
      have m2 := Lib.hid (txt_esc attr _ l (Nat.le_refl _))
      have p0 := text_any (pln l) a5 c5 0 (pln l).length 0 (pln l).length attr wr s5 rfl (by omega) (by omega) hTr (by omega)
      rw [show ((pln l).drop 0).take (pln l).length = pln l from List.take_length, m1.out] at p0
      clear hP hE hap hli hlt
      generalize pln l = P at *
      generalize esc l = X at *
      obtain ⟨t1, ht1⟩ : ∃ t, all0 P = t := ⟨_, rfl⟩
      rw [ht1] at p0
      go_wp2_with fail
      refine p0.mono ?_
      rintro e w2 ⟨rfl, hb2⟩
      have q0 := all_any P a5 c5 0 P.length w2 (s5.below hb2) (hTr.below hb2).1 (by omega)
      rw [all0_from, ht1] at q0
      go_wp2_with fail
      refine q0.mono ?_
      rintro e w3 ⟨rfl, hb3⟩
      have hz2 := hb2.size
      have hb13 := (hbw.trans (hb2.mono hsz)).trans (hb3.mono (by omega))
      have hb23 := hb2.trans (hb3.mono hz2)
      have r0 := text_any X a6 c6 0 X.length 0 X.length attr w3 (s6.below hb23) rfl (by omega) (by omega) (hT.below hb13) (by omega)
      rw [show (X.drop 0).take X.length = X from List.take_length, m2.out] at r0
      obtain ⟨t2, ht2⟩ : ∃ t, all0 l = t := ⟨_, rfl⟩
      rw [ht2] at r0
      go_wp2_with fail
      refine r0.mono ?_
      rintro e w4 ⟨rfl, hb4⟩
      have hz13 := hb13.size
      have hb14 := hb13.trans (hb4.mono hz13)
      have q1 := all_any l a cap 0 l.length w4 (hs.below hb14) (hT.below hb14).1 (by omega)
      rw [all0_from, ht2] at q1
      go_wp2_with fail
      refine q1.mono ?_
      rintro e w5 ⟨rfl, hb5⟩
      have hz14 := hb14.size
      go_wp2
      go_ret
      exact ⟨ret_bool (by simp), hb14.trans (hb5.mono hz14)⟩
end Go.Proofs.YtkcmpceckbggmaaDoor
