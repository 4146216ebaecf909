/- The law RawFar, walked. -/
import Derived.Test.YtpamdilmoakflaaSp
namespace Go.Proofs.Ytpamdilmoakflaa
open Go.RowKit Go.Lib

set_option maxHeartbeats 1000000 in
set_option maxRecDepth 100000 in
theorem rawFar_long (k k2 : Nat) (a a2 : Option Addr) (cap cap2 : Nat) (x : Int) (w : World) (h : 200 < k ∨ 200 < k2) :
    Calls Try.prog 4 #[.slice a k cap, .slice a2 k2 cap2, .int .u8 x] w fun e w' => e = .returned (.bool true) ∧ Below w.heap.size w w' := by
  by_cases h1 : 200 < k
  · have h1' : (200 : Int) < (k : Int) := by omega
    go_enter Try.func4, Try.ntmps4
    go_wp2_with fail
    refine (speaks_any w).mono ?_
    rintro e w1 ⟨rfl, hb1⟩
    go_wp2_with fail
    refine (speaks_any w1).mono ?_
    rintro e w2 ⟨rfl, hb2⟩
    go_wp2
    go_ret
    exact ⟨rfl, hb1.trans (hb2.mono hb1.size)⟩
  · have h1' : ¬ ((200 : Int) < (k : Int)) := by omega
    have h2' : (200 : Int) < (k2 : Int) := by omega
    go_enter Try.func4, Try.ntmps4
    go_wp2_with fail
    refine (speaks_any w).mono ?_
    rintro e w1 ⟨rfl, hb1⟩
    go_wp2_with fail
    refine (speaks_any w1).mono ?_
    rintro e w2 ⟨rfl, hb2⟩
    go_wp2
    go_ret
    exact ⟨rfl, hb1.trans (hb2.mono hb1.size)⟩

/-- whatever slice behind it -/
theorem Mine.any {s t : List UInt8} {v : Value} {w0 w : World} (h : Mine s w0.heap.size v w) (hb : Below w0.heap.size w0 w) (a : Option Addr) (c : Nat) (ht : Sl t a c w) (hlen : s.length + t.length ≤ 100000) :
    ∃ v' w', (Builtin.append_ #[22, 22] 22 #[v, .slice a t.length c]).run Try.prog w = .ok v' w' ∧ Mine (s ++ t) w0.heap.size v' w' ∧ Below w0.heap.size w0 w' := by
  by_cases h0 : t.length = 0
  · obtain rfl : t = [] := List.eq_nil_of_length_eq_zero h0
    exact ⟨v, w, append_none h a c, by rw [List.append_nil]; exact h, hb⟩
  · obtain ⟨_, hz | ⟨b, off, rfl, hc⟩⟩ := ht
    · rw [hz] at h0; exact absurd rfl h0
    · exact h.slice hb b off c (by omega) hc hlen

/-- an append whose run is known, behind a guard that lets it by -/
theorem append_want {ops : Array Oper} {rest : List Oper} {o : Oper} {a : Act} {w : World} {Q : Exit → Act → World → Prop} (hw : Region.wanted o (yielded ops a.tmps) = true) (s x : Operand) (t tn : TypeId)
    (ho : o.op = .call { callee := .builtin .append, args := #[s, x], argTypes := #[t, tn] }) (vs vx : Value) (hs : a.eval s = vs) (hx : a.eval x = vx)
    (v' : Value) (w' : World) (hr : (Builtin.append_ #[t, tn] o.type #[vs, vx]).run Try.prog w = .ok v' w') (h : wpList Try.prog ops Q rest (a.put o.dst v') w') : wpList Try.prog ops Q (o :: rest) a w :=
  BigFrame.wpList_want hw fun _ hK => Lib.wp_append_run w s x t tn ho vs vx hs hx v' w' hr (hK _ _ h)

/-- the eight names as values -/
def nmV8 : Array Value := #[.string ⟨#[116, 101, 120, 116, 97, 114, 101, 97]⟩, .string ⟨#[116, 105, 116, 108, 101]⟩, .string ⟨#[105, 102, 114, 97, 109, 101]⟩, .string ⟨#[110, 111, 101, 109, 98, 101, 100]⟩, .string ⟨#[110, 111, 102, 114, 97, 109, 101, 115]⟩, .string ⟨#[115, 99, 114, 105, 112, 116]⟩, .string ⟨#[115, 116, 121, 108, 101]⟩, .string ⟨#[120, 109, 112]⟩]
theorem nmV8_at {i : Nat} (h : i < 8) : nmV8[i]? = some (.string ⟨(nm i).toArray⟩) := by
  rcases (by omega : i = 0 ∨ i = 1 ∨ i = 2 ∨ i = 3 ∨ i = 4 ∨ i = 5 ∨ i = 6 ∨ i = 7) with rfl | rfl | rfl | rfl | rfl | rfl | rfl | rfl <;> rfl

theorem keep_step {l : List UInt8} {k : Nat} (h : k < l.length) : (l.take (k + 1)).filter keep = (l.take k).filter keep ++ if at0 l k ≠ 60 then [l[k]] else [] := by
  rw [take_snoc h, List.filter_append]
  congr 1
  have e : keep l[k] = decide (at0 l k ≠ 60) := by
    rw [getD_at0 h, Bool.eq_iff_iff]
    simp only [keep, bne_iff_ne, decide_eq_true_eq]
    exact ⟨fun h e => h (UInt8.toNat_inj.1 e), fun h e => h (by rw [e]; rfl)⟩
  by_cases hk : at0 l k ≠ 60
  · rw [if_pos hk, List.filter_cons_of_pos (by rw [e]; exact decide_eq_true hk)]; rfl
  · rw [if_neg hk, List.filter_cons_of_neg (by rw [e]; simpa using hk)]; rfl

/-- where the loop stands -/
def FaRel (l : List UInt8) (w : World) (v8 v32 : Value) (wr : World) : Prop :=
  ∃ k : Nat, v32 = .int .i64 (k : Int) ∧ k ≤ l.length ∧ Mine ((l.take k).filter keep) w.heap.size v8 wr ∧ Below w.heap.size w wr

theorem mine_nil (B : Nat) (w : World) : Mine [] B (.slice none 0 0) w := Or.inl ⟨rfl, Or.inl ⟨rfl, rfl⟩⟩

set_option maxHeartbeats 4000000 in
set_option maxRecDepth 100000 in
theorem rawFar_walk (l m : List UInt8) (a a2 : Option Addr) (cap cap2 j : Nat) (x : Int) (w : World) (hs : Sl l a cap w) (hs2 : Sl m a2 cap2 w) (h : l.length ≤ 200) (h2 : m.length ≤ 200) (hx : 0 ≤ x ∧ x < 256) (hj : x % 8 = (j : Int)) :
    Calls Try.prog 4 #[.slice a l.length cap, .slice a2 m.length cap2, .int .u8 x] w fun e w' => e = .returned (.bool true) ∧ Below w.heap.size w w' := by
  have hj8 : j < 8 := by omega
  have h1 : ¬ ((200 : Int) < (l.length : Int)) := by omega
  have h1' : ¬ ((200 : Int) < (m.length : Int)) := by omega
  have HS := Lib.hid hs
  have HS2 := Lib.hid hs2
  clear hs hs2
  go_enter Try.func4, Try.ntmps4
  go_wp2_with fail
  refine (speaks_any w).mono ?_
  rintro e w1 ⟨rfl, hb1⟩
  have hcell := row_cell' w1 9 j _ nmV8 (0, 0) (nmV8_at hj8)
  obtain ⟨W1, hW1⟩ : ∃ W, w1.alloc (.cells nmV8 9) = W := ⟨_, rfl⟩
  have hbA : Below w1.heap.size w1 W1 := by rw [← hW1]; exact (Below.refl _ w1).alloc (Nat.le_refl _) _
  rw [hW1] at hcell
  unfold nmV8 at hW1
  have HB01 := Lib.hid (hb1.trans (hbA.mono hb1.size))
  have hnl := nm_length (j := j) (by omega)
  have HSM := Lib.hid (nm_small (j := j) (by omega))
  have HKD := Lib.hid (nm_kind hj8)
  generalize nm j = n at *
  clear hb1 hbA
  go_wp2
  clear hj hx
  go_loopw [8, 32] (fun v8 v32 wr => FaRel l w v8 v32 wr) (fun _ v32 _ => l.length - (RowKit.intOf v32).toNat)
  case atStart => exact ⟨0, rfl, by omega, mine_nil _ _, HB01.out⟩
  case round =>
    clear HB01 hcell hW1
    obtain ⟨k, rfl, hk, hMw, hbw⟩ := hrel
    have hsz := hbw.size
    by_cases hlt : k < l.length
    · have hlt' : (k : Int) < (l.length : Int) := by omega
      obtain ⟨hcp, hz | ⟨b, off, rfl, hc⟩⟩ := HS.out
      · rw [hz] at hlt; simp at hlt
      have hcell := (hc.below hbw) k hlt
      have HKS := Lib.hid (keep_step hlt)
      have hbd := at0_lt l k
      have HL1 := Lib.hid (getD_at0 hlt)
      obtain ⟨c, hcc⟩ : ∃ c, at0 l k = c := ⟨_, rfl⟩
      rw [hcc] at hcell HKS hbd HL1
      clear hc hcc
      by_cases h60 : c = 60
      · have t1 : ((c : Int) != 60) = false := by rw [h60]; rfl
        have HM2 := Lib.hid (show Mine ((l.take (k + 1)).filter keep) w.heap.size _ wr by rw [HKS.out, if_neg (fun x => x h60), List.append_nil]; exact hMw)
        clear hMw h60
        go_wp2
        go_roundw
        case rel => exact ⟨k + 1, by go_num, by omega, HM2.out, hbw⟩
        case measure => simp [RowKit.intOf]; omega
      · have t1 : ((c : Int) != 60) = true := by simp; omega
        have hbN : Below wr.heap.size wr (wr.alloc (.cells #[.int .u8 (c : Int)] 5)) := (Below.refl _ wr).alloc (Nat.le_refl _) _
        have hcN : Cells [l[k]] wr.heap.size 0 (wr.alloc (.cells #[.int .u8 (c : Int)] 5)) := by
          intro j hj
          simp only [List.length_cons, List.length_nil] at hj
          obtain rfl : j = 0 := by omega
          have e : at0 [l[k]] 0 = c := HL1.out.symm
          rw [e]
          exact row_cell' wr 5 0 _ _ _ rfl
        obtain ⟨v2, w2, hr, hM2, hb2⟩ := (hMw.below hbN).slice (hbw.trans (hbN.mono hsz)) wr.heap.size 0 1 (by simp) hcN (by have := List.length_filter_le keep (l.take k); have := List.length_take_le k l; simp only [List.length_cons, List.length_nil]; omega)
        have HR := Lib.hid hr
        have HM2 := Lib.hid (show Mine ((l.take (k + 1)).filter keep) w.heap.size v2 w2 by rw [HKS.out, if_pos h60]; exact hM2)
        have HB2 := Lib.hid hb2
        clear hMw hM2 hr hcN hbN hb2 h60
        go_wp2_with (at_builtin; refine Lib.wpList_append_run _ rfl (.tmp 38) (.tmp 40) 22 22 rfl _ _ rfl rfl v2 w2 HR.out ?_)
        go_wp2
        go_roundw
        case rel => exact ⟨k + 1, by go_num, by omega, HM2.out, HB2.out⟩
        case measure => simp [RowKit.intOf]; omega
    · have hlt' : ¬ ((k : Int) < (l.length : Int)) := by omega
      rw [List.take_of_length_le (by omega)] at hMw
      have hfl := List.length_filter_le keep l
      have HP := Lib.hid (ed_plain (n := n) (f := l.filter keep) HKD.out (fun b hb => (List.mem_filter.1 hb).2))
      have HC1 := Lib.hid (fun t => ed_closed (n := n) (f := l.filter keep) (t := t) HKD.out HSM.out (fun b hb => (List.mem_filter.1 hb).2))
      generalize l.filter keep = f at *
      obtain ⟨a3, cap3, rfl, hs3⟩ := hMw.sl
      have cE1 := end_any n 0 wr hs3 (by omega) (by omega) (by omega)
      rw [HP.out] at cE1
      have HM := Lib.hid hMw
      have HBW := Lib.hid hbw
      clear hMw hbw hs3
      go_wp2_with fail
      refine cE1.mono ?_
      rintro e w3 ⟨rfl, hb3⟩
      have hb03 := HBW.out.trans (hb3.mono hsz)
      have hz3 := hb03.size
      have hM3 := HM.out.below hb3
      have cK := kind_any n w3
      have HKD2 := HKD.out
      generalize kdN n = K at cK HKD2
      have k0 : ((K : Int) == 0) = false := by simp; omega
      have k3 : ((K : Int) == 3) = false := by simp; omega
      clear HKD2
      -- the row of one's own, and what is put behind it
      have hbE : Below w3.heap.size w3 (w3.alloc (.cells #[] 5)) := (Below.refl _ w3).alloc (Nat.le_refl _) _
      have hb04 := hb03.trans (hbE.mono hz3)
      have hM4 : Mine [] w.heap.size (.slice (some ⟨w3.heap.size, 0, none⟩) 0 0) (w3.alloc (.cells #[] 5)) := Or.inr ⟨w3.heap.size, rfl, fun j hj => absurd hj (by simp), hz3⟩
      obtain ⟨a4, cap4, e4, hs4⟩ := (hM3.below hbE).sl
      injection e4 with e5 e6 e7
      subst e5 e7
      obtain ⟨v5, w5, hr5, hM5, hb5⟩ := hM4.any hb04 a3 cap3 hs4 (by simp; omega)
      rw [List.nil_append] at hM5
      obtain ⟨q, hq⟩ : ∃ q, fr n ++ [62] = q := ⟨_, rfl⟩
      have hql : q.length = n.length + 3 := by rw [← hq]; simp [fr]
      obtain ⟨v6, w6, hr6, hM6, hb6⟩ := hM5.str hb5 q (by omega) (by omega)
      have hj1 : (⟨#[60, 47]⟩ ++ ⟨n.toArray⟩ : ByteArray) = ⟨(fr n).toArray⟩ := join_one [60, 47] n
      have hj2 : (⟨(fr n).toArray⟩ ++ ⟨#[62]⟩ : ByteArray) = ⟨q.toArray⟩ := by rw [← hq]; exact join_one (fr n) [62]
      have hjl := fr_length n
      rw [hq] at HC1
      clear hq
      generalize fr n = p at *
      obtain ⟨a6, cap6, rfl, hs6⟩ := hM6.sl
      have hl6 : (f ++ q).length = f.length + q.length := List.length_append
      have cE2 := end_any n 0 w6 hs6 (by omega) (by omega) (by omega)
      have hc1 := HC1.out []
      rw [List.append_nil] at hc1
      rw [hc1] at cE2
      have HR5 := Lib.hid hr5
      have HR6 := Lib.hid hr6
      have HB6 := Lib.hid hb6
      have hz6 := hb6.size
      have HM6 := Lib.hid hM6
      obtain ⟨a5, cap5, rfl, -⟩ := hM5.sl
      have hfs := str_size q
      clear hb3 hb03 hM3 hbE hb04 hM4 hs4 hr5 hM5 hb5 hr6 hM6 hb6 hs6 hc1 HM HBW HP
      obtain ⟨n6, hn6⟩ : ∃ n6, (f ++ q).length = n6 := ⟨_, rfl⟩
      rw [hn6] at hl6 cE2 HR6
      have hn6l : n6 ≤ 1000 := by omega
      have HN6 := Lib.hid hn6
      have hpl : p.length ≤ 20 := by omega
      have hqn : q.length ≤ 20 := by omega
      clear hl6 hn6 hql hjl
      go_wp2_with fail
      refine cK.mono ?_
      rintro e w7 ⟨rfl, rfl⟩
      go_wp2_with fail
      refine cK.mono ?_
      rintro e w7 ⟨rfl, rfl⟩
      go_wp2_with (at_builtin; first | refine Lib.wpList_append_run _ rfl (.tmp 59) (.tmp 60) 22 22 rfl _ _ rfl rfl _ w5 HR5.out ?_ | refine Lib.wpList_append_run _ rfl (.tmp 61) (.tmp 64) 22 9 rfl _ _ rfl rfl _ w6 HR6.out ?_)
      refine cE2.mono ?_
      rintro e w8 ⟨rfl, hb8⟩
      have hb08 := HB6.out.trans (hb8.mono hz6)
      have hz8 := hb08.size
      obtain ⟨v9, w9, hr9, hM9, hb9⟩ := (HM6.out.below hb8).any hb08 a2 cap2 (HS2.out.below hb08) (by rw [HN6.out]; omega)
      obtain ⟨a9, cap9, rfl, hs9⟩ := hM9.sl
      have hl9 : (f ++ q ++ m).length ≤ 2000 := by rw [List.length_append, HN6.out]; omega
      have cE3 := end_any n 0 w9 hs9 (by omega) (by omega) (by omega)
      rw [HC1.out m] at cE3
      have HR9 := Lib.hid hr9
      have HB9 := Lib.hid hb9
      have hz9 := hb9.size
      rw [HN6.out] at HR9
      clear hr9 hM9 hb9 hs9 hb8 hb08 HM6 HB6
      obtain ⟨n9, hn9⟩ : ∃ n9, (f ++ q ++ m).length = n9 := ⟨_, rfl⟩
      rw [hn9] at hl9 cE3 HR9
      clear hn9
      go_wp2_with (at_builtin; refine append_want (by rfl) (.tmp 73) (.tmp 74) 22 22 rfl _ _ rfl rfl _ w9 HR9.out ?_)
      refine cE3.mono ?_
      rintro e w10 ⟨rfl, hb10⟩
      go_wp2
      go_ret
      exact ⟨ret_bool (by simp), HB9.out.trans (hb10.mono hz9)⟩
end Go.Proofs.Ytpamdilmoakflaa
