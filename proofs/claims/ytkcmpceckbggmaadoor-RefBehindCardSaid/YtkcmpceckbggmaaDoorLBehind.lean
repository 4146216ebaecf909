/- The law RefBehind, walked. -/
import Derived.Test.YtkcmpceckbggmaaDoorLPlain
import Derived.Deep.RegionLaw
namespace Go.Proofs.YtkcmpceckbggmaaDoor
open Go.RowKit Go.Lib
open Ch (at0 nx nx_width nx_range at0_lt at0_drop enc_len Sl Sl.below Cells ret_bool info5 ownsRow_below addr_add0)

/-- a slice that came in, behind a row of one's own -/
theorem app_any (w : World) (B : Nat) (v : Value) (n : Nat) (xs : List Value) (hown : w.ownsRow B 5 1 v n xs) (r : List UInt8) (c : Option Addr) (cap : Nat) (hs : Sl r c cap w) (hn : c = none → r.length = 0 ∧ cap = 0) (hlen : n + r.length ≤ 1000000) (hB : B ≤ w.heap.size) :
    ∃ v' w', (Builtin.append_ #[22, 22] 22 #[v, .slice c r.length cap]).run Tryd.prog w = .ok v' w' ∧ w'.ownsRow B 5 1 v' (n + r.length) (xs ++ byteCells r) ∧ w.grownBy w' v.ownBlock := by
  obtain ⟨i5, hi5, hp5⟩ := info5
  simp only [Prod.mk.injEq] at hp5
  obtain ⟨hz5, hsz5, hby5⟩ := hp5
  cases c with
  | none =>
    obtain ⟨h0, rfl⟩ := hn rfl
    obtain rfl : r = [] := List.eq_nil_of_length_eq_zero h0
    have hr := run_append_owned_none (P := Tryd.prog) (w := w) B 22 22 5 i5 1 Tryd.underlying22 hi5 v n xs hown
    refine ⟨v, w, hr, ?_, ⟨rfl, rfl, rfl, Nat.le_refl _, fun _ _ _ => rfl⟩⟩
    have e : xs ++ byteCells [] = xs := List.append_nil xs
    rw [e]
    exact hown
  | some ad =>
    have hc : ∀ (j : Nat) (u : Value), (byteCells r)[j]? = some u → w.cell? (ad.add j) = some u := by
      intro j u hj
      obtain ⟨-, h2 | ⟨b, off, hb, hc⟩⟩ := hs
      · subst h2; simp [byteCells] at hj
      · cases hb
        have hjl : j < r.length := by
          rcases Nat.lt_or_ge j r.length with k | k
          · exact k
          · rw [List.getElem?_eq_none (by rw [byteCells_length]; exact k)] at hj; cases hj
        have e : (⟨b, off, none⟩ : Addr).add j = ⟨b, off + j, none⟩ := by unfold Addr.add; split <;> simp_all
        rw [e, hc j hjl, ← hj]
        simp [byteCells, at0, List.getD_eq_getElem?_getD, List.getElem?_eq_getElem hjl]
    obtain ⟨v', w', hr, h1, h2, -⟩ := run_append_own (P := Tryd.prog) w B 22 22 5 i5 (.int .u8 0) 1 1 Tryd.underlying22 hi5 hz5 hsz5 hby5 rfl (by decide) v n xs hown ad r.length cap (byteCells r) (by rw [byteCells_length, Nat.mul_one]) hc (by
      intro u hu
      unfold byteCells at hu
      obtain ⟨z, _, rfl⟩ := List.mem_map.1 hu
      rfl) (by unfold maxLen; omega) (by omega) hB
    exact ⟨v', w', hr, h1, h2⟩

/-- an append whose run is known, as one step of a region that draws -/
theorem step_run {ops : Array Oper} {o : Oper} {a : Act} {w : World} {K : Act → World → Prop} {Q : Exit → Act → World → Prop} {E : Prop}
    (hg : o.guard = none) (s x : Operand) (t u : TypeId) (hop : o.op = Op.call { callee := Callee.builtin Builtin.append, args := #[s, x], argTypes := #[t, u] })
    (vs vx : Value) (hs : a.eval s = vs) (hx : a.eval x = vx) (v' : Value) (w' : World) (hr : (Builtin.append_ #[t, u] o.type #[vs, vx]).run Tryd.prog w = .ok v' w') (hK : K (a.put o.dst v') w') :
    if Region.wanted o (yielded ops a.tmps) = true then Oper.wp Tryd.prog o a w K Q else E := by
  rw [if_pos (by simp [Region.wanted, hg])]
  exact Lib.wp_append_run w s x t u hop vs vx hs hx v' w' hr hK

set_option maxHeartbeats 2000000 in
set_option maxRecDepth 100000 in
theorem refBehind_long (n : Nat) (a : Option Addr) (cap : Nat) (m : Nat) (b : Option Addr) (capB : Nat) (r : Nat) (c : Option Addr) (capC : Nat) (attr : Bool) (w : World) (hT : Tb w) (h : 100 < n ∨ 100 < m ∨ 100 < r) :
    Calls Tryd.prog 8 #[.slice a n cap, .slice b m capB, .slice c r capC, .bool attr] w fun e w' => e = .returned (.bool true) ∧ Below w.heap.size w w' := by
  by_cases h1 : 100 < n
  · have h1' : (100 : Int) < (n : Int) := by omega
    go_enter Tryd.func8, Tryd.ntmps8
    go_wp2_with fail
    refine (speaks_any w hT).mono ?_
    rintro e w1 ⟨rfl, hb1⟩
    go_wp2_with fail
    refine (speaks_any w1 (hT.below hb1)).mono ?_
    rintro e w2 ⟨rfl, hb2⟩
    go_wp2
    go_ret
    exact ⟨rfl, hb1.trans (hb2.mono hb1.size)⟩
  · have h1' : ¬ (100 : Int) < (n : Int) := by omega
    by_cases h2 : 100 < m
    · have h2' : (100 : Int) < (m : Int) := by omega
      go_enter Tryd.func8, Tryd.ntmps8
      go_wp2_with fail
      refine (speaks_any w hT).mono ?_
      rintro e w1 ⟨rfl, hb1⟩
      go_wp2_with fail
      refine (speaks_any w1 (hT.below hb1)).mono ?_
      rintro e w2 ⟨rfl, hb2⟩
      go_wp2
      go_ret
      exact ⟨rfl, hb1.trans (hb2.mono hb1.size)⟩
    · have h2' : ¬ (100 : Int) < (m : Int) := by omega
      have h3' : (100 : Int) < (r : Int) := by omega
      clear h
      go_enter Tryd.func8, Tryd.ntmps8
      go_wp2_with fail
      refine (speaks_any w hT).mono ?_
      rintro e w1 ⟨rfl, hb1⟩
      go_wp2_with fail
      refine (speaks_any w1 (hT.below hb1)).mono ?_
      rintro e w2 ⟨rfl, hb2⟩
      go_wp2
      go_ret
      exact ⟨rfl, hb1.trans (hb2.mono hb1.size)⟩

theorem Sl.take {l : List UInt8} {b off cap : Nat} {w : World} (hc : Cells l b off w) (hcap : l.length ≤ cap) (n : Nat) : Sl (l.take n) (some ⟨b, off, none⟩) cap w :=
  ⟨by simp; omega, Or.inr ⟨b, off, rfl, Cells.take hc n⟩⟩

theorem behind_read {l m r s : List UInt8} {e : Nat} {attr : Bool} (h : rd m attr = some (s, e)) (h59 : at0 m (e - 1) = 59) : rdAt (l ++ m.take e ++ r) (l.length : Int) attr = some (s, l.length + e) := by
  have hbd := rd_bd h
  rw [rdAt_in (by simp; omega), List.append_assoc, List.drop_left, rd_front h h59]
  rfl

set_option maxHeartbeats 8000000 in
set_option maxRecDepth 100000 in
theorem refBehind_none (l : List UInt8) (a : Option Addr) (cap : Nat) (m : List UInt8) (b : Option Addr) (capB : Nat) (r : List UInt8) (c : Option Addr) (capC : Nat) (attr : Bool) (w : World) (ht : Sl m b capB w) (hT : Tb w) (h1 : l.length ≤ 100) (h2 : m.length ≤ 100) (h3 : r.length ≤ 100) (ho : rdAt m 0 attr = none) :
    Calls Tryd.prog 8 #[.slice a l.length cap, .slice b m.length capB, .slice c r.length capC, .bool attr] w fun e w' => e = .returned (.bool true) ∧ Below w.heap.size w w' := by
  have k1 : ¬ (100 : Int) < (l.length : Int) := by omega
  have k2 : ¬ (100 : Int) < (m.length : Int) := by omega
  have k3 : ¬ (100 : Int) < (r.length : Int) := by omega
  go_enter Tryd.func8, Tryd.ntmps8
  go_wp2_with fail
  refine (speaks_any w hT).mono ?_
  rintro e w1 ⟨rfl, hb1⟩
  have cR := read_any m b capB 0 attr w1 (ht.below hb1) (by omega) (hT.below hb1).2
  rw [ho, resP_none rfl] at cR
  go_wp2_with fail
  refine cR.mono ?_
  rintro e w2 ⟨rfl, rfl⟩
  go_wp2
  go_ret
  exact ⟨rfl, hb1⟩

set_option maxHeartbeats 8000000 in
set_option maxRecDepth 100000 in
theorem refBehind_bare (l : List UInt8) (a : Option Addr) (cap : Nat) (m : List UInt8) (b off capB : Nat) (r : List UInt8) (c : Option Addr) (capC : Nat) (attr : Bool) (w : World) (hc : Cells m b off w) (hcap : m.length ≤ capB) (hT : Tb w) (h1 : l.length ≤ 100) (h2 : m.length ≤ 100) (h3 : r.length ≤ 100) (s : List UInt8) (e : Nat) (ho : rdAt m 0 attr = some (s, e)) (he : 3 ≤ e) (hem : e ≤ m.length) (h59 : at0 m (e - 1) ≠ 59) :
    Calls Tryd.prog 8 #[.slice a l.length cap, .slice (some ⟨b, off, none⟩) m.length capB, .slice c r.length capC, .bool attr] w fun e w' => e = .returned (.bool true) ∧ Below w.heap.size w w' := by
  have k1 : ¬ (100 : Int) < (l.length : Int) := by omega
  have k2 : ¬ (100 : Int) < (m.length : Int) := by omega
  have k3 : ¬ (100 : Int) < (r.length : Int) := by omega
  have ht : Sl m (some ⟨b, off, none⟩) capB w := ⟨hcap, Or.inr ⟨b, off, rfl, hc⟩⟩
  have g1 : ¬ ((e : Int) < 1) := by omega
  have g2 : ¬ ((m.length : Int) < (e : Int)) := by omega
  have g3 : (3 : Int) ≤ (e : Int) := by omega
  have g4 : (e : Int) ≤ (m.length : Int) := by omega
  have hidx : (e : Int) - 1 = ((e - 1 : Nat) : Int) := by omega
  have t0 : (((at0 m (e - 1) : Nat) : Int) != 59) = true := by simp; omega
  obtain ⟨E, hE⟩ : ∃ E, e - 1 = E := ⟨_, rfl⟩
  rw [hE] at hidx t0
  have hEl : E < m.length := by omega
  clear hE h59
  go_enter Tryd.func8, Tryd.ntmps8
  go_wp2_with fail
  refine (speaks_any w hT).mono ?_
  rintro e w1 ⟨rfl, hb1⟩
  have cR := read_any m (some ⟨b, off, none⟩) capB 0 attr w1 (ht.below hb1) (by omega) (hT.below hb1).2
  rw [ho, resP_some rfl rfl] at cR
  have hcell := (Ch.Cells.below hc hb1) E hEl
  go_wp2_with fail
  refine cR.mono ?_
  rintro e w2 ⟨rfl, rfl⟩
  go_wp2
  go_ret
  exact ⟨rfl, hb1⟩

theorem below_drew {B : Nat} {w w' : World} (h : Below B w w') : Below B w w'.drew := ⟨h.os, h.tape, h.output, h.size, h.block⟩

set_option maxHeartbeats 8000000 in
set_option maxRecDepth 100000 in
theorem refBehind_semi (l : List UInt8) (a : Option Addr) (cap : Nat) (m : List UInt8) (b off capB : Nat) (r : List UInt8) (c : Option Addr) (capC : Nat) (attr : Bool) (w : World) (hs : Sl l a cap w) (hn : a = none → l.length = 0 ∧ cap = 0) (hc : Cells m b off w) (hcap : m.length ≤ capB) (hu : Sl r c capC w) (hn2 : c = none → r.length = 0 ∧ capC = 0) (hT : Tb w) (h1 : l.length ≤ 100) (h2 : m.length ≤ 100) (h3 : r.length ≤ 100) (s : List UInt8) (e : Nat) (hrd : rd m attr = some (s, e)) (ho : rdAt m 0 attr = some (s, e)) (he : 3 ≤ e) (hem : e ≤ m.length) (h59 : at0 m (e - 1) = 59) :
    Calls Tryd.prog 8 #[.slice a l.length cap, .slice (some ⟨b, off, none⟩) m.length capB, .slice c r.length capC, .bool attr] w fun e w' => e = .returned (.bool true) ∧ Below w.heap.size w w' := by
  have k1 : ¬ (100 : Int) < (l.length : Int) := by omega
  have k2 : ¬ (100 : Int) < (m.length : Int) := by omega
  have k3 : ¬ (100 : Int) < (r.length : Int) := by omega
  have ht : Sl m (some ⟨b, off, none⟩) capB w := ⟨hcap, Or.inr ⟨b, off, rfl, hc⟩⟩
  have g1 : ¬ ((e : Int) < 1) := by omega
  have g2 : ¬ ((m.length : Int) < (e : Int)) := by omega
  have g4 : (e : Int) ≤ (capB : Int) := by omega
  have g5 : e ≤ capB := by omega
  have HBR := Lib.hid (behind_read (l := l) (r := r) hrd h59)
  have hidx : (e : Int) - 1 = ((e - 1 : Nat) : Int) := by omega
  have t0 : (((at0 m (e - 1) : Nat) : Int) != 59) = false := by rw [h59]; rfl
  obtain ⟨E, hE⟩ : ∃ E, e - 1 = E := ⟨_, rfl⟩
  rw [hE] at hidx t0
  have hEl : E < m.length := by omega
  clear hE h59 hrd
  go_enter Tryd.func8, Tryd.ntmps8
  go_wp2_with fail
  refine (speaks_any w hT).mono ?_
  rintro _ w1 ⟨rfl, hb1⟩
  have cR := read_any m (some ⟨b, off, none⟩) capB 0 attr w1 (ht.below hb1) (by omega) (hT.below hb1).2
  rw [ho, resP_some rfl rfl] at cR
  have hcell := (Ch.Cells.below hc hb1) E hEl
  have hz1 := hb1.size
  go_wp2_with fail
  refine cR.mono ?_
  rintro _ w2 ⟨rfl, rfl⟩
  have hb0 : Below w.heap.size w (w1.alloc (.cells #[] 5)).drew := below_drew (hb1.alloc hz1 _)
  have own0 : (w1.alloc (.cells #[] 5)).drew.ownsRow w.heap.size 5 1 (.slice (some ⟨w1.heap.size, 0, none⟩) 0 0) 0 [] := by
    refine ⟨rfl, Or.inr ⟨w1.heap.size, 0, #[], rfl, hz1, ?_, by simp, by simp, by simp, by simp⟩⟩
    show (w1.alloc (.cells #[] 5)).heap[w1.heap.size]? = _
    simp [World.alloc, -World.alloc_eq]
  obtain ⟨v1, W1, hr1, own1, gr1⟩ := app_any _ w.heap.size _ 0 [] own0 l a cap (hs.below hb0) hn (by omega) hb0.size
  have hbA := hb0.grown gr1 hb0.size (fun k hk => (own0.lt k hk).1)
  obtain ⟨v2, W2, hr2, own2, gr2⟩ := app_any W1 w.heap.size v1 _ _ own1 (m.take e) (some ⟨b, off, none⟩) capB (Sl.take (Ch.Cells.below hc hbA) hcap e) (fun h => by cases h) (by simp; omega) hbA.size
  have hbB := hbA.grown gr2 hbA.size (fun k hk => (own1.lt k hk).1)
  obtain ⟨v3, W3, hr3, own3, gr3⟩ := app_any W2 w.heap.size v2 _ _ own2 r c capC (hu.below hbB) hn2 (by simp; omega) hbB.size
  have hbC := hbB.grown gr3 hbB.size (fun k hk => (own2.lt k hk).1)
  have hte : (m.take e).length = e := by simp; omega
  rw [hte] at hr2
  have own : W3.ownsRow w.heap.size 5 1 v3 (l ++ m.take e ++ r).length (byteCells (l ++ m.take e ++ r)) := by
    rw [byteCells_append, byteCells_append, List.length_append, List.length_append]
    have := own3
    rw [List.nil_append, Nat.zero_add] at this
    exact this
  obtain ⟨a3, cap3, hv3, hs3⟩ := sl_own own
  subst hv3
  have hpl : (l ++ m.take e ++ r).length = l.length + e + r.length := by simp; omega
  have cF := read_any (l ++ m.take e ++ r) a3 cap3 (l.length : Int) attr W3 hs3 (by omega) (hT.below hbC).2
  rw [HBR.out, resP_some rfl rfl] at cF
  have HR1 := Lib.hid hr1
  have HR2 := Lib.hid hr2
  have HR3 := Lib.hid hr3
  have HBC := Lib.hid hbC
  generalize (l ++ m.take e ++ r).length = N at *
  clear hr1 hr2 hr3 own1 own2 own3 own gr1 gr2 gr3 hbA hbB hbC hs3 own0 hb0 HBR hpl hte
  go_wp2
  go_region_law (first | (refine step_run rfl (.tmp 73) (.tmp 74) 22 22 rfl _ _ rfl rfl v1 W1 HR1.out ?_) | (refine step_run rfl (.tmp 75) (.tmp 78) 22 22 rfl _ _ rfl rfl v2 W2 HR2.out ?_) | (refine step_run rfl (.tmp 79) (.tmp 80) 22 22 rfl _ _ rfl rfl _ W3 HR3.out ?_))
  go_wp2_with fail
  refine cF.mono ?_
  rintro _ w4 ⟨rfl, rfl⟩
  go_wp2
  go_ret
  exact ⟨ret_bool (by simp), HBC.out⟩

theorem rdAt_zero {m s : List UInt8} {e : Nat} {attr : Bool} (h : rdAt m 0 attr = some (s, e)) : rd m attr = some (s, e) := by
  unfold rdAt at h
  split at h
  · have e1 : m.drop (0 : Int).toNat = m := rfl
    rw [e1] at h
    unfold sh at h
    rw [Option.map_eq_some_iff] at h
    obtain ⟨⟨s', e'⟩, hn, he⟩ := h
    simp only [Prod.mk.injEq] at he
    obtain ⟨rfl, he2⟩ := he
    have : (0 : Int).toNat + e' = e' := Nat.zero_add _
    rw [this] at he2
    subst he2
    exact hn
  · cases h

theorem refBehind_walk (l : List UInt8) (a : Option Addr) (cap : Nat) (m : List UInt8) (b : Option Addr) (capB : Nat) (r : List UInt8) (c : Option Addr) (capC : Nat) (attr : Bool) (w : World) (hs : Sl l a cap w) (hn : a = none → l.length = 0 ∧ cap = 0) (ht : Sl m b capB w) (hu : Sl r c capC w) (hn2 : c = none → r.length = 0 ∧ capC = 0) (hT : Tb w) (h1 : l.length ≤ 100) (h2 : m.length ≤ 100) (h3 : r.length ≤ 100) :
    Calls Tryd.prog 8 #[.slice a l.length cap, .slice b m.length capB, .slice c r.length capC, .bool attr] w fun e w' => e = .returned (.bool true) ∧ Below w.heap.size w w' := by
  cases ho : rdAt m 0 attr with
  | none => exact refBehind_none l a cap m b capB r c capC attr w ht hT h1 h2 h3 ho
  | some p =>
    obtain ⟨s, e⟩ := p
    have hrd := rdAt_zero ho
    have hbd := rd_bd hrd
    obtain ⟨hcap, h0 | ⟨b', off, rfl, hc⟩⟩ := ht
    · subst h0; simp at hbd; omega
    · by_cases h59 : at0 m (e - 1) = 59
      · exact refBehind_semi l a cap m b' off capB r c capC attr w hs hn hc hcap hu hn2 hT h1 h2 h3 s e hrd ho hbd.1 hbd.2.1 h59
      · exact refBehind_bare l a cap m b' off capB r c capC attr w hc hcap hT h1 h2 h3 s e ho hbd.1 hbd.2.1 h59
end Go.Proofs.YtkcmpceckbggmaaDoor
