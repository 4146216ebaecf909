/- Slices of bytes, letters, tag.Begins, and bytes.HasPrefix, walked. -/
import Derived.Test.YtplngoikjfimaaaMk
import Derived.Test.YtplngoikjfimaaaSmall
import Derived.LoopTactic
import Derived.Below
import Derived.OwnWalk
import Derived.Carry
namespace Go.Proofs.Ytplngoikjfimaaa
open Go.RowKit Go.Lib

variable {l : List UInt8} {a : Option Addr} {cap i : Nat} {w w' : World}

theorem ret_bool {a b : Bool} (h : a = b) : Ending.returned (.bool a) = .returned (.bool b) := by rw [h]
theorem ret_int {k : IntKind} {a b : Int} (h : a = b) : Ending.returned (.int k a) = .returned (.int k b) := by rw [h]

/-- what the cells of a slice of bytes hold -/
def Cells (l : List UInt8) (b off : Nat) (w : World) : Prop := ∀ j, j < l.length → w.cell? ⟨b, off + j, none⟩ = some (.int .u8 ((at0 l j : Nat) : Int))

theorem cell_lt {a : Addr} {v : Value} (hc : w.cell? a = some v) : a.block < w.heap.size := by
  rcases Nat.lt_or_ge a.block w.heap.size with h' | h'
  · exact h'
  · simp [World.cell?, Array.getElem?_eq_none h'] at hc

theorem Cells.below {b off : Nat} (h : Cells l b off w) (hb : Below w.heap.size w w') : Cells l b off w' :=
  fun j hj => (hb.cell (cell_lt (h j hj))).trans (h j hj)

theorem Cells.drop {b off : Nat} (h : Cells l b off w) (i : Nat) : Cells (l.drop i) b (off + i) w := by
  intro j hj
  simp only [List.length_drop] at hj
  rw [Nat.add_assoc, at0_drop]
  exact h (i + j) (by omega)

theorem at0_take {n j : Nat} (h : j < n) : at0 (l.take n) j = at0 l j := by
  unfold at0
  rw [List.getD_eq_getElem?_getD, List.getD_eq_getElem?_getD, List.getElem?_take, if_pos h]

theorem Cells.take {b off : Nat} (h : Cells l b off w) (n : Nat) : Cells (l.take n) b off w := by
  intro j hj
  simp only [List.length_take] at hj
  rw [at0_take (by omega)]
  exact h j (by omega)

/-- a slice of bytes, nil or not: its bytes are the list's -/
def Sl (l : List UInt8) (a : Option Addr) (cap : Nat) (w : World) : Prop := l.length ≤ cap ∧ (l = [] ∨ ∃ b off, a = some ⟨b, off, none⟩ ∧ Cells l b off w)

theorem Sl.below (h : Sl l a cap w) (hb : Below w.heap.size w w') : Sl l a cap w' := by
  obtain ⟨h1, h2 | ⟨b, off, rfl, hc⟩⟩ := h
  · exact ⟨h1, Or.inl h2⟩
  · exact ⟨h1, Or.inr ⟨b, off, rfl, hc.below hb⟩⟩

theorem string_cells {t : List UInt8} {b off n cap : Nat} {w : World} (hc : Cells t b off w) (hn : t.length = n) :
    (convert 22 9 (.slice (some ⟨b, off, none⟩) n cap)).run Try.prog w = .ok (.string ⟨t.toArray⟩) w := by
  subst hn
  refine run_convert_bytes_back w 22 9 5 ⟨b, off, none⟩ cap t Try.underlying22 Try.underlying5 Try.underlying9 fun j hj => ?_
  have := hc j hj
  have e : (⟨b, off, none⟩ : Addr).add j = ⟨b, off + j, none⟩ := by unfold Addr.add; split <;> simp_all
  rw [e, this]
  simp [at0, List.getD_eq_getElem?_getD, List.getElem?_eq_getElem hj]

def letterZ (x : Int) : Bool := smallZ x || greatZ x

set_option maxHeartbeats 400000 in
theorem letter_any (x : Int) (w : World) :
    Calls Try.prog 12 #[.int .i32 x] w fun e w' => e = .returned (.bool (letterZ x)) ∧ w = w' := by
  have hS := small_any x w
  have hG := great_any x w
  unfold letterZ
  cases h1 : smallZ x <;> cases h2 : greatZ x <;> rw [h1] at hS <;> rw [h2] at hG
  · go_enter Try.func12, Try.ntmps12
    go_wp2_with fail
    refine hS.mono ?_
    rintro e w' ⟨rfl, rfl⟩
    go_wp2_with fail
    refine hG.mono ?_
    rintro e w' ⟨rfl, rfl⟩
    go_wp2
    go_ret
    exact ⟨rfl, rfl⟩
  · go_enter Try.func12, Try.ntmps12
    go_wp2_with fail
    refine hS.mono ?_
    rintro e w' ⟨rfl, rfl⟩
    go_wp2_with fail
    refine hG.mono ?_
    rintro e w' ⟨rfl, rfl⟩
    go_wp2
    go_ret
    exact ⟨rfl, rfl⟩
  all_goals
    go_enter Try.func12, Try.ntmps12
    go_wp2_with fail
    refine hS.mono ?_
    rintro e w' ⟨rfl, rfl⟩
    go_wp2
    go_ret
    exact ⟨rfl, rfl⟩

/-- whether a tag begins a list, and of which kind -/
def bg (m : List UInt8) : Nat := if at0 m 0 = 60 then (if letN (at0 m 1) = true then 1 else if at0 m 1 = 47 ∧ letN (at0 m 2) = true then 2 else 0) else 0
def bgAt (l : List UInt8) (x : Int) : Nat := if 0 ≤ x ∧ x < (l.length : Int) then bg (l.drop x.toNat) else 0

/-- the byte at a place; -1: there is none -/
def lk (l : List UInt8) (x : Int) : Int := if 0 ≤ x ∧ x < (l.length : Int) then ((at0 l x.toNat : Nat) : Int) else -1

set_option maxHeartbeats 1000000 in
set_option maxRecDepth 100000 in
theorem look_any (x : Int) (w : World) (hs : Sl l a cap w) (hlen : l.length ≤ 1000000) : Calls Try.prog 11 #[.slice a l.length cap, .int .i64 x] w fun e w' => e = .returned (.int .i32 (lk l x)) ∧ w = w' := by
  by_cases h : 0 ≤ x ∧ x < (l.length : Int)
  · obtain ⟨i, rfl⟩ : ∃ i : Nat, x = i := ⟨x.toNat, by omega⟩
    have e : lk l (i : Int) = ((at0 l i : Nat) : Int) := by unfold lk; rw [if_pos h]; rfl
    rw [e]
    obtain ⟨hcap, h2 | ⟨b, off, rfl, hc⟩⟩ := hs
    · subst h2; simp at h; omega
    · have c1 := hc i (by omega)
      have h0 : ¬ ((i : Int) < 0) := by omega
      have h1 : (i : Int) < (l.length : Int) := h.2
      have hb := at0_lt l i
      generalize at0 l i = C at c1 hb ⊢
      clear e h hc
      go_enter Try.func11, Try.ntmps11
      go_wp2
      go_ret
      exact ⟨rfl, rfl⟩
  · have e : lk l x = -1 := if_neg h
    rw [e]
    clear e
    by_cases h0 : x < 0
    · go_enter Try.func11, Try.ntmps11
      go_wp2
      go_ret
      exact ⟨rfl, rfl⟩
    · have h1 : ¬ (x < (l.length : Int)) := by omega
      go_enter Try.func11, Try.ntmps11
      go_wp2
      go_ret
      exact ⟨rfl, rfl⟩

theorem letterZ_nat (c : Nat) : letterZ (c : Int) = letN c := by
  unfold letterZ letN
  rw [smallZ_nat, greatZ_nat]
theorem lk_in {i : Nat} (h : i < l.length) : lk l (i : Int) = ((at0 l i : Nat) : Int) := by unfold lk; rw [if_pos (by omega)]; rfl
theorem lk_letter (i : Nat) : letterZ (lk l (i : Int)) = letN (at0 l i) := by
  by_cases h : i < l.length
  · rw [lk_in h, letterZ_nat]
  · have e : lk l (i : Int) = -1 := if_neg (by omega)
    rw [e, at0_out (by omega)]
    rfl
theorem lk_eq (i c : Nat) (hc : c ≠ 0) : (lk l (i : Int) == (c : Int)) = decide (at0 l i = c) := by
  by_cases h : i < l.length
  · rw [lk_in h, Bool.eq_iff_iff]; simp; omega
  · have e : lk l (i : Int) = -1 := if_neg (by omega)
    rw [e, at0_out (by omega), Bool.eq_iff_iff]; simp; omega

theorem ret_bb {p q r s : Bool} (h : p = r) (h' : q = s) : Ending.returned (.tuple #[.bool p, .bool q]) = .returned (.tuple #[.bool r, .bool s]) := by rw [h, h']

theorem bg_at (l : List UInt8) (i : Nat) (h : i < l.length) : bgAt l (i : Int) = (if at0 l i = 60 then (if letN (at0 l (i + 1)) = true then 1 else if at0 l (i + 1) = 47 ∧ letN (at0 l (i + 2)) = true then 2 else 0) else 0) := by
  have hbg : bgAt l (i : Int) = bg (l.drop i) := if_pos (by omega)
  have d0 : at0 (l.drop i) 0 = at0 l i := by rw [at0_drop]; rfl
  have d1 : at0 (l.drop i) 1 = at0 l (i + 1) := at0_drop _ _ _
  have d2 : at0 (l.drop i) 2 = at0 l (i + 2) := at0_drop _ _ _
  rw [hbg]
  unfold bg
  rw [d0, d1, d2]

set_option maxHeartbeats 2000000 in
set_option maxRecDepth 100000 in
theorem begins_any (x : Int) (w : World) (hs : Sl l a cap w) (hlen : l.length ≤ 1000000) : Calls Try.prog 8 #[.slice a l.length cap, .int .i64 x] w fun e w' => e = .returned (.tuple #[.bool (decide (bgAt l x ≠ 0)), .bool (decide (bgAt l x = 2))]) ∧ w = w' := by
  have c0 := look_any x w hs hlen
  by_cases h : 0 ≤ x ∧ x < (l.length : Int)
  · obtain ⟨i, rfl⟩ : ∃ i : Nat, x = i := ⟨x.toNat, by omega⟩
    have hbg := bg_at l i (by omega)
    have hil : i < 1000000 := by omega
    have c1 := look_any ((i : Int) + 1) w hs hlen
    have c2 := look_any ((i : Int) + 2) w hs hlen
    have k0 : (lk l (i : Int) == 60) = decide (at0 l i = 60) := lk_eq (l := l) i 60 (by decide)
    have k1 : (lk l ((i : Int) + 1) == 47) = decide (at0 l (i + 1) = 47) := lk_eq (l := l) (i + 1) 47 (by decide)
    have cL1 := letter_any (lk l ((i : Int) + 1)) w
    have cL2 := letter_any (lk l ((i : Int) + 2)) w
    rw [show letterZ (lk l ((i : Int) + 1)) = letN (at0 l (i + 1)) from lk_letter (i + 1)] at cL1
    rw [show letterZ (lk l ((i : Int) + 2)) = letN (at0 l (i + 2)) from lk_letter (i + 2)] at cL2
    generalize lk l (i : Int) = Y0 at c0 k0
    generalize lk l ((i : Int) + 1) = Y1 at c1 k1 cL1
    generalize lk l ((i : Int) + 2) = Y2 at c2 cL2
    clear h hs
    by_cases t0 : at0 l i = 60
    · rw [if_pos t0] at hbg
      rw [decide_eq_true t0] at k0
      have e0 : (Y0 != 60) = false := by simp only [bne, k0]; rfl
      by_cases t1 : at0 l (i + 1) = 47
      · rw [decide_eq_true t1] at k1
        rw [t1] at hbg
        simp only [show letN 47 = false from rfl, Bool.false_eq_true, if_false, true_and] at hbg
        cases t2 : letN (at0 l (i + 2)) with
        | true =>
          rw [t2] at cL2 hbg
          rw [hbg]
          clear hbg t0 t1 t2 cL1
          go_enter Try.func8, Try.ntmps8
          go_wp2_with fail
          refine c0.mono ?_
          rintro e w1 ⟨rfl, rfl⟩
          go_wp2_with fail
          refine c1.mono ?_
          rintro e w1 ⟨rfl, rfl⟩
          go_wp2_with fail
          refine c2.mono ?_
          rintro e w1 ⟨rfl, rfl⟩
          go_wp2_with fail
          refine cL2.mono ?_
          rintro e w1 ⟨rfl, rfl⟩
          go_wp2
          go_ret2
          exact ⟨rfl, rfl⟩
        | false =>
          rw [t2] at cL2 hbg
          rw [hbg]
          clear hbg t0 t1 t2 cL1
          go_enter Try.func8, Try.ntmps8
          go_wp2_with fail
          refine c0.mono ?_
          rintro e w1 ⟨rfl, rfl⟩
          go_wp2_with fail
          refine c1.mono ?_
          rintro e w1 ⟨rfl, rfl⟩
          go_wp2_with fail
          refine c2.mono ?_
          rintro e w1 ⟨rfl, rfl⟩
          go_wp2_with fail
          refine cL2.mono ?_
          rintro e w1 ⟨rfl, rfl⟩
          go_wp2
          go_ret2
          exact ⟨rfl, rfl⟩
      · rw [decide_eq_false t1] at k1
        simp only [t1, false_and, if_false] at hbg
        cases t2 : letN (at0 l (i + 1)) with
        | true =>
          rw [t2] at cL1 hbg
          rw [hbg]
          clear hbg t0 t1 t2 cL2 c2
          go_enter Try.func8, Try.ntmps8
          go_wp2_with fail
          refine c0.mono ?_
          rintro e w1 ⟨rfl, rfl⟩
          go_wp2_with fail
          refine c1.mono ?_
          rintro e w1 ⟨rfl, rfl⟩
          go_wp2_with fail
          refine c1.mono ?_
          rintro e w1 ⟨rfl, rfl⟩
          go_wp2_with fail
          refine cL1.mono ?_
          rintro e w1 ⟨rfl, rfl⟩
          go_wp2
          go_ret2
          exact ⟨rfl, rfl⟩
        | false =>
          rw [t2] at cL1 hbg
          rw [hbg]
          clear hbg t0 t1 t2 cL2 c2
          go_enter Try.func8, Try.ntmps8
          go_wp2_with fail
          refine c0.mono ?_
          rintro e w1 ⟨rfl, rfl⟩
          go_wp2_with fail
          refine c1.mono ?_
          rintro e w1 ⟨rfl, rfl⟩
          go_wp2_with fail
          refine c1.mono ?_
          rintro e w1 ⟨rfl, rfl⟩
          go_wp2_with fail
          refine cL1.mono ?_
          rintro e w1 ⟨rfl, rfl⟩
          go_wp2
          go_ret2
          exact ⟨rfl, rfl⟩
    · rw [if_neg t0] at hbg
      rw [decide_eq_false t0] at k0
      have e0 : (Y0 != 60) = true := by simp only [bne, k0]; rfl
      rw [hbg]
      clear hbg t0
      go_enter Try.func8, Try.ntmps8
      go_wp2_with fail
      refine c0.mono ?_
      rintro e w1 ⟨rfl, rfl⟩
      go_wp2
      go_ret2
      exact ⟨rfl, rfl⟩
  · have e : lk l x = -1 := if_neg h
    have hb : bgAt l x = 0 := if_neg h
    rw [hb]
    rw [e] at c0
    clear e hb
    go_enter Try.func8, Try.ntmps8
    go_wp2_with fail
    refine c0.mono ?_
    rintro e w1 ⟨rfl, rfl⟩
    go_wp2
    go_ret2
    exact ⟨rfl, rfl⟩


end Go.Proofs.Ytplngoikjfimaaa
