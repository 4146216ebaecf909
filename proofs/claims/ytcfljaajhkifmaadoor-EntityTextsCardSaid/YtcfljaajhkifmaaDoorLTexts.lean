/- The law EntityTexts, walked. -/
import Derived.Test.YtcfljaajhkifmaaDoorLPrefix
import Derived.Deep.LoopGhost
import Derived.Lib.OthersKept
namespace Go.Proofs.YtcfljaajhkifmaaDoor
open Go.RowKit Go.Lib

/-- where the next character begins -/
def nxt (M : List UInt8) (p : Nat) : Nat := p + (Utf8.decode ⟨M.toArray⟩ p).2

/-- one character, or two -/
def oneTwo (M : List UInt8) : Bool :=
  decide (0 < M.length) && decide (0 < nxt M 0) && (decide (nxt M 0 = M.length) || (decide (nxt M 0 < M.length) && decide (nxt M (nxt M 0) = M.length)))

/-- letters, and a semicolon at the end, perhaps -/
def lettersOk (x : List UInt8) : Bool :=
  (List.range x.length).all fun i => (decide (97 ≤ at0 x i) && decide (at0 x i ≤ 122)) || (decide (65 ≤ at0 x i) && decide (at0 x i ≤ 90)) || (decide (at0 x i = 59) && decide (i + 1 = x.length))

set_option maxRecDepth 100000 in
theorem names_texts : (nameL.all fun x => oneTwo (mean x) && lettersOk x) = true := by decide

theorem texts_of {x : List UInt8} (h : x ∈ nameL) : oneTwo (mean x) = true ∧ ∀ i, i < x.length → ((97 ≤ at0 x i ∧ at0 x i ≤ 122) ∨ (65 ≤ at0 x i ∧ at0 x i ≤ 90)) ∨ (at0 x i = 59 ∧ i + 1 = x.length) := by
  have h1 := List.all_eq_true.1 names_texts x h
  rw [Bool.and_eq_true] at h1
  refine ⟨h1.1, fun i hi => ?_⟩
  have h2 := List.all_eq_true.1 h1.2 i (List.mem_range.2 hi)
  simpa only [Bool.or_eq_true, Bool.and_eq_true, decide_eq_true_eq] using h2

/-- how many characters have been met, and where one stands -/
def St (M : List UInt8) (pos many : Nat) : Prop := (pos = 0 ∧ many = 0) ∨ (pos = nxt M 0 ∧ many = 1) ∨ (pos = M.length ∧ many = 2)

theorem St.step {M : List UInt8} {pos many : Nat} (h : oneTwo M = true) (hs : St M pos many) (hp : pos < M.length) : St M (nxt M pos) (many + 1) ∧ pos < nxt M pos ∧ many ≤ 1 := by
  unfold oneTwo at h
  simp only [Bool.and_eq_true, Bool.or_eq_true, decide_eq_true_eq] at h
  obtain ⟨⟨h0, h1⟩, h2⟩ := h
  rcases hs with ⟨rfl, rfl⟩ | ⟨rfl, rfl⟩ | ⟨rfl, rfl⟩
  · exact ⟨Or.inr (Or.inl ⟨rfl, rfl⟩), h1, by omega⟩
  · rcases h2 with h2 | ⟨h2, h3⟩
    · omega
    · exact ⟨Or.inr (Or.inr ⟨h3, rfl⟩), by omega, by omega⟩
  · omega

theorem St.fin {M : List UInt8} {pos many : Nat} (h : oneTwo M = true) (hs : St M pos many) (hp : ¬ pos < M.length) : 1 ≤ many ∧ many ≤ 2 := by
  unfold oneTwo at h
  simp only [Bool.and_eq_true, Bool.or_eq_true, decide_eq_true_eq] at h
  obtain ⟨⟨h0, h1⟩, h2⟩ := h
  rcases hs with ⟨rfl, rfl⟩ | ⟨rfl, rfl⟩ | ⟨rfl, rfl⟩ <;> omega

def TRel (M : List UInt8) (w : World) (v7 : Value) (gf : Nat) (wr : World) : Prop :=
  ∃ pos many : Nat, v7 = .int .i64 many ∧ wr.heap[w.heap.size]? = some (.stringIter ⟨M.toArray⟩ pos) ∧ Below w.heap.size w wr ∧ St M pos many ∧ M.length ≤ pos + gf

def TRel2 (x : List UInt8) (w : World) (v50 : Value) (wr : World) : Prop := ∃ i : Nat, v50 = .int .i64 i ∧ i ≤ x.length ∧ wr = w

theorem below_two {w w1 w2 : World} (h : Below w.heap.size w w1) (h2 : Below w1.heap.size w1 w2) : Below w.heap.size w w2 := h.trans (h2.mono h.size)

set_option maxHeartbeats 4000000 in
set_option maxRecDepth 100000 in
theorem entityTexts_walk (k : Nat) (w : World) (hk : k < 65536) (ht : Lib.TabIs Tryd.prog w "strings.asciiSpace" .u8 Lib.asciiSpaceTab) :
    Calls Tryd.prog 5 #[.int .u16 (k : Int)] w fun e w' => e = .returned (.bool true) ∧ Below w.heap.size w w' := by
  obtain ⟨N, hN, hN61⟩ : ∃ N : Nat, (k : Int) % 61 = (N : Int) ∧ N < 61 := ⟨k % 61, by omega, by omega⟩
  go_enter Tryd.func5, Tryd.ntmps5
  go_wp2_with fail
  refine (speaks_any w).mono ?_
  rintro e w1 ⟨rfl, rfl⟩
  go_wp2_with fail
  refine (names_any w ht).mono ?_
  rintro e w1 ⟨g, cap, rfl, hown, hbw⟩
  have hcell := name_cell hown N hN61
  have hmem := name_at N hN61
  clear hown ht
  generalize nameL.getD N [] = x at hcell hmem
  obtain ⟨f1, -, f3, f4⟩ := name_facts hmem
  obtain ⟨g1, g2⟩ := texts_of hmem
  have c2 := find_any x w1 (by omega)
  rw [f1] at c2
  clear f1 hmem
  generalize mean x = M at c2 g1
  simp only at c2
  have G1 := Lib.hid g1
  have G2 := Lib.hid g2
  clear g1 g2
  have HBW := Lib.hid hbw
  clear hbw
  go_wp2_with fail
  refine c2.mono ?_
  rintro e w2 ⟨rfl, rfl⟩
  clear c2 hcell
  go_wp2
  go_loopg [7] M.length (fun gf v7 wx => TRel M w1 v7 gf wx)
  case atStart => exact ⟨0, 0, rfl, World.iter_heap w1 _ 0, (Below.refl _ w1).alloc (Nat.le_refl _) _, Or.inl ⟨rfl, rfl⟩, by omega⟩
  case round =>
    obtain ⟨pos, many, rfl, hit, hb1, hst, hfu⟩ := hrel
    have HST := Lib.hid hst
    clear hst
    by_cases hps : pos < M.length
    · obtain ⟨g', rfl⟩ : ∃ g', gk = g' + 1 := ⟨gk - 1, by omega⟩
      have hnx : ∀ ty, (Instr.next (.pointer (some ⟨w1.heap.size, 0, none⟩)) true ty).run Tryd.prog wr = _ := fun ty => Lib.run_next_any_at wr w1.heap.size ⟨M.toArray⟩ pos ty hit (by rw [str_size]; exact hps)
      obtain ⟨s1, s2, s3⟩ := HST.out.step G1.out hps
      have S1 := Lib.hid s1
      clear s1
      have hit2 := Lib.iterAt_heap wr w1.heap.size ⟨M.toArray⟩ pos (nxt M pos) hit
      have hbw2 := Lib.below_iterAt hb1 (k := w1.heap.size) (Nat.le_refl _) ⟨M.toArray⟩ (nxt M pos)
      obtain ⟨V, hV⟩ : ∃ V, wr.iterAt w1.heap.size ⟨M.toArray⟩ (nxt M pos) = V := ⟨_, rfl⟩
      rw [show pos + (Utf8.decode ⟨M.toArray⟩ pos).2 = nxt M pos from rfl, hV] at hnx
      rw [hV] at hit2 hbw2
      clear hV
      obtain ⟨R, hR⟩ : ∃ R, (Utf8.decode ⟨M.toArray⟩ pos).1 = R := ⟨_, rfl⟩
      rw [hR] at hnx
      clear hR
      go_wp2
      go_roundg g'
      case measure => omega
      case rel => exact ⟨nxt M pos, many + 1, by go_num, hit2, hbw2, S1.out, by omega⟩
    · have hnx : ∀ ty, (Instr.next (.pointer (some ⟨w1.heap.size, 0, none⟩)) true ty).run Tryd.prog wr = _ := fun ty => Lib.run_next_end_at wr w1.heap.size _ pos ty hit (by rw [str_size]; exact hps)
      obtain ⟨m1, m2⟩ := HST.out.fin G1.out hps
      have m1' : ¬ ((many : Int) < 1) := by omega
      have m2' : ¬ ((2 : Int) < (many : Int)) := by omega
      go_wp2
      clear hnx hit m1 m2 hfu HST G1
      have HB := Lib.hid (below_two HBW.out hb1)
      clear hb1 HBW
      go_loopw [50] (fun v50 wx => TRel2 x wr v50 wx) (fun v50 _ => ((x.length : Int) - RowKit.intOf v50).toNat)
      case atStart => exact ⟨0, rfl, by omega, rfl⟩
      case round =>
        obtain ⟨i, rfl, hix, rfl⟩ := hrel
        by_cases hi : i < x.length
        · have hi' : (i : Int) < (x.length : Int) := by omega
          have hc := idx_str x i (by rw [str_size]; exact hi)
          rcases G2.out i hi with (⟨q1, q2⟩ | ⟨q1, q2⟩) | ⟨q1, q2⟩
          · generalize at0 x i = c at hc q1 q2
            have q1' : (97 : Int) ≤ (c : Int) := by omega
            have q2' : (c : Int) ≤ 122 := by omega
            go_wp2
            go_roundw
            case rel => exact ⟨i + 1, by go_num, by omega, rfl⟩
            case measure => simp [RowKit.intOf]; omega
          · generalize at0 x i = c at hc q1 q2
            have q0' : ¬ ((97 : Int) ≤ (c : Int)) := by omega
            have q1' : (65 : Int) ≤ (c : Int) := by omega
            have q2' : (c : Int) ≤ 90 := by omega
            go_wp2
            go_roundw
            case rel => exact ⟨i + 1, by go_num, by omega, rfl⟩
            case measure => simp [RowKit.intOf]; omega
          · rw [q1] at hc
            have q4 : ((i : Int) == (x.length : Int) - 1) = true := by simp; omega
            have Q2 := Lib.hid q2
            clear q1 q2
            go_wp2
            go_roundw
            case rel => exact ⟨i + 1, by go_num, by omega, rfl⟩
            case measure => simp [RowKit.intOf]; omega
        · have hi' : ¬ ((i : Int) < (x.length : Int)) := by omega
          have h2 : (2 : Int) ≤ (x.length : Int) := by omega
          go_wp2
          go_ret
          exact ⟨rfl, HB.out⟩

end Go.Proofs.YtcfljaajhkifmaaDoor
