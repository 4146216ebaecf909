/- The program's find and Get, walked: the library's IndexFunc with the closure that holds a name against another one. -/
import Derived.Test.YtnnidajflnandaaAtRGet
namespace Go.Proofs.Ytnnidajflnandaa.At
open Go.RowKit Go.Lib

set_option maxHeartbeats 1000000 in
theorem is_any (x : At) (n : Str) (p : Nat) (w : World) (hp : w.cell? ⟨p, 0, none⟩ = some (.string ⟨n.toArray⟩)) :
    Calls Try.prog 56 #[.agg #[.string ⟨x.1.toArray⟩, .string ⟨x.2.toArray⟩], .pointer (some ⟨p, 0, none⟩)] w fun e w' => e = .returned (.bool (x.1 == n)) ∧ Below w.heap.size w w' := by
  have hlt : p < w.heap.size := World.block_lt_of_cell? w _ hp
  obtain ⟨x1, x2⟩ := x
  simp only
  go_enter Try.func56, Try.ntmps56
  go_wp2
  go_ret
  exact ⟨rfl, below_alloc _⟩

set_option maxHeartbeats 1000000 in
set_option maxRecDepth 100000 in
theorem index_any (L : List At) (a : Option Addr) (cap : Nat) (n : Str) (p : Nat) (w : World) (hs : Sl L a cap w) (hl : L.length ≤ 1000000) (hp : w.cell? ⟨p, 0, none⟩ = some (.string ⟨n.toArray⟩)) :
    Calls Try.prog 55 #[.slice a L.length cap, .func (.func 56) #[] #[.pointer (some ⟨p, 0, none⟩)]] w fun e w' => e = .returned (.int .i64 (place L n)) ∧ Below w.heap.size w w' := by
  have hlt0 : p < w.heap.size := World.block_lt_of_cell? w _ hp
  go_enter Try.func55, Try.ntmps55
  go_wp2
  go_loopw [8] (fun v wr => ∃ k : Nat, v = .int .i64 k ∧ k ≤ L.length ∧ (∀ j, j < k → (at0 L j).1 ≠ n) ∧ Below w.heap.size w wr) (fun v _ => L.length - (RowKit.intOf v).toNat)
  case atStart => exact ⟨0, rfl, by omega, fun j hj => absurd hj (by omega), Below.refl _ _⟩
  case round =>
    obtain ⟨k, rfl, hk, hah, hbw⟩ := hrel
    have HA := Lib.hid hah
    have HB := Lib.hid hbw
    have hp' : wr.cell? ⟨p, 0, none⟩ = some (.string ⟨n.toArray⟩) := (World.cell?_of_block (hbw.block p hlt0)).trans hp
    have hs' := hs.below hbw
    clear hah hbw hs hp
    by_cases hlt : k < L.length
    · obtain ⟨hcap, hnil, h0 | ⟨b, off, rfl, hc⟩⟩ := hs'
      · subst h0; simp at hlt
      · obtain ⟨c1, c2⟩ := hc k hlt
        have h1 : (k : Int) < (L.length : Int) := by omega
        have cI := is_any (at0 L k) n p wr hp'
        clear hnil hc hp'
        cases he : ((at0 L k).1 == n)
        · have hne : (at0 L k).1 ≠ n := by simpa using he
          have HA2 := Lib.hid (ahead_succ HA.out hne)
          rw [he] at cI
          clear hne he
          go_wp2_with fail
          refine cI.mono ?_
          rintro e w2 ⟨rfl, hb2⟩
          have HB2 := Lib.hid (HB.out.trans (hb2.mono HB.out.size))
          clear hb2
          go_wp2
          go_roundw
          case rel => exact ⟨k + 1, by go_num, by omega, HA2.out, HB2.out⟩
          case measure => simp [RowKit.intOf]; omega
        · have hq : (at0 L k).1 = n := by simpa using he
          have HG := Lib.hid (ix_at HA.out hlt hq)
          rw [he] at cI
          clear hq he
          go_wp2_with fail
          refine cI.mono ?_
          rintro e w2 ⟨rfl, hb2⟩
          have HB2 := Lib.hid (HB.out.trans (hb2.mono HB.out.size))
          clear hb2
          go_wp2
          go_ret
          refine ⟨?_, HB2.out⟩
          unfold place
          rw [HG.out]
          rfl
    · have h1 : ¬ ((k : Int) < (L.length : Int)) := by omega
      have HG := Lib.hid (ix_none (L := L) (n := n) fun j hj => HA.out j (by omega))
      go_wp2
      go_ret
      refine ⟨?_, HB.out⟩
      unfold place
      rw [HG.out]
      rfl

set_option maxHeartbeats 1000000 in
theorem find_any (L : List At) (a : Option Addr) (cap : Nat) (n : Str) (w : World) (hs : Sl L a cap w) (hl : L.length ≤ 1000000) :
    Calls Try.prog 54 #[.slice a L.length cap, .string ⟨n.toArray⟩] w fun e w' => e = .returned (.int .i64 (place L n)) ∧ Below w.heap.size w w' := by
  have hb0 : Below w.heap.size w (w.alloc (.cells #[.string ⟨n.toArray⟩] 9)) := below_alloc _
  have c := index_any L a cap n w.heap.size (w.alloc (.cells #[.string ⟨n.toArray⟩] 9)) (hs.below hb0) hl (by simp)
  have HB0 := Lib.hid hb0
  clear hs hb0
  go_enter Try.func54, Try.ntmps54
  go_wp2_with fail
  refine c.mono ?_
  rintro e w2 ⟨rfl, hb2⟩
  have HB2 := Lib.hid (HB0.out.trans (hb2.mono HB0.out.size))
  clear hb2 HB0
  go_wp2
  go_ret
  exact ⟨rfl, HB2.out⟩

set_option maxHeartbeats 1000000 in
theorem get_any (L : List At) (a : Option Addr) (cap : Nat) (n : Str) (w : World) (hs : Sl L a cap w) (hl : L.length ≤ 1000000) :
    Calls Try.prog 52 #[.slice a L.length cap, .string ⟨n.toArray⟩] w fun e w' => e = .returned (resG (get L n)) ∧ Below w.heap.size w w' := by
  have c := find_any L a cap n w hs hl
  cases hi : ix L n with
  | none =>
    have HG := Lib.hid (get_ix_none hi)
    rw [show place L n = -1 by unfold place; rw [hi]] at c
    clear hs hi
    go_enter Try.func52, Try.ntmps52
    go_wp2_with fail
    refine c.mono ?_
    rintro e w2 ⟨rfl, hb2⟩
    go_wp2
    go_ret2
    rw [HG.out]
    exact ⟨rfl, hb2⟩
  | some k =>
    obtain ⟨hk, -, hg⟩ := ix_some hi
    have HG := Lib.hid hg
    rw [show place L n = (k : Int) by unfold place; rw [hi]] at c
    clear hi hg
    obtain ⟨hcap, hnil, h0 | ⟨b, off, rfl, hc⟩⟩ := hs
    · subst h0; simp at hk
    · have h1 : (k : Int) < (L.length : Int) := by omega
      have h2 : ¬ ((k : Int) < 0) := by omega
      clear hnil
      go_enter Try.func52, Try.ntmps52
      go_wp2_with fail
      refine c.mono ?_
      rintro e w2 ⟨rfl, hb2⟩
      obtain ⟨c1, c2⟩ := hc.below hb2 k hk
      clear hc
      go_wp2
      go_ret2
      rw [HG.out]
      exact ⟨rfl, hb2⟩
end Go.Proofs.Ytnnidajflnandaa.At
