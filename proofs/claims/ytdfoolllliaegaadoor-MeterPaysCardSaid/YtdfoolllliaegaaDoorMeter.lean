/- Contracts of layer 1's functions (New, Left, Spent, Pay): what each returns and what of memory it turns. No condition beyond those in each theorem. -/
import Derived.Test.YtdfoolllliaegaaDoorRows
import Derived.WalkKit
import Derived.ProofKit
import Derived.OpenShut
import Derived.Lib.Hide
namespace Go.Proofs.YtdfoolllliaegaaDoor
open Go.RowKit

/-- A meter lies in block b: l is left, s is spent. -/
structure Met (w : World) (b : Nat) (l s : Int) : Prop where
  c0 : w.cell? ⟨b, 0, none⟩ = some (.int .i64 l)
  c1 : w.cell? ⟨b, 1, none⟩ = some (.int .i64 s)
  f0 : w.frozen? ⟨b, 0, none⟩ = false
  f1 : w.frozen? ⟨b, 1, none⟩ = false
  lt : b < w.heap.size

theorem Met.kept {w w' : World} {b : Nat} {l s : Int} {row : Option Nat} (h : Met w b l s) (hg : w.grownBy w' row) (hne : some b ≠ row) : Met w' b l s :=
  ⟨hg.cell h.c0 hne, hg.cell h.c1 hne, (World.frozen?_of_block (a := ⟨b, 0, none⟩) (hg.block b h.lt hne)).trans h.f0,
    (World.frozen?_of_block (a := ⟨b, 1, none⟩) (hg.block b h.lt hne)).trans h.f1, Nat.lt_of_lt_of_le h.lt hg.size⟩

theorem grown_setCell (w : World) (a : Addr) (u : Value) : w.grownBy (w.setCell a u) (some a.block) :=
  ⟨rfl, rfl, rfl, by simp [World.setCell], fun k _ hk => Below.heap_setCell _ _ _ _ (fun e => hk (by rw [e]))⟩

theorem grown_trans {a b c : World} {row : Option Nat} (h : a.grownBy b row) (k : b.grownBy c row) : a.grownBy c row :=
  ⟨k.os.trans h.os, k.tape.trans h.tape, k.output.trans h.output, Nat.le_trans h.size k.size,
    fun i hi hr => (k.block i (Nat.lt_of_lt_of_le hi h.size) hr).trans (h.block i hi hr)⟩

theorem Below.byNone {B : Nat} {a w w' : World} (h : Below B a w) (hg : w.grownBy w' none) (hB : B ≤ w.heap.size) : Below B a w' :=
  h.grown hg hB (fun _ e => by cases e)
theorem Below.byBlock {B b : Nat} {a w w' : World} (h : Below B a w) (hg : w.grownBy w' (some b)) (hB : B ≤ w.heap.size) (hb : B ≤ b) : Below B a w' :=
  h.grown hg hB (fun _ e => by cases e; exact hb)

set_option maxHeartbeats 400000 in
theorem new_raw (n : Int) (w : World) (h : 0 ≤ n) :
    Calls Tryd.prog 6 #[.int .i64 n] w fun e w' => e = .returned (.pointer (some ⟨w.heap.size, 0, none⟩)) ∧ w.alloc (.cells #[.int .i64 n, .int .i64 0] 46) = w' := by
  go_enter Tryd.func6, Tryd.ntmps6
  go_wp2
  go_ret
  exact ⟨rfl, rfl⟩

/-- What New answers: a new meter. -/
def Born (w : World) (n : Int) (e : Ending) (w' : World) : Prop :=
  e = .returned (.pointer (some ⟨w.heap.size, 0, none⟩)) ∧ Met w' w.heap.size n 0 ∧ w.grownBy w' none

theorem new_any (n : Int) (w : World) (h : 0 ≤ n) : Calls Tryd.prog 6 #[.int .i64 n] w (Born w n) := by
  refine (new_raw n w h).mono ?_
  rintro e w' ⟨rfl, rfl⟩
  refine ⟨rfl, ⟨?_, ?_, ?_, ?_, ?_⟩, World.grownBy_alloc _ _ _⟩
  all_goals simp [go_sem]

set_option maxHeartbeats 400000 in
theorem left_any (b : Nat) (l s : Int) (w : World) (h : Met w b l s) :
    Calls Tryd.prog 14 #[.pointer (some ⟨b, 0, none⟩)] w fun e w' => e = .returned (.int .i64 l) ∧ w = w' := by
  have h0 := h.c0
  go_enter Tryd.func14, Tryd.ntmps14
  go_wp2
  go_ret
  exact ⟨rfl, rfl⟩

set_option maxHeartbeats 400000 in
theorem spent_any (b : Nat) (l s : Int) (w : World) (h : Met w b l s) :
    Calls Tryd.prog 15 #[.pointer (some ⟨b, 0, none⟩)] w fun e w' => e = .returned (.int .i64 s) ∧ w = w' := by
  have h0 := h.c1
  go_enter Tryd.func15, Tryd.ntmps15
  go_wp2
  go_ret
  exact ⟨rfl, rfl⟩

set_option maxHeartbeats 400000 in
theorem pay_raw (b : Nat) (l s n : Int) (w : World) (h0 : w.cell? ⟨b, 0, none⟩ = some (.int .i64 l)) (h1 : w.cell? ⟨b, 1, none⟩ = some (.int .i64 s))
    (f0 : w.frozen? ⟨b, 0, none⟩ = false) (f1 : w.frozen? ⟨b, 1, none⟩ = false) (hn : 0 ≤ n) (hl : n ≤ l) (hs : 0 ≤ s) (hb : l + s ≤ 9223372036854775807) :
    Calls Tryd.prog 9 #[.pointer (some ⟨b, 0, none⟩), .int .i64 n] w fun e w' => e = .returned .nilIface ∧ (w.setCell ⟨b, 0, none⟩ (.int .i64 (l - n))).setCell ⟨b, 1, none⟩ (.int .i64 (s + n)) = w' := by
  go_enter Tryd.func9, Tryd.ntmps9
  go_wp2
  go_ret
  exact ⟨rfl, rfl⟩

set_option maxHeartbeats 400000 in
theorem pay_raw_below (b : Nat) (l s n : Int) (w : World) (h0 : w.cell? ⟨b, 0, none⟩ = some (.int .i64 l)) (h1 : w.cell? ⟨b, 1, none⟩ = some (.int .i64 s))
    (f0 : w.frozen? ⟨b, 0, none⟩ = false) (f1 : w.frozen? ⟨b, 1, none⟩ = false) (hn : n < 0) (hl : 0 ≤ l) (hs : 0 ≤ s) (hb : l + s ≤ 9223372036854775807) :
    Calls Tryd.prog 9 #[.pointer (some ⟨b, 0, none⟩), .int .i64 n] w fun e w' => e = .returned .nilIface ∧ (w.setCell ⟨b, 0, none⟩ (.int .i64 l)).setCell ⟨b, 1, none⟩ (.int .i64 s) = w' := by
  have hn' : ¬ 0 ≤ n := by omega
  go_enter Tryd.func9, Tryd.ntmps9
  go_wp2
  go_ret
  exact ⟨rfl, rfl⟩

/-- What Pay answers where there is enough. -/
def Paid (w : World) (b : Nat) (l s : Int) (e : Ending) (w' : World) : Prop :=
  e = .returned .nilIface ∧ Met w' b l s ∧ w.grownBy w' (some b)

theorem paid_of {w w' : World} {b : Nat} {l s l' s' : Int} {e : Ending} (h : Met w b l s)
    (he : e = .returned .nilIface) (hw : (w.setCell ⟨b, 0, none⟩ (.int .i64 l')).setCell ⟨b, 1, none⟩ (.int .i64 s') = w') : Paid w b l' s' e w' := by
  subst hw
  refine ⟨he, ⟨?_, ?_, ?_, ?_, ?_⟩, ?_⟩
  · rw [World.cell?_setCell_other _ _ _ _ (by simp)]; exact World.cell?_setCell_same _ _ _ h.c0
  · exact World.cell?_setCell_same _ _ _ ((World.cell?_setCell_other _ _ _ _ (by simp)).trans h.c1)
  · simpa using h.f0
  · simpa using h.f1
  · simpa [World.setCell] using h.lt
  · exact grown_trans (grown_setCell _ ⟨b, 0, none⟩ _) (grown_setCell _ ⟨b, 1, none⟩ _)

theorem pay_ok (b : Nat) (l s n : Int) (w : World) (h : Met w b l s) (hn : 0 ≤ n) (hl : n ≤ l) (hs : 0 ≤ s) (hb : l + s ≤ 9223372036854775807) :
    Calls Tryd.prog 9 #[.pointer (some ⟨b, 0, none⟩), .int .i64 n] w (Paid w b (l - n) (s + n)) :=
  (pay_raw b l s n w h.c0 h.c1 h.f0 h.f1 hn hl hs hb).mono fun _ _ ⟨he, hw⟩ => paid_of h he hw

theorem pay_below (b : Nat) (l s n : Int) (w : World) (h : Met w b l s) (hn : n < 0) (hl : 0 ≤ l) (hs : 0 ≤ s) (hb : l + s ≤ 9223372036854775807) :
    Calls Tryd.prog 9 #[.pointer (some ⟨b, 0, none⟩), .int .i64 n] w (Paid w b l s) :=
  (pay_raw_below b l s n w h.c0 h.c1 h.f0 h.f1 hn hl hs hb).mono fun _ _ ⟨he, hw⟩ => paid_of h he hw

set_option maxHeartbeats 400000 in
theorem short_raw (b : Nat) (l n : Int) (w : World) (h0 : w.cell? ⟨b, 0, none⟩ = some (.int .i64 l)) (hn : 0 ≤ n) (hl : l < n) :
    Calls Tryd.prog 9 #[.pointer (some ⟨b, 0, none⟩), .int .i64 n] w fun e w' => e = .returned (.iface 34 (.pointer (some ⟨w.heap.size, 0, none⟩))) ∧ w.alloc (.cells #[.int .i64 n, .int .i64 l] 39) = w' := by
  go_enter Tryd.func9, Tryd.ntmps9
  go_wp2
  go_ret
  exact ⟨rfl, rfl⟩

/-- What Pay answers where there is too little. -/
def Refused (w : World) (n l : Int) (e : Ending) (w' : World) : Prop :=
  e = .returned (.iface 34 (.pointer (some ⟨w.heap.size, 0, none⟩))) ∧ Met w' w.heap.size n l ∧ w.grownBy w' none

theorem pay_short (b : Nat) (l s n : Int) (w : World) (h : Met w b l s) (hn : 0 ≤ n) (hl : l < n) :
    Calls Tryd.prog 9 #[.pointer (some ⟨b, 0, none⟩), .int .i64 n] w (Refused w n l) := by
  refine (short_raw b l n w h.c0 hn hl).mono ?_
  rintro e w' ⟨rfl, rfl⟩
  refine ⟨rfl, ⟨?_, ?_, ?_, ?_, ?_⟩, World.grownBy_alloc _ _ _⟩
  all_goals simp [go_sem]

set_option maxHeartbeats 400000 in
theorem speaks_any (w : World) :
    Calls Tryd.prog 5 #[] w fun e w' => e = .returned (.bool true) ∧ w.grownBy w' none := by
  go_enter Tryd.func5, Tryd.ntmps5
  go_wp2_with fail
  refine (new_any 5 _ (by omega)).mono ?_
  rintro e w1 ⟨rfl, m1, g1⟩
  go_wp2_with fail
  refine (pay_ok _ 5 0 3 _ m1 (by omega) (by omega) (by omega) (by omega)).mono ?_
  rintro e w2 ⟨rfl, m2, g2⟩
  go_wp2_with fail
  refine (left_any _ _ _ _ m2).mono ?_
  rintro e w3 ⟨rfl, rfl⟩
  go_wp2_with fail
  refine (pay_short _ _ _ 3 _ m2 (by omega) (by omega)).mono ?_
  rintro e w4 ⟨rfl, m4, g4⟩
  have m5 := m2.kept g4 (by simp)
  go_wp2_with fail
  refine (left_any _ _ _ _ m5).mono ?_
  rintro e w6 ⟨rfl, rfl⟩
  go_wp2
  go_ret
  refine ⟨rfl, ⟨?_, ?_, ?_, ?_, ?_⟩⟩
  · rw [g4.os, g2.os, g1.os]
  · rw [g4.tape, g2.tape, g1.tape]
  · rw [g4.output, g2.output, g1.output]
  · have := g4.size; have := g2.size; have := g1.size; omega
  · intro k hk _
    have z1 := g1.size
    have z2 := g2.size
    rw [g4.block k (by omega) (by simp), g2.block k (by omega) (by simp; omega), g1.block k hk (by simp)]
end Go.Proofs.YtdfoolllliaegaaDoor
