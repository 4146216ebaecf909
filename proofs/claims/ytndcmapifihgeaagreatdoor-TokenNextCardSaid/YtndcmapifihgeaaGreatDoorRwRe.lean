/- Kinds of characters: the functions of class, and of the reference, that take one character. -/
import Derived.Test.YtndcmapifihgeaaGreatDoorRwRw
import Derived.Test.YtndcmapifihgeaaGreatDoorProg
import Derived.WalkKit
import Derived.WalkLawsBesides
import Derived.Lib.Hide
import Derived.Laws.OwnMore
import Derived.Laws.BytesArg
import Derived.LoopTactic
import Derived.Below
import Derived.OwnWalk
import Derived.Carry
import Derived.Lib.SlBytesConst
import Derived.Deep.Upon
import Derived.Lib.AppendStr
import Derived.Maps.AppendAt
import Derived.Lib.AppendZeros
import Derived.Laws.IdiomStrings
import Derived.Laws.AppendOwn
import Derived.BigQuiet
import Derived.Deep.QuietTactic
namespace Go.Proofs.YtndcmapifihgeaaGreatDoor.Rw
open Go.RowKit Go.Lib

def blankZ (x : Int) : Bool := x == 9 || x == 10 || x == 12 || x == 32
def greatZ (x : Int) : Bool := decide (65 ≤ x) && decide (x ≤ 90)
def smallZ (x : Int) : Bool := decide (97 ≤ x) && decide (x ≤ 122)
def digitZ (x : Int) : Bool := decide (48 ≤ x) && decide (x ≤ 57)
def lowerZ (x : Int) : Int := if greatZ x then x + 32 else x

theorem blankZ_nat (n : Nat) : blankZ (n : Int) = blankN n := by
  unfold blankZ blankN
  rw [Bool.eq_iff_iff]; simp only [Bool.or_eq_true, beq_iff_eq]
  omega
theorem greatZ_nat (n : Nat) : greatZ (n : Int) = greatN n := by
  unfold greatZ greatN
  rw [Bool.eq_iff_iff]; simp only [Bool.and_eq_true, decide_eq_true_eq]
  omega
theorem smallZ_nat (n : Nat) : smallZ (n : Int) = smallN n := by
  unfold smallZ smallN
  rw [Bool.eq_iff_iff]; simp only [Bool.and_eq_true, decide_eq_true_eq]
  omega
theorem digitZ_nat (n : Nat) : digitZ (n : Int) = digitN n := by
  unfold digitZ digitN
  rw [Bool.eq_iff_iff]; simp only [Bool.and_eq_true, decide_eq_true_eq]
  omega

set_option maxHeartbeats 400000 in
theorem great_any (x : Int) (w : World) :
    Calls Tryz.prog 100 #[.int .i32 x] w fun e w' => e = .returned (.bool (greatZ x)) ∧ w = w' := by
  unfold greatZ
  cases h1 : decide (65 ≤ x) <;> cases h2 : decide (x ≤ 90)
  all_goals (go_enter Tryz.func100, Tryz.ntmps100; go_wp2; go_ret; exact ⟨rfl, rfl⟩)

set_option maxHeartbeats 400000 in
theorem lower_any (x : Int) (w : World) :
    Calls Tryz.prog 91 #[.int .i32 x] w fun e w' => e = .returned (.int .i32 (lowerZ x)) ∧ w = w' := by
  have hG := great_any x w
  unfold lowerZ
  cases h : greatZ x
  · rw [h] at hG
    go_enter Tryz.func91, Tryz.ntmps91
    go_wp2_with fail
    refine hG.mono ?_
    rintro e w' ⟨rfl, rfl⟩
    go_wp2
    go_ret
    exact ⟨rfl, rfl⟩
  · rw [h] at hG
    simp [greatZ] at h
    have e : x + 32 = x - 65 + 97 := by omega
    rw [if_pos rfl, e]
    clear e
    go_enter Tryz.func91, Tryz.ntmps91
    go_wp2_with fail
    refine hG.mono ?_
    rintro e w' ⟨rfl, rfl⟩
    go_wp2
    go_ret
    exact ⟨rfl, rfl⟩

theorem lowerZ_nat (b : UInt8) : lowerZ (b.toNat : Int) = ((lowB b).toNat : Int) := by
  rw [lowB_toNat]
  unfold lowerZ
  rw [greatZ_nat]
  split <;> simp
end Go.Proofs.YtndcmapifihgeaaGreatDoor.Rw

/- A text's bytes. -/
namespace Go.Proofs.YtndcmapifihgeaaGreatDoor.Rw
open Go.RowKit Go.Lib

theorem str_size (l : List UInt8) : (⟨l.toArray⟩ : ByteArray).size = l.length := by simp [ByteArray.size]

theorem ret_str {l m : List UInt8} (h : l = m) : Ending.returned (.string ⟨l.toArray⟩) = .returned (.string ⟨m.toArray⟩) := by rw [h]

theorem low_at {l : List UInt8} {i : Nat} (h : i < l.length) : lowerZ (at0 l i : Int) % 256 = ((lowB l[i]).toNat : Int) := by
  rw [getD_at0 h, lowerZ_nat]
  have := UInt8.toNat_lt (lowB l[i])
  omega

end Go.Proofs.YtndcmapifihgeaaGreatDoor.Rw

/- Slices of bytes. -/
namespace Go.Proofs.YtndcmapifihgeaaGreatDoor.Rw
open Go.RowKit Go.Lib

variable {l : List UInt8} {a : Option Addr} {cap i : Nat} {w w' : World}

theorem ret_bool {a b : Bool} (h : a = b) : Ending.returned (.bool a) = .returned (.bool b) := by rw [h]
theorem ret_int {k : IntKind} {a b : Int} (h : a = b) : Ending.returned (.int k a) = .returned (.int k b) := by rw [h]

/-- what the cells of a slice of bytes hold -/
def Cells (l : List UInt8) (b off : Nat) (w : World) : Prop := ∀ j, j < l.length → w.cell? ⟨b, off + j, none⟩ = some (.int .u8 ((at0 l j : Nat) : Int))

theorem cell_lt {a : Addr} {v : Value} (hc : w.cell? a = some v) : a.block < w.heap.size := by
  rcases Nat.lt_or_ge a.block w.heap.size with h' | h'
  · exact h'
  · simp [World.cell?, Array.getElem?_eq_none h'] at hc

theorem Cells.below {b off : Nat} (h : Cells l b off w) (hb : Below w.heap.size w w') : Cells l b off w' :=
  fun j hj => (hb.cell (cell_lt (h j hj))).trans (h j hj)

theorem Cells.drop {b off : Nat} (h : Cells l b off w) (i : Nat) : Cells (l.drop i) b (off + i) w := by
  intro j hj
  simp only [List.length_drop] at hj
  rw [Nat.add_assoc, at0_drop]
  exact h (i + j) (by omega)

theorem at0_take {n j : Nat} (h : j < n) : at0 (l.take n) j = at0 l j := by
  unfold at0
  rw [List.getD_eq_getElem?_getD, List.getD_eq_getElem?_getD, List.getElem?_take, if_pos h]

theorem Cells.take {b off : Nat} (h : Cells l b off w) (n : Nat) : Cells (l.take n) b off w := by
  intro j hj
  simp only [List.length_take] at hj
  rw [at0_take (by omega)]
  exact h j (by omega)

/-- a slice of bytes, nil or not: its bytes are the list's -/
def Sl (l : List UInt8) (a : Option Addr) (cap : Nat) (w : World) : Prop := l.length ≤ cap ∧ (l = [] ∨ ∃ b off, a = some ⟨b, off, none⟩ ∧ Cells l b off w)

theorem Sl.below (h : Sl l a cap w) (hb : Below w.heap.size w w') : Sl l a cap w' := by
  obtain ⟨h1, h2 | ⟨b, off, rfl, hc⟩⟩ := h
  · exact ⟨h1, Or.inl h2⟩
  · exact ⟨h1, Or.inr ⟨b, off, rfl, hc.below hb⟩⟩

theorem string_cells {t : List UInt8} {b off n cap : Nat} {w : World} (hc : Cells t b off w) (hn : t.length = n) :
    (convert 22 9 (.slice (some ⟨b, off, none⟩) n cap)).run Tryz.prog w = .ok (.string ⟨t.toArray⟩) w := by
  subst hn
  refine run_convert_bytes_back w 22 9 5 ⟨b, off, none⟩ cap t Tryz.underlying22 Tryz.underlying5 Tryz.underlying9 fun j hj => ?_
  have := hc j hj
  have e : (⟨b, off, none⟩ : Addr).add j = ⟨b, off + j, none⟩ := by unfold Addr.add; split <;> simp_all
  rw [e, this]
  simp [at0, List.getD_eq_getElem?_getD, List.getElem?_eq_getElem hj]

end Go.Proofs.YtndcmapifihgeaaGreatDoor.Rw

/- A constant as a slice of bytes. -/
namespace Go.Proofs.YtndcmapifihgeaaGreatDoor.Rw
open Go.RowKit Go.Lib

variable {l m : List UInt8} {a : Option Addr} {cap i b off : Nat} {w w' : World}

/-- a list's bytes, as cells -/
def cellsB (l : List UInt8) : List Value := l.map fun b => .int .u8 (b.toNat : Int)

theorem row_cell' (w : World) (t : TypeId) (i : Nat) (v : Value) (cs : Array Value) (fr : Nat × Nat) (h : cs[i]? = some v) : (w.alloc (.cells cs t fr)).cell? ⟨w.heap.size, i, none⟩ = some v := by
  simp [World.cell?, World.alloc, -World.alloc_eq]
  exact h

theorem cellsB_at {l : List UInt8} {j : Nat} (hj : j < l.length) : (cellsB l)[j]? = some (.int .u8 ((at0 l j : Nat) : Int)) := by
  simp [cellsB, at0, List.getD_eq_getElem?_getD, List.getElem?_eq_getElem hj]

/-- a constant as a slice of bytes: a new row with its mark -/
theorem sl_const (l : List UInt8) (w : World) (cs : Array Value) (n : Nat) (h : cs = (cellsB l).toArray) (hn : l.length = n) :
    Cells l w.heap.size 0 (w.alloc (.cells cs 5 (n, n + 1))) ∧ Below w.heap.size w (w.alloc (.cells cs 5 (n, n + 1))) ∧ (w.alloc (.cells cs 5 (n, n + 1))).heap.size = w.heap.size + 1 ∧
      (convert 22 22 (.slice (some ⟨w.heap.size, 0, none⟩) n n)).run Tryz.prog (w.alloc (.cells cs 5)) = .ok (.slice (some ⟨w.heap.size, 0, none⟩) n n) (w.alloc (.cells cs 5 (n, n + 1))) := by
  have hsz : cs.size = n := by rw [h, ← hn]; simp [cellsB]
  refine ⟨fun j hj => ?_, (Below.refl _ w).alloc (Nat.le_refl _) _, by simp, ?_⟩
  · rw [Nat.zero_add]
    apply row_cell'
    rw [h, List.getElem?_toArray]
    exact cellsB_at hj
  · have := Lib.run_convert_bytes_const (P := Tryz.prog) w 22 5 cs n n Tryz.underlying22 Tryz.underlying5
    rw [hsz] at this
    exact this

end Go.Proofs.YtndcmapifihgeaaGreatDoor.Rw

/- Rows of bytes of the call's own, out of a constant, and what is appended to them. -/
namespace Go.Proofs.YtndcmapifihgeaaGreatDoor.Rw
open Go.RowKit Go.Lib

variable {w w' : World}

theorem info5 : ∃ j, Tryz.prog.info? 5 = some j ∧ (j.zero, j.size, j.bytes) = (some (.int .u8 0), 1, 1) :=
  Option.map_eq_some_iff.1 (by kernel_rfl : (Tryz.prog.info? 5).map (fun i => (i.zero, i.size, i.bytes)) = some (some (.int .u8 0), 1, 1))

theorem addr_add0 (g j : Nat) : (⟨g, 0, none⟩ : Addr).add j = ⟨g, j, none⟩ := by unfold Addr.add; split <;> simp_all
theorem addr_add (b o j : Nat) : (⟨b, o, none⟩ : Addr).add j = ⟨b, o + j, none⟩ := by unfold Addr.add; split <;> simp_all

theorem cellsB_length (l : List UInt8) : (cellsB l).length = l.length := List.length_map _
theorem cellsB_append (l m : List UInt8) : cellsB (l ++ m) = cellsB l ++ cellsB m := List.map_append
theorem cellsB_str (l : List UInt8) : strCells ⟨l.toArray⟩ = cellsB l := rfl
theorem cellsB_one (l : List UInt8) : ∀ u ∈ cellsB l, u.oneCell' = true := by
  intro u hu
  obtain ⟨_, _, rfl⟩ := List.mem_map.1 hu
  rfl
theorem Cells.news {l : List UInt8} {b off : Nat} (h : Cells l b off w) : ∀ (j : Nat) (u : Value), (cellsB l)[j]? = some u → w.cell? ((⟨b, off, none⟩ : Addr).add j) = some u := by
  intro j u hu
  have hj : j < l.length := by
    rcases Nat.lt_or_ge j l.length with h' | h'
    · exact h'
    · rw [List.getElem?_eq_none (by rw [cellsB_length]; exact h')] at hu; cases hu
  rw [cellsB_at hj] at hu
  rw [addr_add, h j hj, hu]

/-- a constant's row has no room: what is appended makes a new one -/
theorem grow_src (tx : TypeId) (s t : List UInt8) (g : Nat) (x : Value) (w : World) (hs : Src Tryz.prog 1 tx x t.length (cellsB t) w) (hc : Cells s g 0 w) (ht : 0 < t.length) (hlen : s.length + t.length ≤ 100000) :
    ∃ v' w', (Builtin.append_ #[22, tx] 22 #[.slice (some ⟨g, 0, none⟩) s.length s.length, x]).run Tryz.prog w = .ok v' w' ∧ w'.ownsRow w.heap.size 5 1 v' (s ++ t).length (cellsB (s ++ t)) ∧ w.grownBy w' none := by
  obtain ⟨i5, hi5, hp5⟩ := info5
  simp only [Prod.mk.injEq] at hp5
  obtain ⟨hz5, hsz5, hby5⟩ := hp5
  have hold := run_firstCells_some (P := Tryz.prog) w.drew i5.size s.length ⟨g, 0, none⟩ s.length s.length (cellsB s) (by rw [cellsB_length, hsz5, Nat.mul_one]) (by simpa using hc.news)
  have hge := grownCap_ge w (s.length + t.length) s.length 5
  have hcm : grownCap w (s.length + t.length) s.length 5 ≤ maxLen := grownCap_le_maxLen w (s.length + t.length) s.length 5 (by unfold maxLen; omega)
  have hr := run_append_grow_src (P := Tryz.prog) w 22 tx 22 5 i5 (.int .u8 0) Tryz.underlying22 hi5 hz5 (some ⟨g, 0, none⟩) s.length s.length (cellsB s) hold x t.length (cellsB t) (by rw [hsz5]; exact hs) (by omega) (by omega) (by rw [hby5]; exact growslice_fits (by omega) (by omega))
  have hl : (cellsB s ++ cellsB t).length = s.length + t.length := by rw [List.length_append, cellsB_length, cellsB_length]
  refine ⟨_, _, hr, ⟨by rw [cellsB_length, Nat.mul_one], .inr ⟨w.heap.size, _, _, by rw [List.length_append], Nat.le_refl _, heap_alloc_new w.drew _, by rw [List.length_append]; exact hge, hcm, ?_, ?_⟩⟩, ⟨rfl, rfl, rfl, by simp, fun k hk _ => Below.heap_alloc w.drew _ k hk⟩⟩
  · rw [Array.size_append, List.size_toArray, size_zeroCells, hl]
    simp only [Value.cells, List.size_toArray, List.length_cons, List.length_nil]
    omega
  · rw [Array.toList_append, List.length_append, Nat.mul_one, ← hl, cellsB_append]
    exact List.take_left

/-- a row of bytes of the call's own: a constant's, or one that was made -/
def Mine (s : List UInt8) (B : Nat) (v : Value) (w : World) : Prop :=
  w.ownsRow B 5 1 v s.length (cellsB s) ∨ ∃ g, v = .slice (some ⟨g, 0, none⟩) s.length s.length ∧ Cells s g 0 w ∧ B ≤ g

theorem grown_of {w w' : World} (h : Below w.heap.size w w') : w.grownBy w' none := ⟨h.os, h.tape, h.output, h.size, fun k hk _ => h.block k hk⟩
theorem ownsRow_below {base : Nat} {e : TypeId} {size : Nat} {v : Value} {n : Nat} {xs : List Value} (h : w.ownsRow base e size v n xs) (hb : Below w.heap.size w w') : w'.ownsRow base e size v n xs := by
  refine h.kept (grown_of hb) ?_
  cases v.ownBlock with
  | none => exact Or.inl rfl
  | some g => exact Or.inr (by simp)
theorem Mine.below {s : List UInt8} {B : Nat} {v : Value} (h : Mine s B v w) (hb : Below w.heap.size w w') : Mine s B v w' := by
  rcases h with h | ⟨g, hv, hc, hB⟩
  · exact Or.inl (ownsRow_below h hb)
  · exact Or.inr ⟨g, hv, hc.below hb, hB⟩

/-- as a slice -/
theorem Mine.sl {s : List UInt8} {B : Nat} {v : Value} (h : Mine s B v w) : ∃ a cap, v = .slice a s.length cap ∧ Sl s a cap w := by
  rcases h with h | ⟨g, hv, hc, hB⟩
  · rcases h.2 with ⟨hv, h0⟩ | ⟨g, cap, cur, hv, hg, hh, hn, r⟩
    · obtain rfl : s = [] := List.eq_nil_of_length_eq_zero h0
      exact ⟨none, 0, hv, Nat.zero_le _, Or.inl rfl⟩
    · refine ⟨some ⟨g, 0, none⟩, cap, hv, hn, Or.inr ⟨g, 0, rfl, fun j hj => ?_⟩⟩
      have := h.cells (g := g) (by rw [hv]; rfl) j _ (cellsB_at hj)
      rw [addr_add0] at this
      rw [Nat.zero_add]
      exact this
  · exact ⟨_, _, hv, Nat.le_refl _, Or.inr ⟨g, 0, rfl, hc⟩⟩

theorem below_grown {w0 : World} (hb : Below w0.heap.size w0 w) {r : Option Nat} (hg : w.grownBy w' r) (hr : ∀ k, r = some k → w0.heap.size ≤ k) : Below w0.heap.size w0 w' :=
  hb.grown hg hb.size hr

/-- bytes behind it -/
theorem Mine.slice {s t : List UInt8} {v : Value} {w0 : World} (h : Mine s w0.heap.size v w) (hb : Below w0.heap.size w0 w) (b off c : Nat) (ht : 0 < t.length) (hc : Cells t b off w) (hlen : s.length + t.length ≤ 100000) :
    ∃ v' w', (Builtin.append_ #[22, 22] 22 #[v, .slice (some ⟨b, off, none⟩) t.length c]).run Tryz.prog w = .ok v' w' ∧ Mine (s ++ t) w0.heap.size v' w' ∧ Below w0.heap.size w0 w' := by
  have hsz := hb.size
  rcases h with h | ⟨g, rfl, hcs, hB⟩
  · obtain ⟨i5, hi5, hp5⟩ := info5
    simp only [Prod.mk.injEq] at hp5
    obtain ⟨hz5, hsz5, hby5⟩ := hp5
    obtain ⟨v', w', hr, h2, h3, _, h5⟩ := run_append_own_at (P := Tryz.prog) w w0.heap.size 22 22 5 i5 (.int .u8 0) 1 1 Tryz.underlying22 hi5 hz5 hsz5 hby5 rfl (by decide) v s.length (cellsB s) h ⟨b, off, none⟩ t.length c (cellsB t) (by rw [cellsB_length, Nat.mul_one]) hc.news (cellsB_one t) (by unfold maxLen; omega) (by omega) hsz
    refine ⟨v', w', hr, Or.inl (by rw [List.length_append, cellsB_append]; exact h2), below_grown hb h3 (fun k hk => (h.lt k hk).1)⟩
  · obtain ⟨v', w', hr, h2, h3⟩ := grow_src 22 s t g _ w (Src.ofSlice w Tryz.underlying22 ⟨b, off, none⟩ t.length c (cellsB t) (by rw [cellsB_length, Nat.mul_one]) hc.news (cellsB_one t)) hcs ht hlen
    refine ⟨v', w', hr, Or.inl ⟨h2.1, ?_⟩, below_grown hb h3 (fun k hk => by cases hk)⟩
    rcases h2.2 with k | ⟨g', cap, cur, hv, hg, r⟩
    · exact Or.inl k
    · exact Or.inr ⟨g', cap, cur, hv, by omega, r⟩

theorem Mine.str {s : List UInt8} {v : Value} {w0 : World} (h : Mine s w0.heap.size v w) (hb : Below w0.heap.size w0 w) (t : List UInt8) (ht : 0 < t.length) (hlen : s.length + t.length ≤ 100000) :
    ∃ v' w', (Builtin.append_ #[22, 9] 22 #[v, .string ⟨t.toArray⟩]).run Tryz.prog w = .ok v' w' ∧ Mine (s ++ t) w0.heap.size v' w' ∧ Below w0.heap.size w0 w' := by
  have hsz := hb.size
  rcases h with h | ⟨g, rfl, hcs, hB⟩
  · obtain ⟨i5, hi5, hp5⟩ := info5
    simp only [Prod.mk.injEq] at hp5
    obtain ⟨hz5, hsz5, hby5⟩ := hp5
    obtain ⟨v', w', hr, h2, h3, _⟩ := run_append_own_string (P := Tryz.prog) w w0.heap.size 22 9 22 5 i5 Tryz.underlying22 Tryz.underlying9 hi5 hz5 hsz5 hby5 v s.length (cellsB s) h ⟨t.toArray⟩ (by rw [str_size]; unfold maxLen; omega) (by rw [str_size]; omega) hsz
    rw [str_size, cellsB_str] at h2
    refine ⟨v', w', hr, Or.inl (by rw [List.length_append, cellsB_append]; exact h2), below_grown hb h3 (fun k hk => (h.lt k hk).1)⟩
  · have hS := Src.ofString (P := Tryz.prog) w (tx := 9) Tryz.underlying9 ⟨t.toArray⟩
    rw [str_size] at hS
    obtain ⟨v', w', hr, h2, h3⟩ := grow_src 9 s t g _ w hS hcs ht hlen
    refine ⟨v', w', hr, Or.inl ⟨h2.1, ?_⟩, below_grown hb h3 (fun k hk => by cases hk)⟩
    rcases h2.2 with k | ⟨g', cap, cur, hv, hg, r⟩
    · exact Or.inl k
    · exact Or.inr ⟨g', cap, cur, hv, by omega, r⟩

/-- nothing behind it -/
theorem append_none {v : Value} {s : List UInt8} {B : Nat} (h : Mine s B v w) (a : Option Addr) (c : Nat) : (Builtin.append_ #[22, 22] 22 #[v, .slice a 0 c]).run Tryz.prog w = .ok v w := by
  obtain ⟨i5, hi5, hp5⟩ := info5
  simp only [Prod.mk.injEq] at hp5
  obtain ⟨hz5, hsz5, hby5⟩ := hp5
  obtain ⟨a', cap, rfl, hs⟩ := h.sl
  have hS : Src Tryz.prog i5.size 22 (.slice a 0 c) 0 [] w := by
    cases a with
    | none => exact Src.ofNil w Tryz.underlying22 c
    | some x => exact Src.ofSlice w Tryz.underlying22 x 0 c [] (by simp) (by simp) (by simp)
  exact run_append_nothing (P := Tryz.prog) w 22 22 22 5 i5 Tryz.underlying22 hi5 a' s.length cap hs.1 _ hS
end Go.Proofs.YtndcmapifihgeaaGreatDoor.Rw

/- The reference's Small: a text with small letters, byte by byte. -/
namespace Go.Proofs.YtndcmapifihgeaaGreatDoor.Rw
open Go.RowKit Go.Lib

set_option maxHeartbeats 400000 in
theorem refLower_any (x : Int) (w : World) :
    Calls Tryz.prog 39 #[.int .i64 x] w fun e w' => e = .returned (.int .i64 (lowerZ x)) ∧ w = w' := by
  by_cases h1 : 65 ≤ x
  · by_cases h2 : x ≤ 90
    · have e : lowerZ x = x + 32 := by simp [lowerZ, greatZ, h1, h2]
      rw [e]
      clear e
      go_enter Tryz.func39, Tryz.ntmps39
      go_wp2
      go_ret
      exact ⟨rfl, rfl⟩
    · have e : lowerZ x = x := by simp [lowerZ, greatZ, h2]
      rw [e]
      clear e
      have h2' : decide (x ≤ 90) = false := decide_eq_false h2
      go_enter Tryz.func39, Tryz.ntmps39
      go_wp2
      go_ret
      exact ⟨rfl, rfl⟩
  · have e : lowerZ x = x := by simp [lowerZ, greatZ, h1]
    rw [e]
    clear e
    have h1' : decide (65 ≤ x) = false := decide_eq_false h1
    go_enter Tryz.func39, Tryz.ntmps39
    go_wp2
    go_ret
    exact ⟨rfl, rfl⟩

theorem wrap64_byte (n : Nat) (h : n < 256) : wrap64 (n : Int) = n := by unfold wrap64; omega

/-- a string's byte, as an int -/
theorem idx_str (m : List UInt8) (i : Nat) (h : i < (⟨m.toArray⟩ : ByteArray).size) : wrap64 (((⟨m.toArray⟩ : ByteArray)[i]'h).toNat : Int) = (at0 m i : Int) := by
  have hi : i < m.length := by rw [str_size] at h; exact h
  rw [wrap64_byte _ (UInt8.toNat_lt _), getD_at0 hi]
  rfl


/-- 'string(b)' of a row of one's own -/
theorem string_own {w : World} {B : Nat} {v : Value} {acc : List UInt8} (h : w.ownsRow B 5 1 v acc.length (Lib.byteCells acc)) :
    (convert 22 9 v).run Tryz.prog w = .ok (.string ⟨acc.toArray⟩) w := by
  rcases h.2 with ⟨hv, h0⟩ | ⟨g, cap, cur, hv, hg, hh, r⟩
  · subst hv
    obtain rfl : acc = [] := List.eq_nil_of_length_eq_zero h0
    exact run_convert_bytes_nil w 22 5 Tryz.underlying22 Tryz.underlying5 0 0 9 Tryz.underlying9
  · subst hv
    refine run_convert_bytes_back w 22 9 5 ⟨g, 0, none⟩ cap acc Tryz.underlying22 Tryz.underlying5 Tryz.underlying9 fun j hj => ?_
    refine h.cells rfl j _ ?_
    simp [Lib.byteCells, List.getElem?_eq_getElem hj]

theorem small_snoc (l : List UInt8) (i : Nat) (h : i < l.length) : smallL (l.take (i + 1)) = smallL (l.take i) ++ [lowB l[i]] := by
  rw [take_snoc h, smallL_append]
  rfl

theorem refLower_at (m : List UInt8) (i : Nat) (h : i < (⟨m.toArray⟩ : ByteArray).size) (w : World) :
    Calls Tryz.prog 39 #[.int .i64 (wrap64 (((⟨m.toArray⟩ : ByteArray)[i]'h).toNat : Int))] w fun e w' => e = .returned (.int .i64 (lowerZ (at0 m i))) ∧ w = w' := by
  rw [idx_str]
  exact refLower_any _ w

def RSmallRel (l : List UInt8) (w : World) (v3 v4 : Value) (wr : World) : Prop :=
  ∃ i : Nat, v4 = .int .i64 i ∧ i ≤ l.length ∧ wr.ownsRow w.heap.size 5 1 v3 (smallL (l.take i)).length (Lib.byteCells (smallL (l.take i))) ∧ Below w.heap.size w wr

set_option maxHeartbeats 1000000 in
set_option maxRecDepth 100000 in
theorem refSmall_any (l : List UInt8) (w : World) (hl : l.length ≤ 1000000) :
    Calls Tryz.prog 43 #[.string ⟨l.toArray⟩] w fun e w' => e = .returned (.string ⟨(smallL l).toArray⟩) ∧ Below w.heap.size w w' := by
  obtain ⟨i5, hi5, hp5⟩ := info5
  simp only [Prod.mk.injEq] at hp5
  obtain ⟨hz5, hsz5, hby5⟩ := hp5
  have HI5 := Lib.hid hi5
  have HZ5 := Lib.hid hz5
  have HS5 := Lib.hid hsz5
  have HB5 := Lib.hid hby5
  clear hi5 hz5 hsz5 hby5
  go_enter Tryz.func43, Tryz.ntmps43
  go_wp2
  go_loopw [3, 4] (fun v3 v4 wr => RSmallRel l w v3 v4 wr) (fun _ v4 _ => ((l.length : Int) - RowKit.intOf v4).toNat)
  case atStart =>
    refine ⟨0, rfl, Nat.zero_le _, ⟨by simp [Lib.byteCells, smallL], Or.inr ⟨w.heap.size, 0, #[], by simp [smallL], Nat.le_refl _, ?_, by simp [smallL], by simp, by simp, by simp [Lib.byteCells, smallL]⟩⟩, (Below.refl _ w).alloc (Nat.le_refl _) _⟩
    simp [World.alloc, -World.alloc_eq]
  case round =>
    obtain ⟨i, rfl, hil, hI, hbw⟩ := hrel
    have hsz := hbw.size
    by_cases hi : i < l.length
    · have hi' : (i : Int) < (l.length : Int) := by omega
      have hL := refLower_at l i (by rw [str_size]; exact hi) wr
      have hb2 : Below wr.heap.size wr (wr.alloc (.cells #[.int .u8 (lowerZ (at0 l i : Int) % 256)] 5)) := (Below.refl _ wr).alloc (Nat.le_refl _) _
      have hown := ownsRow_below hI hb2
      have hsn := Lib.hid (small_snoc l i hi)
      have hlo := Lib.hid (low_at hi)
      have hlen : (smallL (l.take i)).length ≤ 1000000 := by rw [smallL_length, List.length_take]; omega
      go_wp2_with fail
      refine hL.mono ?_
      rintro e w' ⟨rfl, rfl⟩
      go_wp2_with (at_builtin; refine wpList_append_own _ rfl (.tmp 12) (.tmp 19) 22 rfl w.heap.size 5 i5 (.int .u8 0) 1 1 Tryz.underlying22 HI5.out HZ5.out HS5.out HB5.out rfl (by decide) _ _ _ rfl hown ⟨wr.heap.size, 0, none⟩ _ _ [.int .u8 (lowerZ (at0 l i : Int) % 256)] rfl ?c0 ?c1 ?c2 ?c3 ?c4 ?c5 ?_)
      case c0 => simp
      case c1 =>
        intro j u hj
        rw [addr_add0]
        have hj0 : j = 0 := by
          cases j with
          | zero => rfl
          | succ j => simp at hj
        subst hj0
        simp at hj
        subst hj
        simp [World.cell?, World.alloc, -World.alloc_eq]
      case c2 =>
        intro u hu
        simp at hu
        subst hu
        rfl
      case c3 => unfold maxLen; omega
      case c4 => omega
      case c5 => have := hb2.size; omega
      intro v' w3 hown' hgrow _
      go_wp2
      go_roundw
      case rel =>
        refine ⟨i + 1, by go_num, by omega, ?_, ?_⟩
        · rw [hsn.out, Lib.byteCells_append, List.length_append, show Lib.byteCells [lowB l[i]] = [.int .u8 (lowerZ (at0 l i : Int) % 256)] by rw [hlo.out]; rfl]
          exact hown'
        · exact (hbw.trans (hb2.mono hsz)).grown hgrow (by have := hb2.size; omega) (fun k hk => (hown.lt k hk).1)
      case measure => simp [RowKit.intOf]; omega
    · have hi' : ¬ (i : Int) < (l.length : Int) := by omega
      have hstr := string_own hI
      go_wp2
      go_ret
      refine ⟨ret_str ?_, hbw⟩
      rw [List.take_of_length_le (by omega)]
end Go.Proofs.YtndcmapifihgeaaGreatDoor.Rw

/- The program's Kind, walked: one short walk a name. -/
namespace Go.Proofs.YtndcmapifihgeaaGreatDoor.Rw
open Go.RowKit Go.Lib

set_option maxHeartbeats 4000000 in
set_option maxRecDepth 100000 in
theorem kind_any (n : List UInt8) (w : World) :
    Calls Tryz.prog 14 #[.string ⟨n.toArray⟩] w fun e w' => e = .returned (.int .i64 ((kdN n : Nat) : Int)) ∧ w = w' := by
  by_cases h0 : n = [116, 101, 120, 116, 97, 114, 101, 97]
  · subst h0
    rw [show kdN [116, 101, 120, 116, 97, 114, 101, 97] = 1 from by decide]
    go_enter Tryz.func14, Tryz.ntmps14
    go_wp2
    go_ret
    exact ⟨rfl, rfl⟩
  by_cases h1 : n = [116, 105, 116, 108, 101]
  · subst h1
    rw [show kdN [116, 105, 116, 108, 101] = 1 from by decide]
    go_enter Tryz.func14, Tryz.ntmps14
    go_wp2
    go_ret
    exact ⟨rfl, rfl⟩
  by_cases h2 : n = [105, 102, 114, 97, 109, 101]
  · subst h2
    rw [show kdN [105, 102, 114, 97, 109, 101] = 2 from by decide]
    go_enter Tryz.func14, Tryz.ntmps14
    go_wp2
    go_ret
    exact ⟨rfl, rfl⟩
  by_cases h3 : n = [110, 111, 101, 109, 98, 101, 100]
  · subst h3
    rw [show kdN [110, 111, 101, 109, 98, 101, 100] = 2 from by decide]
    go_enter Tryz.func14, Tryz.ntmps14
    go_wp2
    go_ret
    exact ⟨rfl, rfl⟩
  by_cases h4 : n = [110, 111, 102, 114, 97, 109, 101, 115]
  · subst h4
    rw [show kdN [110, 111, 102, 114, 97, 109, 101, 115] = 2 from by decide]
    go_enter Tryz.func14, Tryz.ntmps14
    go_wp2
    go_ret
    exact ⟨rfl, rfl⟩
  by_cases h5 : n = [115, 99, 114, 105, 112, 116]
  · subst h5
    rw [show kdN [115, 99, 114, 105, 112, 116] = 2 from by decide]
    go_enter Tryz.func14, Tryz.ntmps14
    go_wp2
    go_ret
    exact ⟨rfl, rfl⟩
  by_cases h6 : n = [115, 116, 121, 108, 101]
  · subst h6
    rw [show kdN [115, 116, 121, 108, 101] = 2 from by decide]
    go_enter Tryz.func14, Tryz.ntmps14
    go_wp2
    go_ret
    exact ⟨rfl, rfl⟩
  by_cases h7 : n = [120, 109, 112]
  · subst h7
    rw [show kdN [120, 109, 112] = 2 from by decide]
    go_enter Tryz.func14, Tryz.ntmps14
    go_wp2
    go_ret
    exact ⟨rfl, rfl⟩
  by_cases h8 : n = [112, 108, 97, 105, 110, 116, 101, 120, 116]
  · subst h8
    rw [show kdN [112, 108, 97, 105, 110, 116, 101, 120, 116] = 3 from by decide]
    go_enter Tryz.func14, Tryz.ntmps14
    go_wp2
    go_ret
    exact ⟨rfl, rfl⟩
  have e0 : kdN n = 0 := by
    unfold kdN ways
    simp only [wayIn]
    rw [if_neg (show ¬ nTextarea = n from fun e => h0 e.symm), if_neg (show ¬ nTitle = n from fun e => h1 e.symm), if_neg (show ¬ nIframe = n from fun e => h2 e.symm), if_neg (show ¬ nNoembed = n from fun e => h3 e.symm), if_neg (show ¬ nNoframes = n from fun e => h4 e.symm), if_neg (show ¬ nScript = n from fun e => h5 e.symm), if_neg (show ¬ nStyle = n from fun e => h6 e.symm), if_neg (show ¬ nXmp = n from fun e => h7 e.symm), if_neg (show ¬ nPlaintext = n from fun e => h8 e.symm)]
  rw [e0]
  clear e0
  replace h0 : (n == [116, 101, 120, 116, 97, 114, 101, 97]) = false := beq_eq_false_iff_ne.2 h0
  replace h1 : (n == [116, 105, 116, 108, 101]) = false := beq_eq_false_iff_ne.2 h1
  replace h2 : (n == [105, 102, 114, 97, 109, 101]) = false := beq_eq_false_iff_ne.2 h2
  replace h3 : (n == [110, 111, 101, 109, 98, 101, 100]) = false := beq_eq_false_iff_ne.2 h3
  replace h4 : (n == [110, 111, 102, 114, 97, 109, 101, 115]) = false := beq_eq_false_iff_ne.2 h4
  replace h5 : (n == [115, 99, 114, 105, 112, 116]) = false := beq_eq_false_iff_ne.2 h5
  replace h6 : (n == [115, 116, 121, 108, 101]) = false := beq_eq_false_iff_ne.2 h6
  replace h7 : (n == [120, 109, 112]) = false := beq_eq_false_iff_ne.2 h7
  replace h8 : (n == [112, 108, 97, 105, 110, 116, 101, 120, 116]) = false := beq_eq_false_iff_ne.2 h8
  go_enter Tryz.func14, Tryz.ntmps14
  go_wp2
  go_ret
  exact ⟨rfl, rfl⟩

/-- the rows that the reference lays: names and ways -/
def Tab (B : Nat) (w : World) : Prop := ∀ i, i < 9 → w.cell? ⟨B, i, none⟩ = some (.string ⟨(nm i).toArray⟩) ∧ w.cell? ⟨B + 1, i, none⟩ = some (.int .i64 (((ways.map Prod.snd).getD i 0 : Nat) : Int))
theorem Tab.below {B : Nat} {w w' : World} (h : Tab B w) (hb : Below w.heap.size w w') : Tab B w' := fun i hi =>
  ⟨(hb.cell (cell_lt (h i hi).1)).trans (h i hi).1, (hb.cell (cell_lt (h i hi).2)).trans (h i hi).2⟩

theorem wayIn_at (n : List UInt8) {i : Nat} (h : i < 9) : wayIn (ways.drop i) n = if nm i = n then (ways.map Prod.snd).getD i 0 else wayIn (ways.drop (i + 1)) n := by
  have hi : i < ways.length := h
  rw [List.drop_eq_getElem_cons hi]
  have e1 : nm i = ways[i].1 := by unfold nm; rw [List.getD_eq_getElem?_getD, List.getElem?_map, List.getElem?_eq_getElem hi]; rfl
  have e2 : (ways.map Prod.snd).getD i 0 = ways[i].2 := by rw [List.getD_eq_getElem?_getD, List.getElem?_map, List.getElem?_eq_getElem hi]; rfl
  rw [e1, e2]
  rfl
theorem way_lt {i : Nat} (h : i < 9) : (ways.map Prod.snd).getD i 0 ≤ 3 := by
  have : ∀ i < 9, (ways.map Prod.snd).getD i 0 ≤ 3 := by decide
  exact this i h

/-- the nine names as values -/
def nmV : Array Value := #[.string ⟨#[116, 101, 120, 116, 97, 114, 101, 97]⟩, .string ⟨#[116, 105, 116, 108, 101]⟩, .string ⟨#[105, 102, 114, 97, 109, 101]⟩, .string ⟨#[110, 111, 101, 109, 98, 101, 100]⟩, .string ⟨#[110, 111, 102, 114, 97, 109, 101, 115]⟩, .string ⟨#[115, 99, 114, 105, 112, 116]⟩, .string ⟨#[115, 116, 121, 108, 101]⟩, .string ⟨#[120, 109, 112]⟩, .string ⟨#[112, 108, 97, 105, 110, 116, 101, 120, 116]⟩]
/-- the nine ways as values -/
def wyV : Array Value := #[.int .i64 1, .int .i64 1, .int .i64 2, .int .i64 2, .int .i64 2, .int .i64 2, .int .i64 2, .int .i64 2, .int .i64 3]
theorem nmV_at {i : Nat} (h : i < 9) : nmV[i]? = some (.string ⟨(nm i).toArray⟩) := by
  rcases (by omega : i = 0 ∨ i = 1 ∨ i = 2 ∨ i = 3 ∨ i = 4 ∨ i = 5 ∨ i = 6 ∨ i = 7 ∨ i = 8) with rfl | rfl | rfl | rfl | rfl | rfl | rfl | rfl | rfl <;> rfl
theorem wyV_at {i : Nat} (h : i < 9) : wyV[i]? = some (.int .i64 (((ways.map Prod.snd).getD i 0 : Nat) : Int)) := by
  rcases (by omega : i = 0 ∨ i = 1 ∨ i = 2 ∨ i = 3 ∨ i = 4 ∨ i = 5 ∨ i = 6 ∨ i = 7 ∨ i = 8) with rfl | rfl | rfl | rfl | rfl | rfl | rfl | rfl | rfl <;> rfl

theorem tab_laid (w : World) : Tab w.heap.size ((w.alloc (.cells nmV 9)).alloc (.cells wyV 3)) ∧ Below w.heap.size w ((w.alloc (.cells nmV 9)).alloc (.cells wyV 3)) := by
  have hb1 : Below w.heap.size w (w.alloc (.cells nmV 9)) := (Below.refl _ w).alloc (Nat.le_refl _) _
  have hz : (w.alloc (.cells nmV 9)).heap.size = w.heap.size + 1 := by simp
  have hb2 : Below (w.alloc (.cells nmV 9)).heap.size (w.alloc (.cells nmV 9)) ((w.alloc (.cells nmV 9)).alloc (.cells wyV 3)) := (Below.refl _ _).alloc (Nat.le_refl _) _
  refine ⟨fun i hi => ⟨?_, ?_⟩, hb1.trans (hb2.mono hb1.size)⟩
  · have := row_cell' w 9 i _ nmV (0, 0) (nmV_at hi)
    exact (hb2.cell (cell_lt this)).trans this
  · have := row_cell' (w.alloc (.cells nmV 9)) 3 i _ wyV (0, 0) (wyV_at hi)
    rw [hz] at this
    exact this

/-- where the loop stands -/
def KdRel (n : List UInt8) (w : World) (v5 : Value) (wr : World) : Prop :=
  ∃ i : Nat, v5 = .int .i64 (i : Int) ∧ i ≤ 9 ∧ wayIn (ways.drop i) n = kdN n ∧ Tab w.heap.size wr ∧ Below w.heap.size w wr

set_option maxHeartbeats 4000000 in
set_option maxRecDepth 100000 in
theorem refKind_any (n : List UInt8) (w : World) :
    Calls Tryz.prog 16 #[.string ⟨n.toArray⟩] w fun e w' => e = .returned (.int .i64 ((kdN n : Nat) : Int)) ∧ Below w.heap.size w w' := by
  have HL := Lib.hid (tab_laid w)
  go_enter Tryz.func16, Tryz.ntmps16
  go_wp2
  go_loopw [5] (fun v wr => KdRel n w v wr) (fun v _ => 9 - (RowKit.intOf v).toNat)
  case atStart => exact ⟨0, rfl, by omega, rfl, HL.out.1, HL.out.2⟩
  case round =>
    clear HL
    obtain ⟨i, rfl, hi9, hk, hT, hbw⟩ := hrel
    have HBW := Lib.hid hbw
    clear hbw
    by_cases hi : i < 9
    · have hi' : (i : Int) < 9 := by omega
      have c1 := (hT i hi).1
      have c2 := (hT i hi).2
      have HW := Lib.hid (wayIn_at n hi)
      have hv := way_lt hi
      have HT := Lib.hid hT
      have HK := Lib.hid hk
      clear hT hk
      generalize nm i = k at c1 HW
      generalize (ways.map Prod.snd).getD i 0 = v at c2 HW hv
      by_cases hkn : k = n
      · subst hkn
        go_wp2
        go_ret
        refine ⟨ret_int ?_, HBW.out⟩
        rw [← HK.out, HW.out]
        simp
      · have hb : (k == n) = false := beq_eq_false_iff_ne.2 hkn
        have HW2 := Lib.hid (HW.out.trans (if_neg hkn))
        clear hkn
        go_wp2
        go_roundw
        case rel => exact ⟨i + 1, by go_num, by omega, HW2.out.symm.trans HK.out, HT.out, HBW.out⟩
        case measure => simp [RowKit.intOf]; omega
    · have hi' : ¬ ((i : Int) < 9) := by omega
      obtain rfl : i = 9 := by omega
      have HK := Lib.hid hk
      clear hk hT
      go_wp2
      go_ret
      exact ⟨ret_int (by rw [← HK.out]; rfl), HBW.out⟩
end Go.Proofs.YtndcmapifihgeaaGreatDoor.Rw

/- The program's endsName, hasFront, isEndTag, firstEndTag and End, walked. -/
namespace Go.Proofs.YtndcmapifihgeaaGreatDoor.Rw
open Go.RowKit Go.Lib

variable {l m p : List UInt8} {a : Option Addr} {cap i b off : Nat} {w w' : World}

set_option maxHeartbeats 1000000 in
theorem blank_any (x : Int) (w : World) :
    Calls Tryz.prog 92 #[.int .i32 x] w fun e w' => e = .returned (.bool (blankZ x)) ∧ w = w' := by
  unfold blankZ
  cases h1 : (x == 9) <;> cases h2 : (x == 10) <;> cases h3 : (x == 12) <;> cases h4 : (x == 32)
  all_goals (go_enter Tryz.func92, Tryz.ntmps92; go_wp2; go_ret; exact ⟨rfl, rfl⟩)

theorem beq_nat (c k : Nat) : ((c : Int) == (k : Int)) = (c == k) := by
  rw [Bool.eq_iff_iff]; simp only [beq_iff_eq]; omega

set_option maxHeartbeats 1000000 in
set_option maxRecDepth 100000 in
theorem endsName_any (c : Nat) (w : World) (hc : c < 256) :
    Calls Tryz.prog 66 #[.int .u8 (c : Int)] w fun e w' => e = .returned (.bool (endN c)) ∧ w = w' := by
  have hB := blank_any (c : Int) w
  rw [blankZ_nat] at hB
  unfold endN
  have k1 : ((c : Int) == 13) = (c == 13) := beq_nat c 13
  have k2 : ((c : Int) == 47) = (c == 47) := beq_nat c 47
  have k3 : ((c : Int) == 62) = (c == 62) := beq_nat c 62
  cases h0 : blankN c <;> cases h1 : (c == 13) <;> cases h2 : (c == 47) <;> cases h3 : (c == 62)
  all_goals
    rw [h0] at hB
    rw [h1] at k1
    rw [h2] at k2
    rw [h3] at k3
    clear h0 h1 h2 h3
    go_enter Tryz.func66, Tryz.ntmps66
    go_wp2_with fail
    refine hB.mono ?_
    rintro e w' ⟨rfl, rfl⟩
    go_wp2
    go_ret
    exact ⟨rfl, rfl⟩

theorem idx_at (m : List UInt8) (i : Nat) (h : i < (⟨m.toArray⟩ : ByteArray).size) : ((⟨m.toArray⟩ : ByteArray)[i]'h).toNat = at0 m i := by
  have hi : i < m.length := by rw [str_size] at h; exact h
  have : ((⟨m.toArray⟩ : ByteArray)[i]'h) = m[i] := rfl
  rw [this, getD_at0 hi]

/-- a byte's letter made small -/
def lowN (n : Nat) : Nat := if greatN n then n + 32 else n
theorem lowerZ_lowN (n : Nat) : lowerZ (n : Int) = ((lowN n : Nat) : Int) := by
  unfold lowerZ lowN
  rw [greatZ_nat]
  split <;> simp
theorem lowB_at {k : Nat} (h : k < m.length) : (lowB m[k]).toNat = lowN (at0 m k) := by
  rw [lowB_toNat, getD_at0 h]
  rfl

/-- a front, step by step -/
theorem front_step {k : Nat} (hk : k < p.length) (hm : p.length ≤ m.length) (h : smallL (m.take k) = p.take k) (he : lowN (at0 m k) = at0 p k) : smallL (m.take (k + 1)) = p.take (k + 1) := by
  rw [take_snoc (by omega : k < m.length), take_snoc hk, smallL_append, h]
  congr 1
  show [lowB m[k]] = [p[k]]
  congr 1
  apply UInt8.toNat_inj.1
  rw [lowB_at, he, getD_at0 hk]
theorem front_no {k : Nat} (hk : k < p.length) (hm : p.length ≤ m.length) (he : lowN (at0 m k) ≠ at0 p k) : smallL (m.take p.length) ≠ p := by
  intro e
  apply he
  have h1 : (smallL (m.take p.length))[k]? = p[k]? := by rw [e]
  unfold smallL at h1
  rw [List.getElem?_map, List.getElem?_take, if_pos hk, List.getElem?_eq_getElem (by omega : k < m.length), List.getElem?_eq_getElem hk] at h1
  simp only [Option.map_some, Option.some.injEq] at h1
  rw [← lowB_at (by omega), h1, getD_at0 hk]

/-- where the loop stands -/
def FrRel (p m : List UInt8) (w : World) (v8 : Value) (wr : World) : Prop :=
  ∃ k : Nat, v8 = .int .i64 (k : Int) ∧ k ≤ p.length ∧ smallL (m.take k) = p.take k ∧ Below w.heap.size w wr

set_option maxHeartbeats 2000000 in
set_option maxRecDepth 100000 in
theorem hasFront_any (w : World) (hc : Cells m b off w) (hp : p.length ≤ m.length) (hl : m.length ≤ 1000000) :
    Calls Tryz.prog 65 #[.slice (some ⟨b, off, none⟩) m.length cap, .string ⟨p.toArray⟩] w fun e w' => e = .returned (.bool (decide (smallL (m.take p.length) = p))) ∧ Below w.heap.size w w' := by
  obtain ⟨R, hR⟩ : ∃ R, decide (smallL (m.take p.length) = p) = R := ⟨_, rfl⟩
  rw [hR]
  have HR := Lib.hid hR
  have HC := Lib.hid hc
  clear hR hc
  go_enter Tryz.func65, Tryz.ntmps65
  go_wp2
  go_loopw [8] (fun v wr => FrRel p m w v wr) (fun v _ => p.length - (RowKit.intOf v).toNat)
  case atStart => exact ⟨0, rfl, by omega, rfl, Below.refl _ _⟩
  case round =>
    obtain ⟨k, rfl, hk, hf, hbw⟩ := hrel
    by_cases h1 : k < p.length
    · have h1' : (k : Int) < (p.length : Int) := by omega
      have h2' : (k : Int) < (m.length : Int) := by omega
      have hcell := (HC.out.below hbw) k (by omega)
      have ea := idx_at p k (by rw [str_size]; exact h1)
      have hbd := at0_lt m k
      have hbp := at0_lt p k
      have cL := fun W => lower_any ((at0 m k : Nat) : Int) W
      rw [lowerZ_lowN] at cL
      by_cases he : lowN (at0 m k) = at0 p k
      · have HF := Lib.hid (front_step h1 hp hf he)
        have HBW := Lib.hid hbw
        rw [he] at cL
        clear he hf
        generalize at0 m k = x at hcell cL hbd
        generalize at0 p k = y at ea cL hbp
        go_wp2
        go_quiet (first | (go_at_call 91; refine (cL _).mono ?_; rintro e w' ⟨rfl, rfl⟩; exact ⟨rfl, _, rfl⟩))
        go_wp2
        go_roundw
        case rel => exact ⟨k + 1, by go_num, by omega, HF.out, ⟨hbw.os, hbw.tape, hbw.output, hbw.size, hbw.block⟩⟩
        case measure => simp [RowKit.intOf]; omega
      · have HF := Lib.hid (show false = R by rw [← HR.out, decide_eq_false (front_no h1 hp he)])
        have HBW := Lib.hid hbw
        generalize at0 m k = x at hcell cL hbd he
        generalize at0 p k = y at ea hbp he
        generalize lowN x = z at cL he
        have hne : ((z : Int) == (y : Int)) = false := by simp; omega
        clear he hf
        go_wp2
        go_quiet (first | (go_at_call 91; refine (cL _).mono ?_; rintro e w' ⟨rfl, rfl⟩; exact ⟨rfl, _, rfl⟩))
        go_wp2
        go_ret
        exact ⟨ret_bool HF.out, ⟨hbw.os, hbw.tape, hbw.output, hbw.size, hbw.block⟩⟩
    · have h1' : ¬ ((k : Int) < (p.length : Int)) := by omega
      have HF := Lib.hid (show true = R by
        rw [← HR.out]
        obtain rfl : k = p.length := by omega
        rw [List.take_length] at hf
        rw [decide_eq_true hf])
      clear hf
      go_wp2
      go_ret
      exact ⟨ret_bool HF.out, hbw⟩
end Go.Proofs.YtndcmapifihgeaaGreatDoor.Rw

/- The program's isEndTag, firstEndTag and End, walked. -/
namespace Go.Proofs.YtndcmapifihgeaaGreatDoor.Rw
open Go.RowKit Go.Lib

variable {l m p : List UInt8} {a : Option Addr} {cap i b off : Nat} {w w' : World}

set_option maxHeartbeats 2000000 in
set_option maxRecDepth 100000 in
theorem isEndTag_any (n cap : Nat) (w : World) (hc : Cells m b off w) (hn : m.length = n) (hl : n ≤ 1000000) (_hlp : p.length ≤ 1000000) :
    Calls Tryz.prog 47 #[.slice (some ⟨b, off, none⟩) n cap, .string ⟨p.toArray⟩] w fun e w' => e = .returned (.bool (isE p m)) ∧ Below w.heap.size w w' := by
  have hps := str_size p
  subst hn
  unfold isE
  by_cases h : p.length < m.length
  · have h' : (p.length : Int) < (m.length : Int) := by omega
    have cF := hasFront_any (cap := cap) w hc (Nat.le_of_lt h) hl
    rw [decide_eq_true h]
    have HC := Lib.hid hc
    clear hc
    have hbd := at0_lt m p.length
    cases hf : decide (smallL (m.take p.length) = p) with
    | false =>
      rw [hf] at cF
      clear hf
      go_enter Tryz.func47, Tryz.ntmps47
      go_wp2_with fail
      refine cF.mono ?_
      rintro e w1 ⟨rfl, hb⟩
      go_wp2
      go_ret
      exact ⟨rfl, hb⟩
    | true =>
      rw [hf] at cF
      clear hf
      obtain ⟨c, hcc⟩ : ∃ c, at0 m p.length = c := ⟨_, rfl⟩
      have HCC := Lib.hid hcc
      rw [hcc] at hbd ⊢
      clear hcc
      obtain ⟨E, hE⟩ : ∃ E, endN c = E := ⟨_, rfl⟩
      have HE := Lib.hid hE
      rw [hE]
      clear hE
      go_enter Tryz.func47, Tryz.ntmps47
      go_wp2_with fail
      refine cF.mono ?_
      rintro e w1 ⟨rfl, hb⟩
      have hcell := (HC.out.below hb) p.length h
      rw [HCC.out] at hcell
      have cE := endsName_any c w1 hbd
      rw [HE.out] at cE
      go_wp2_with fail
      refine cE.mono ?_
      rintro e w2 ⟨rfl, rfl⟩
      go_wp2
      go_ret
      exact ⟨ret_bool (by simp), hb⟩
  · have h' : ¬ ((p.length : Int) < (m.length : Int)) := by omega
    rw [decide_eq_false h]
    clear hc
    go_enter Tryz.func47, Tryz.ntmps47
    go_wp2
    go_ret
    exact ⟨rfl, Below.refl _ _⟩

theorem join_one (a b : List UInt8) : (⟨a.toArray⟩ ++ ⟨b.toArray⟩ : ByteArray) = ⟨(a ++ b).toArray⟩ := by
  apply ByteArray.ext
  simp [ByteArray.data_append]

/-- where the loop stands -/
def FeRel (p l : List UInt8) (N : Nat) (w : World) (v8 : Value) (wr : World) : Prop :=
  ∃ k : Nat, v8 = .int .i64 (k : Int) ∧ k ≤ l.length ∧ k + fe p (l.drop k) = N ∧ Below w.heap.size w wr

set_option maxHeartbeats 2000000 in
set_option maxRecDepth 100000 in
theorem firstEndTag_any (n : List UInt8) (i : Nat) (w : World) (hs : Sl l a cap w) (hi : i ≤ l.length) (hl : l.length ≤ 1000000) (hln : n.length ≤ 100000) :
    Calls Tryz.prog 27 #[.slice a l.length cap, .int .i64 (i : Int), .string ⟨n.toArray⟩] w fun e w' => e = .returned (.int .i64 ((i + fe (fr n) (l.drop i) : Nat) : Int)) ∧ Below w.heap.size w w' := by
  obtain ⟨N, hN⟩ : ∃ N, i + fe (fr n) (l.drop i) = N := ⟨_, rfl⟩
  rw [hN]
  have HN := Lib.hid hN
  have HS := Lib.hid hs
  have hlp := fr_length n
  have hj : (⟨#[60, 47]⟩ ++ ⟨n.toArray⟩ : ByteArray) = ⟨(fr n).toArray⟩ := join_one [60, 47] n
  clear hN hs
  obtain ⟨p, hp⟩ : ∃ p, fr n = p := ⟨_, rfl⟩
  rw [hp] at hj HN hlp
  clear hp
  go_enter Tryz.func27, Tryz.ntmps27
  go_wp2
  go_loopw [8] (fun v wr => FeRel p l N w v wr) (fun v _ => l.length - (RowKit.intOf v).toNat)
  case atStart => exact ⟨i, rfl, hi, HN.out, Below.refl _ _⟩
  case round =>
    clear hj HN
    obtain ⟨k, rfl, hk, hN, hbw⟩ := hrel
    have hsz := hbw.size
    by_cases hlt : k < l.length
    · have hlt' : (k : Int) < (l.length : Int) := by omega
      obtain ⟨hcap, h2 | ⟨b, off, rfl, hc⟩⟩ := HS.out
      · rw [h2] at hlt; simp at hlt
      have cE := isEndTag_any (p := p) (l.length - k) (cap - k) wr ((hc.drop k).below hbw) (by rw [List.length_drop]) (by omega) (by omega)
      have hst := fe_at (p := p) hlt
      have HBW := Lib.hid hbw
      have hkc : k < cap := by omega
      have hkl : k ≤ l.length := by omega
      cases hE : isE p (l.drop k) with
      | true =>
        rw [hE] at cE hst
        rw [if_pos rfl] at hst
        have HN2 := Lib.hid (show k = N by omega)
        clear hst hN hbw hc hE
        go_wp2_with fail
        refine cE.mono ?_
        rintro e w1 ⟨rfl, hb1⟩
        go_wp2
        go_ret
        exact ⟨ret_int (by rw [HN2.out]), HBW.out.trans (hb1.mono hsz)⟩
      | false =>
        rw [hE] at cE hst
        rw [if_neg (by decide)] at hst
        have HN2 := Lib.hid (show k + 1 + fe p (l.drop (k + 1)) = N by omega)
        clear hst hN hbw hc hE
        go_wp2_with fail
        refine cE.mono ?_
        rintro e w1 ⟨rfl, hb1⟩
        go_wp2
        go_roundw
        case rel => exact ⟨k + 1, by go_num, by omega, HN2.out, HBW.out.trans (hb1.mono hsz)⟩
        case measure => simp [RowKit.intOf]; omega
    · have hlt' : ¬ ((k : Int) < (l.length : Int)) := by omega
      have HN2 := Lib.hid (show l.length = N by
        rw [List.drop_of_length_le (by omega)] at hN
        simp only [fe] at hN
        omega)
      clear hN
      go_wp2
      go_ret
      exact ⟨ret_int (by rw [HN2.out]), hbw⟩

set_option maxHeartbeats 2000000 in
set_option maxRecDepth 100000 in
/-- End, from any byte on -/
theorem end_any (n : List UInt8) (i : Nat) (w : World) (hs : Sl l a cap w) (hi : i ≤ l.length) (hl : l.length ≤ 1000000) (hln : n.length ≤ 100000) :
    Calls Tryz.prog 12 #[.slice a l.length cap, .int .i64 (i : Int), .string ⟨n.toArray⟩] w fun e w' => e = .returned (.int .i64 ((ed n l i : Nat) : Int)) ∧ Below w.heap.size w w' := by
  have cK := kind_any n w
  have cF := firstEndTag_any n i w hs hi hl hln
  have hk3 := kdN_le n
  unfold ed
  generalize kdN n = K at *
  generalize i + fe (fr n) (l.drop i) = F at *
  by_cases h0 : K = 0
  · rw [if_pos h0]
    subst h0
    clear cF
    go_enter Tryz.func12, Tryz.ntmps12
    go_wp2_with fail
    refine cK.mono ?_
    rintro e w1 ⟨rfl, rfl⟩
    go_wp2
    go_ret
    exact ⟨rfl, Below.refl _ _⟩
  · rw [if_neg h0]
    by_cases h3 : K = 3
    · rw [if_pos h3]
      subst h3
      clear cF
      go_enter Tryz.func12, Tryz.ntmps12
      go_wp2_with fail
      refine cK.mono ?_
      rintro e w1 ⟨rfl, rfl⟩
      go_wp2
      go_ret
      exact ⟨rfl, Below.refl _ _⟩
    · rw [if_neg h3]
      have k0 : ((K : Int) == 0) = false := by simp; omega
      have k3 : ((K : Int) == 3) = false := by simp; omega
      go_enter Tryz.func12, Tryz.ntmps12
      go_wp2_with fail
      refine cK.mono ?_
      rintro e w1 ⟨rfl, rfl⟩
      go_wp2_with fail
      refine cF.mono ?_
      rintro e w1 ⟨rfl, hb⟩
      go_wp2
      go_ret
      exact ⟨rfl, hb⟩
end Go.Proofs.YtndcmapifihgeaaGreatDoor.Rw

/- The reference's ends and End, walked. -/
namespace Go.Proofs.YtndcmapifihgeaaGreatDoor.Rw
open Go.RowKit Go.Lib

variable {l m p : List UInt8} {a : Option Addr} {cap i b off : Nat} {w w' : World}

/-- the reference's tests, in their order -/
theorem isE_ref (n m : List UInt8) (h : n.length + 2 < m.length) : isE (fr n) m = (decide (at0 m 0 = 60) && (decide (at0 m 1 = 47) && (decide (smallL ((m.drop 2).take n.length) = n) && endN (at0 m (n.length + 2))))) := by
  unfold isE
  rw [fr_length, decide_eq_true h, Bool.true_and]
  match m, h with
  | c :: d :: r, _ =>
    have e : (smallL ((c :: d :: r).take (n.length + 2)) = fr n) ↔ (at0 (c :: d :: r) 0 = 60 ∧ at0 (c :: d :: r) 1 = 47 ∧ smallL (r.take n.length) = n) := by
      have e0 : at0 (c :: d :: r) 0 = c.toNat := rfl
      have e1 : at0 (c :: d :: r) 1 = d.toNat := rfl
      rw [e0, e1]
      show lowB c :: lowB d :: smallL (r.take n.length) = 60 :: 47 :: n ↔ _
      simp only [List.cons.injEq]
      constructor
      · rintro ⟨h1, h2, h3⟩
        exact ⟨lowB_eq (by rw [h1]; rfl) (by decide), lowB_eq (by rw [h2]; rfl) (by decide), h3⟩
      · rintro ⟨h1, h2, h3⟩
        have : c = 60 := UInt8.toNat_inj.1 h1
        have : d = 47 := UInt8.toNat_inj.1 h2
        subst c; subst d
        exact ⟨rfl, rfl, h3⟩
    have e2 : decide (smallL ((c :: d :: r).take (n.length + 2)) = fr n) = (decide (at0 (c :: d :: r) 0 = 60) && (decide (at0 (c :: d :: r) 1 = 47) && decide (smallL (((c :: d :: r).drop 2).take n.length) = n))) := by
      rw [Bool.eq_iff_iff]
      simp only [Bool.and_eq_true, decide_eq_true_eq]
      exact e
    rw [e2]
    simp only [Bool.and_assoc]
theorem isE_short {n m : List UInt8} (h : ¬ n.length + 2 < m.length) : isE (fr n) m = false := by
  unfold isE
  rw [fr_length, decide_eq_false h]
  rfl

theorem endN_tests (c : Nat) : endN c = (c == 9 || (c == 10 || (c == 12 || (c == 13 || (c == 32 || (c == 47 || c == 62)))))) := by
  unfold endN blankN
  rw [Bool.eq_iff_iff]
  simp only [Bool.or_eq_true, beq_iff_eq]
  omega

set_option maxHeartbeats 4000000 in
set_option maxRecDepth 100000 in
theorem refEnds_long (n : List UInt8) (i : Nat) (w : World) (hc : Cells l b off w) (hcap : l.length ≤ cap) (hi : i + 2 + n.length < l.length) (hl : l.length ≤ 1000000) :
    Calls Tryz.prog 33 #[.slice (some ⟨b, off, none⟩) l.length cap, .int .i64 (i : Int), .string ⟨n.toArray⟩] w fun e w' => e = .returned (.bool (isE (fr n) (l.drop i))) ∧ Below w.heap.size w w' := by
  have hR := isE_ref n (l.drop i) (by rw [List.length_drop]; omega)
  rw [at0_drop, at0_drop, at0_drop, List.drop_drop] at hR
  rw [show i + (n.length + 2) = i + 2 + n.length by omega] at hR
  rw [hR]
  clear hR
  have c0 := hc i (by omega)
  have c1 := hc (i + 1) (by omega)
  have hx := string_cells (cap := cap - (i + 2)) ((hc.drop (i + 2)).take n.length) (n := n.length) (by rw [List.length_take, List.length_drop]; omega)
  have b0 := at0_lt l i
  have b1 := at0_lt l (i + 1)
  have HC := Lib.hid hc
  have hns := str_size n
  rw [Nat.add_zero]
  have cS := refSmall_any ((l.drop (i + 2)).take n.length) w (by rw [List.length_take]; omega)
  generalize (l.drop (i + 2)).take n.length = t at hx cS ⊢
  have g1 : ¬ ((l.length : Int) ≤ (i : Int) + 2 + (n.length : Int)) := by omega
  have g2 : i + 2 + n.length ≤ cap := by omega
  by_cases t0 : at0 l i = 60
  · rw [t0] at c0
    rw [decide_eq_true t0, Bool.true_and]
    by_cases t1 : at0 l (i + 1) = 47
    · rw [t1] at c1
      rw [decide_eq_true t1, Bool.true_and]
      by_cases t2 : smallL t = n
      · rw [decide_eq_true t2, Bool.true_and]
        rw [t2] at cS
        have hbd := at0_lt l (i + 2 + n.length)
        obtain ⟨c, hcc⟩ : ∃ c, at0 l (i + 2 + n.length) = c := ⟨_, rfl⟩
        have HCC := Lib.hid hcc
        rw [hcc] at hbd ⊢
        clear hcc t0 t1 t2 hc b0 b1
        rw [endN_tests]
        by_cases q0 : c = 9
        · have HE := Lib.hid (show true = (c == 9 || (c == 10 || (c == 12 || (c == 13 || (c == 32 || (c == 47 || c == 62)))))) by subst q0; rfl)
          generalize (c == 9 || (c == 10 || (c == 12 || (c == 13 || (c == 32 || (c == 47 || c == 62)))))) = E at HE ⊢
          have z0 : ((c : Int) == 9) = true := by simp; omega
          go_enter Tryz.func33, Tryz.ntmps33
          go_wp2_with fail
          refine cS.mono ?_
          rintro e w1 ⟨rfl, hb⟩
          have hcell := (HC.out.below hb) (i + 2 + n.length) hi
          rw [HCC.out] at hcell
          go_wp2
          go_ret
          exact ⟨ret_bool HE.out, hb⟩
        have z0 : ((c : Int) == 9) = false := by simp; omega
        by_cases q1 : c = 10
        · have HE := Lib.hid (show true = (c == 9 || (c == 10 || (c == 12 || (c == 13 || (c == 32 || (c == 47 || c == 62)))))) by subst q1; rfl)
          generalize (c == 9 || (c == 10 || (c == 12 || (c == 13 || (c == 32 || (c == 47 || c == 62)))))) = E at HE ⊢
          have z1 : ((c : Int) == 10) = true := by simp; omega
          go_enter Tryz.func33, Tryz.ntmps33
          go_wp2_with fail
          refine cS.mono ?_
          rintro e w1 ⟨rfl, hb⟩
          have hcell := (HC.out.below hb) (i + 2 + n.length) hi
          rw [HCC.out] at hcell
          go_wp2
          go_ret
          exact ⟨ret_bool HE.out, hb⟩
        have z1 : ((c : Int) == 10) = false := by simp; omega
        by_cases q2 : c = 12
        · have HE := Lib.hid (show true = (c == 9 || (c == 10 || (c == 12 || (c == 13 || (c == 32 || (c == 47 || c == 62)))))) by subst q2; rfl)
          generalize (c == 9 || (c == 10 || (c == 12 || (c == 13 || (c == 32 || (c == 47 || c == 62)))))) = E at HE ⊢
          have z2 : ((c : Int) == 12) = true := by simp; omega
          go_enter Tryz.func33, Tryz.ntmps33
          go_wp2_with fail
          refine cS.mono ?_
          rintro e w1 ⟨rfl, hb⟩
          have hcell := (HC.out.below hb) (i + 2 + n.length) hi
          rw [HCC.out] at hcell
          go_wp2
          go_ret
          exact ⟨ret_bool HE.out, hb⟩
        have z2 : ((c : Int) == 12) = false := by simp; omega
        by_cases q3 : c = 13
        · have HE := Lib.hid (show true = (c == 9 || (c == 10 || (c == 12 || (c == 13 || (c == 32 || (c == 47 || c == 62)))))) by subst q3; rfl)
          generalize (c == 9 || (c == 10 || (c == 12 || (c == 13 || (c == 32 || (c == 47 || c == 62)))))) = E at HE ⊢
          have z3 : ((c : Int) == 13) = true := by simp; omega
          go_enter Tryz.func33, Tryz.ntmps33
          go_wp2_with fail
          refine cS.mono ?_
          rintro e w1 ⟨rfl, hb⟩
          have hcell := (HC.out.below hb) (i + 2 + n.length) hi
          rw [HCC.out] at hcell
          go_wp2
          go_ret
          exact ⟨ret_bool HE.out, hb⟩
        have z3 : ((c : Int) == 13) = false := by simp; omega
        by_cases q4 : c = 32
        · have HE := Lib.hid (show true = (c == 9 || (c == 10 || (c == 12 || (c == 13 || (c == 32 || (c == 47 || c == 62)))))) by subst q4; rfl)
          generalize (c == 9 || (c == 10 || (c == 12 || (c == 13 || (c == 32 || (c == 47 || c == 62)))))) = E at HE ⊢
          have z4 : ((c : Int) == 32) = true := by simp; omega
          go_enter Tryz.func33, Tryz.ntmps33
          go_wp2_with fail
          refine cS.mono ?_
          rintro e w1 ⟨rfl, hb⟩
          have hcell := (HC.out.below hb) (i + 2 + n.length) hi
          rw [HCC.out] at hcell
          go_wp2
          go_ret
          exact ⟨ret_bool HE.out, hb⟩
        have z4 : ((c : Int) == 32) = false := by simp; omega
        by_cases q5 : c = 47
        · have HE := Lib.hid (show true = (c == 9 || (c == 10 || (c == 12 || (c == 13 || (c == 32 || (c == 47 || c == 62)))))) by subst q5; rfl)
          generalize (c == 9 || (c == 10 || (c == 12 || (c == 13 || (c == 32 || (c == 47 || c == 62)))))) = E at HE ⊢
          have z5 : ((c : Int) == 47) = true := by simp; omega
          go_enter Tryz.func33, Tryz.ntmps33
          go_wp2_with fail
          refine cS.mono ?_
          rintro e w1 ⟨rfl, hb⟩
          have hcell := (HC.out.below hb) (i + 2 + n.length) hi
          rw [HCC.out] at hcell
          go_wp2
          go_ret
          exact ⟨ret_bool HE.out, hb⟩
        have z5 : ((c : Int) == 47) = false := by simp; omega
        by_cases q6 : c = 62
        · have HE := Lib.hid (show true = (c == 9 || (c == 10 || (c == 12 || (c == 13 || (c == 32 || (c == 47 || c == 62)))))) by subst q6; rfl)
          generalize (c == 9 || (c == 10 || (c == 12 || (c == 13 || (c == 32 || (c == 47 || c == 62)))))) = E at HE ⊢
          have z6 : ((c : Int) == 62) = true := by simp; omega
          go_enter Tryz.func33, Tryz.ntmps33
          go_wp2_with fail
          refine cS.mono ?_
          rintro e w1 ⟨rfl, hb⟩
          have hcell := (HC.out.below hb) (i + 2 + n.length) hi
          rw [HCC.out] at hcell
          go_wp2
          go_ret
          exact ⟨ret_bool HE.out, hb⟩
        have z6 : ((c : Int) == 62) = false := by simp; omega
        have HE := Lib.hid (show false = (c == 9 || (c == 10 || (c == 12 || (c == 13 || (c == 32 || (c == 47 || c == 62)))))) by
          rw [eq_comm]; simp only [Bool.or_eq_false_iff, beq_eq_false_iff_ne, ne_eq]; exact ⟨q0, q1, q2, q3, q4, q5, q6⟩)
        generalize (c == 9 || (c == 10 || (c == 12 || (c == 13 || (c == 32 || (c == 47 || c == 62)))))) = E at HE ⊢
        clear q0 q1 q2 q3 q4 q5 q6
        go_enter Tryz.func33, Tryz.ntmps33
        go_wp2_with fail
        refine cS.mono ?_
        rintro e w1 ⟨rfl, hb⟩
        have hcell := (HC.out.below hb) (i + 2 + n.length) hi
        rw [HCC.out] at hcell
        go_wp2
        go_ret
        exact ⟨ret_bool HE.out, hb⟩
      · rw [decide_eq_false t2, Bool.false_and]
        have e2 : (smallL t == n) = false := beq_eq_false_iff_ne.2 t2
        generalize smallL t = S at cS e2
        clear t0 t1 t2 hc b0 b1
        go_enter Tryz.func33, Tryz.ntmps33
        go_wp2_with fail
        refine cS.mono ?_
        rintro e w1 ⟨rfl, hb⟩
        go_wp2
        go_ret
        exact ⟨rfl, hb⟩
    · have e1 : ((at0 l (i + 1) : Nat) : Int) ≠ 47 := by omega
      rw [decide_eq_false t1, Bool.false_and]
      generalize at0 l (i + 1) = y at c1 e1 b1
      have z1 : ((y : Int) != 47) = true := by simp; omega
      clear t0 t1 hc b0 cS hx e1
      go_enter Tryz.func33, Tryz.ntmps33
      go_wp2
      go_ret
      exact ⟨rfl, Below.refl _ _⟩
  · have e1 : ((at0 l i : Nat) : Int) ≠ 60 := by omega
    rw [decide_eq_false t0, Bool.false_and]
    generalize at0 l i = y at c0 e1 b0
    have z1 : ((y : Int) != 60) = true := by simp; omega
    clear t0 hc b1 cS hx e1 c1
    go_enter Tryz.func33, Tryz.ntmps33
    go_wp2
    go_ret
    exact ⟨rfl, Below.refl _ _⟩

set_option maxHeartbeats 1000000 in
set_option maxRecDepth 100000 in
theorem refEnds_short (n : List UInt8) (i k : Nat) (a : Option Addr) (w : World) (hi : k ≤ i + 2 + n.length) (hi2 : i ≤ 1000000) (hln : n.length ≤ 100000) :
    Calls Tryz.prog 33 #[.slice a k cap, .int .i64 (i : Int), .string ⟨n.toArray⟩] w fun e w' => e = .returned (.bool false) ∧ Below w.heap.size w w' := by
  have g1 : (k : Int) ≤ (i : Int) + 2 + (n.length : Int) := by omega
  have hns := str_size n
  go_enter Tryz.func33, Tryz.ntmps33
  go_wp2
  go_ret
  exact ⟨rfl, Below.refl _ _⟩

theorem refEnds_any (n : List UInt8) (i : Nat) (w : World) (hs : Sl l a cap w) (hi : i < l.length) (hl : l.length ≤ 1000000) (hln : n.length ≤ 100000) :
    Calls Tryz.prog 33 #[.slice a l.length cap, .int .i64 (i : Int), .string ⟨n.toArray⟩] w fun e w' => e = .returned (.bool (isE (fr n) (l.drop i))) ∧ Below w.heap.size w w' := by
  by_cases h : i + 2 + n.length < l.length
  · obtain ⟨hcap, h2 | ⟨b, off, rfl, hc⟩⟩ := hs
    · rw [h2] at hi; simp at hi
    · exact refEnds_long n i w hc hcap h hl
  · rw [isE_short (by rw [List.length_drop]; omega)]
    exact refEnds_short n i l.length a w (by omega) (by omega) hln

/-- where the loop stands -/
def ReRel (n l : List UInt8) (w : World) (v1 : Value) (N : Nat) (wr : World) : Prop :=
  ∃ k : Nat, v1 = .int .i64 (k : Int) ∧ k ≤ l.length ∧ ed n l k = N ∧ Below w.heap.size w wr

set_option maxHeartbeats 4000000 in
set_option maxRecDepth 100000 in
/-- the reference's End, from any byte on -/
theorem refEnd_any (n : List UInt8) (i : Nat) (w : World) (hs : Sl l a cap w) (hi : i ≤ l.length) (hl : l.length ≤ 1000000) (hln : n.length ≤ 100000) :
    Calls Tryz.prog 17 #[.slice a l.length cap, .int .i64 (i : Int), .string ⟨n.toArray⟩] w fun e w' => e = .returned (.int .i64 ((ed n l i : Nat) : Int)) ∧ Below w.heap.size w w' := by
  have cK := refKind_any n w
  by_cases h0 : kdN n = 0
  · rw [h0] at cK
    rw [show ed n l i = i by unfold ed; rw [if_pos h0]]
    clear h0
    go_enter Tryz.func17, Tryz.ntmps17
    go_wp2_with fail
    refine cK.mono ?_
    rintro e w1 ⟨rfl, hb⟩
    go_wp2
    go_ret
    exact ⟨rfl, hb⟩
  · obtain ⟨N, hN⟩ : ∃ N, ed n l i = N := ⟨_, rfl⟩
    rw [hN]
    have HN := Lib.hid hN
    have HS := Lib.hid hs
    have hk3 := kdN_le n
    clear hN hs
    by_cases h3 : kdN n = 3
    · rw [h3] at cK
      have HE := Lib.hid (show ∀ k, ed n l k = l.length from fun k => by unfold ed; rw [if_neg h0, if_pos h3])
      clear h0 h3 hk3
      go_enter Tryz.func17, Tryz.ntmps17
      go_wp2_with fail
      refine cK.mono ?_
      rintro e w1 ⟨rfl, hb⟩
      have HB := Lib.hid hb
      clear hb
      go_wp2
      go_loopw [1] (fun v wr => ReRel n l w v N wr) (fun v _ => l.length - (RowKit.intOf v).toNat)
      case atStart => exact ⟨i, rfl, hi, HN.out, HB.out⟩
      case round =>
        clear HB
        obtain ⟨k, rfl, hk, hN, hbw⟩ := hrel
        have HBW := Lib.hid hbw
        have HK := Lib.hid hN
        clear hbw hN
        by_cases hlt : k < l.length
        · have hlt' : (k : Int) < (l.length : Int) := by omega
          go_wp2
          go_roundw
          case rel => exact ⟨k + 1, by go_num, by omega, by rw [← HK.out, HE.out, HE.out], HBW.out⟩
          case measure => simp [RowKit.intOf]; omega
        · have hlt' : ¬ ((k : Int) < (l.length : Int)) := by omega
          have HF := Lib.hid (show k = N by rw [← HK.out, HE.out]; omega)
          go_wp2
          go_ret
          exact ⟨ret_int (by rw [HF.out]), HBW.out⟩
    · have HE := Lib.hid (show ∀ k, ed n l k = k + fe (fr n) (l.drop k) from fun k => by unfold ed; rw [if_neg h0, if_neg h3])
      generalize kdN n = K at cK h0 h3 hk3
      have k0 : ((K : Int) == 0) = false := by simp; omega
      have k3 : ((K : Int) == 3) = false := by simp; omega
      clear h0 h3
      go_enter Tryz.func17, Tryz.ntmps17
      go_wp2_with fail
      refine cK.mono ?_
      rintro e w1 ⟨rfl, hb⟩
      have HB := Lib.hid hb
      clear hb
      go_wp2
      go_loopw [1] (fun v wr => ReRel n l w v N wr) (fun v _ => l.length - (RowKit.intOf v).toNat)
      case atStart => exact ⟨i, rfl, hi, HN.out, HB.out⟩
      case round =>
        clear HB
        obtain ⟨k, rfl, hk, hN, hbw⟩ := hrel
        have HBW := Lib.hid hbw
        have HK := Lib.hid hN
        have hsz := hbw.size
        by_cases hlt : k < l.length
        · have hlt' : (k : Int) < (l.length : Int) := by omega
          have cE := refEnds_any n k wr (HS.out.below hbw) hlt hl hln
          have hst := fe_at (p := fr n) hlt
          cases hE : isE (fr n) (l.drop k) with
          | true =>
            rw [hE] at cE hst
            rw [if_pos rfl] at hst
            have HF := Lib.hid (show k = N by rw [← HK.out, HE.out]; omega)
            clear hst hE hbw hN
            go_wp2_with fail
            refine cE.mono ?_
            rintro e w2 ⟨rfl, hb2⟩
            go_wp2
            go_ret
            exact ⟨ret_int (by rw [HF.out]), HBW.out.trans (hb2.mono hsz)⟩
          | false =>
            rw [hE] at cE hst
            rw [if_neg (by decide)] at hst
            have HF := Lib.hid (show ed n l (k + 1) = N by rw [← HK.out, HE.out, HE.out]; omega)
            clear hst hE hbw hN
            go_wp2_with fail
            refine cE.mono ?_
            rintro e w2 ⟨rfl, hb2⟩
            go_wp2
            go_roundw
            case rel => exact ⟨k + 1, by go_num, by omega, HF.out, HBW.out.trans (hb2.mono hsz)⟩
            case measure => simp [RowKit.intOf]; omega
        · have hlt' : ¬ ((k : Int) < (l.length : Int)) := by omega
          have HF := Lib.hid (show k = N by
            rw [← HK.out, HE.out, List.drop_of_length_le (by omega)]
            rfl)
          clear hbw hN
          go_wp2
          go_ret
          exact ⟨ret_int (by rw [HF.out]), HBW.out⟩
end Go.Proofs.YtndcmapifihgeaaGreatDoor.Rw
