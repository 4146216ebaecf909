/- Kinds of characters: the functions of class, and of the reference, that take one character. -/
import Derived.Test.YtndcmapifihgeaaGreatDoorMkMk
import Derived.Test.YtndcmapifihgeaaGreatDoorProg
import Derived.WalkKit
import Derived.WalkLawsBesides
import Derived.Lib.OthersKept
import Derived.Lib.ConvBytes
import Derived.Lib.Hide
import Derived.Deep.LoopGhost
import Derived.Laws.OwnMore
import Derived.Laws.BytesArg
import Derived.LoopTactic
import Derived.Below
import Derived.OwnWalk
import Derived.Carry
import Derived.Lib.SmallJoins
namespace Go.Proofs.YtndcmapifihgeaaGreatDoor.Mk
open Go.RowKit Go.Lib

def blankZ (x : Int) : Bool := x == 9 || x == 10 || x == 12 || x == 32
def greatZ (x : Int) : Bool := decide (65 ≤ x) && decide (x ≤ 90)
def smallZ (x : Int) : Bool := decide (97 ≤ x) && decide (x ≤ 122)
def digitZ (x : Int) : Bool := decide (48 ≤ x) && decide (x ≤ 57)
def lowerZ (x : Int) : Int := if greatZ x then x + 32 else x

theorem blankZ_nat (n : Nat) : blankZ (n : Int) = blankN n := by
  unfold blankZ blankN
  rw [Bool.eq_iff_iff]; simp only [Bool.or_eq_true, beq_iff_eq]
  omega
theorem greatZ_nat (n : Nat) : greatZ (n : Int) = greatN n := by
  unfold greatZ greatN
  rw [Bool.eq_iff_iff]; simp only [Bool.and_eq_true, decide_eq_true_eq]
  omega
theorem smallZ_nat (n : Nat) : smallZ (n : Int) = smallN n := by
  unfold smallZ smallN
  rw [Bool.eq_iff_iff]; simp only [Bool.and_eq_true, decide_eq_true_eq]
  omega
theorem digitZ_nat (n : Nat) : digitZ (n : Int) = digitN n := by
  unfold digitZ digitN
  rw [Bool.eq_iff_iff]; simp only [Bool.and_eq_true, decide_eq_true_eq]
  omega

set_option maxHeartbeats 400000 in
theorem great_any (x : Int) (w : World) :
    Calls Tryz.prog 100 #[.int .i32 x] w fun e w' => e = .returned (.bool (greatZ x)) ∧ w = w' := by
  unfold greatZ
  cases h1 : decide (65 ≤ x) <;> cases h2 : decide (x ≤ 90)
  all_goals (go_enter Tryz.func100, Tryz.ntmps100; go_wp2; go_ret; exact ⟨rfl, rfl⟩)

set_option maxHeartbeats 400000 in
theorem small_any (x : Int) (w : World) :
    Calls Tryz.prog 99 #[.int .i32 x] w fun e w' => e = .returned (.bool (smallZ x)) ∧ w = w' := by
  unfold smallZ
  cases h1 : decide (97 ≤ x) <;> cases h2 : decide (x ≤ 122)
  all_goals (go_enter Tryz.func99, Tryz.ntmps99; go_wp2; go_ret; exact ⟨rfl, rfl⟩)

set_option maxHeartbeats 400000 in
theorem lower_any (x : Int) (w : World) :
    Calls Tryz.prog 91 #[.int .i32 x] w fun e w' => e = .returned (.int .i32 (lowerZ x)) ∧ w = w' := by
  have hG := great_any x w
  unfold lowerZ
  cases h : greatZ x
  · rw [h] at hG
    go_enter Tryz.func91, Tryz.ntmps91
    go_wp2_with fail
    refine hG.mono ?_
    rintro e w' ⟨rfl, rfl⟩
    go_wp2
    go_ret
    exact ⟨rfl, rfl⟩
  · rw [h] at hG
    simp [greatZ] at h
    have e : x + 32 = x - 65 + 97 := by omega
    rw [if_pos rfl, e]
    clear e
    go_enter Tryz.func91, Tryz.ntmps91
    go_wp2_with fail
    refine hG.mono ?_
    rintro e w' ⟨rfl, rfl⟩
    go_wp2
    go_ret
    exact ⟨rfl, rfl⟩

theorem lowerZ_nat (b : UInt8) : lowerZ (b.toNat : Int) = ((lowB b).toNat : Int) := by
  rw [lowB_toNat]
  unfold lowerZ
  rw [greatZ_nat]
  split <;> simp
end Go.Proofs.YtndcmapifihgeaaGreatDoor.Mk

/- class.Small: a text with small letters, whatever its bytes are; the example of the document. -/
namespace Go.Proofs.YtndcmapifihgeaaGreatDoor.Mk
open Go.RowKit Go.Lib

theorem str_size (l : List UInt8) : (⟨l.toArray⟩ : ByteArray).size = l.length := by simp [ByteArray.size]

/-- a row of bytes of one's own, whose first ones are those of the list, none of which a string shares -/
def Row (l : List UInt8) (g : Nat) (w : World) : Prop :=
  ∃ (cur : Array Value) (z : Nat), w.heap[g]? = some (.cells cur 5 (z, z + 1)) ∧ l.length ≤ z ∧ ∀ j, j < l.length → cur[j]? = some (.int .u8 (at0 l j : Int))

theorem Row.cell {l : List UInt8} {g : Nat} {w : World} (h : Row l g w) {j : Nat} (hj : j < l.length) : w.cell? ⟨g, j, none⟩ = some (.int .u8 (at0 l j : Int)) := by
  obtain ⟨cur, z, hg, _, hc⟩ := h
  simp [World.cell?, hg, hc j hj]

theorem Row.frozen {l : List UInt8} {g : Nat} {w : World} (h : Row l g w) {j : Nat} (hj : j < l.length) : w.frozen? ⟨g, j, none⟩ = false := by
  obtain ⟨cur, z, hg, hz, _⟩ := h
  simp [World.frozen?, hg]
  omega

theorem Row.other {l : List UInt8} {g : Nat} {w w' : World} (h : Row l g w) (he : w'.heap[g]? = w.heap[g]?) : Row l g w' := by
  obtain ⟨cur, z, hg, hz, hc⟩ := h
  exact ⟨cur, z, by rw [he]; exact hg, hz, hc⟩

theorem Row.set {l : List UInt8} {g : Nat} {w : World} (h : Row l g w) (j : Nat) (b : UInt8) : Row (l.set j b) g (w.setCell ⟨g, j, none⟩ (.int .u8 (b.toNat : Int))) := by
  obtain ⟨cur, z, hg, hz, hc⟩ := h
  refine ⟨cur.setIfInBounds j (.int .u8 (b.toNat : Int)), z, ?_, by rw [List.length_set]; exact hz, fun i hi => ?_⟩
  · have hlt : g < w.heap.size := by
      rcases Nat.lt_or_ge g w.heap.size with h' | h'
      · exact h'
      · simp [Array.getElem?_eq_none h'] at hg
    rw [Array.getElem?_eq_getElem hlt] at hg
    injection hg with hg
    simp [World.setCell, hlt]
    rw [Array.getElem_modify_self, hg]
  · rw [List.length_set] at hi
    rw [Array.getElem?_setIfInBounds]
    have hci := hc i hi
    have hlt : i < cur.size := by
      rcases Nat.lt_or_ge i cur.size with h' | h'
      · exact h'
      · simp [Array.getElem?_eq_none h'] at hci
    by_cases hij : j = i
    · subst hij
      rw [if_pos rfl, if_pos hlt]
      simp [at0, List.getD_eq_getElem?_getD, hi]
    · rw [if_neg hij, hci]
      simp [at0, List.getD_eq_getElem?_getD, hij]

/-- '[]byte(s)': a new row whose bytes are the string's. -/
theorem bytes_row (l : List UInt8) (w : World) : ∃ (cap : Nat) (W : World), (convert 9 22 (.string ⟨l.toArray⟩)).run Tryz.prog w = .ok (.slice (some ⟨w.heap.size, 0, none⟩) l.length cap) W ∧ Row l w.heap.size W ∧ W.heap.size = w.heap.size + 1 ∧ Below w.heap.size w W := by
  refine ⟨grownCap w l.length 0 5, Lib.bytesWorld w 5 ⟨l.toArray⟩, ?_, ?_, Lib.bytesWorld_size _ _ _, ?_⟩
  · have := Lib.run_convert_string_bytes (P := Tryz.prog) w 9 22 5 ⟨l.toArray⟩ Tryz.underlying9 Tryz.underlying22 Tryz.underlying5
    rw [str_size] at this
    exact this
  · refine ⟨_, _, Lib.bytesWorld_at_new w 5 ⟨l.toArray⟩, ?_, fun j hj => ?_⟩
    · simp [Lib.bytesCells]
    · have := Lib.bytesWorld_cell w 5 ⟨l.toArray⟩ j (by rw [str_size]; exact hj)
      simp only [World.cell?, Lib.bytesWorld_at_new] at this
      exact this
  · exact ⟨rfl, rfl, rfl, by rw [Lib.bytesWorld_size]; omega, fun k hk => Lib.bytesWorld_at_old w 5 _ k hk⟩

/-- 'string(b)' of such a row -/
theorem string_row {l : List UInt8} {g cap : Nat} {w : World} (h : Row l g w) : (convert 22 9 (.slice (some ⟨g, 0, none⟩) l.length cap)).run Tryz.prog w = .ok (.string ⟨l.toArray⟩) w := by
  refine run_convert_bytes_back w 22 9 5 ⟨g, 0, none⟩ cap l Tryz.underlying22 Tryz.underlying5 Tryz.underlying9 fun j hj => ?_
  have e : (⟨g, 0, none⟩ : Addr).add j = ⟨g, j, none⟩ := by unfold Addr.add; split <;> simp_all
  rw [e, h.cell hj]
  simp [at0, List.getD_eq_getElem?_getD, hj]

theorem ret_str {l m : List UInt8} (h : l = m) : Ending.returned (.string ⟨l.toArray⟩) = .returned (.string ⟨m.toArray⟩) := by rw [h]

theorem low_at {l : List UInt8} {i : Nat} (h : i < l.length) : lowerZ (at0 l i : Int) % 256 = ((lowB l[i]).toNat : Int) := by
  rw [getD_at0 h, lowerZ_nat]
  have := UInt8.toNat_lt (lowB l[i])
  omega

theorem upto_same {l : List UInt8} {i : Nat} (h : i < l.length) (hg : greatZ (at0 l i : Int) = false) : upto l (i + 1) = upto l i := by
  rw [getD_at0 h, greatZ_nat] at hg
  have e : smallL [l[i]] = [l[i]] := by
    show [lowB l[i]] = _
    unfold lowB
    rw [hg]
    rfl
  unfold upto
  rw [List.take_succ_eq_append_getElem h, smallL_append, List.append_assoc, List.drop_eq_getElem_cons h, e]
  rfl

/-- half way -/
def SmallRel (l : List UInt8) (w : World) (k : Nat) (gf : Nat) (wr : World) : Prop :=
  ∃ pos : Nat, wr.heap[k]? = some (.stringIter ⟨l.toArray⟩ pos) ∧ Row (upto l pos) w.heap.size wr ∧ Below w.heap.size w wr ∧ l.length ≤ pos + gf

set_option maxHeartbeats 1000000 in
set_option maxRecDepth 100000 in
theorem smallText_any (l : List UInt8) (w : World) :
    Calls Tryz.prog 110 #[.string ⟨l.toArray⟩] w fun e w' => e = .returned (.string ⟨(smallL l).toArray⟩) ∧ Below w.heap.size w w' := by
  obtain ⟨cap, W, hconv, hrow, hWs, hbW⟩ := bytes_row l w
  go_enter Tryz.func110, Tryz.ntmps110
  go_wp2
  go_loopg [] l.length (fun gf wx => SmallRel l w (w.heap.size + 1) gf wx)
  case atStart =>
    refine ⟨0, by rw [← hWs]; exact World.iter_heap W _ 0, ?_, ?_, by omega⟩
    · rw [upto_zero]; exact hrow.other (by show (W.heap.push _)[w.heap.size]? = _; rw [Array.getElem?_push, if_neg (by omega)])
    · exact hbW.alloc (by omega) _
  case round =>
    obtain ⟨pos, hit, hr, hbw, hfu⟩ := hrel
    by_cases hps : pos < l.length
    · obtain ⟨g', rfl⟩ : ∃ g', gk = g' + 1 := ⟨gk - 1, by omega⟩
      have hnx : ∀ ty, (Instr.next (.pointer (some ⟨w.heap.size + 1, 0, none⟩)) true ty).run Tryz.prog wr = _ := fun ty => Lib.run_next_any_at wr (w.heap.size + 1) ⟨l.toArray⟩ pos ty hit (by rw [str_size]; exact hps)
      rw [decode_dec] at hnx
      have hwd := dec_pos l pos
      by_cases ha : at0 l pos < 128
      · rw [dec_ascii ha] at hnx
        simp only at hnx
        have hit2 := Lib.iterAt_heap wr (w.heap.size + 1) ⟨l.toArray⟩ pos (pos + 1) hit
        have hbw2 := Lib.below_iterAt hbw (k := w.heap.size + 1) (by omega) ⟨l.toArray⟩ (pos + 1)
        have hr2 := hr.other (Lib.iterAt_other wr (w.heap.size + 1) w.heap.size ⟨l.toArray⟩ (pos + 1) (by omega))
        obtain ⟨V, hV⟩ : ∃ V, wr.iterAt (w.heap.size + 1) ⟨l.toArray⟩ (pos + 1) = V := ⟨_, rfl⟩
        rw [hV] at hnx hit2 hbw2 hr2
        clear hV
        have hG := great_any (at0 l pos : Int) V
        have hL := lower_any (at0 l pos : Int) V
        cases hg : greatZ (at0 l pos : Int)
        · rw [hg] at hG
          go_wp2_with fail
          refine hG.mono ?_
          rintro e w' ⟨rfl, rfl⟩
          go_wp2
          go_roundg g'
          case measure => omega
          case rel =>
            refine ⟨pos + 1, hit2, ?_, hbw2, by omega⟩
            rw [upto_same hps hg]; exact hr2
        · rw [hg] at hG
          have hcell := hr2.cell (j := pos) (by rw [upto_length]; exact hps)
          have hfr := hr2.frozen (j := pos) (by rw [upto_length]; exact hps)
          have hps' : (pos : Int) < (l.length : Int) := by omega
          go_wp2_with fail
          refine hG.mono ?_
          rintro e w' ⟨rfl, rfl⟩
          go_wp2_with fail
          refine hL.mono ?_
          rintro e w' ⟨rfl, rfl⟩
          go_wp2
          go_roundg g'
          case measure => omega
          case rel =>
            refine ⟨pos + 1, ?_, ?_, ?_, by omega⟩
            · exact (heap_setCell_other V ⟨w.heap.size, pos, none⟩ (w.heap.size + 1) _ (by simp)).trans hit2
            · rw [upto_succ l pos hps, low_at hps]
              exact hr2.set pos _
            · refine hbw2.trans ⟨rfl, rfl, rfl, by simp, fun k hk => ?_⟩
              exact heap_setCell_other V ⟨w.heap.size, pos, none⟩ k _ (by simp; omega)
      · have hh : 128 ≤ at0 l pos := by omega
        have hR := dec_high hh
        have hsp := dec_span hps hh
        have hup := Lib.hid (upto_span l pos _ hsp.1 hsp.2)
        obtain ⟨⟨R, K⟩, hRK⟩ : ∃ R, dec l pos = R := ⟨_, rfl⟩
        rw [hRK] at hnx hR hwd hup
        clear hRK hsp ha hh
        simp only at hnx hR hwd hup
        have hit2 := Lib.iterAt_heap wr (w.heap.size + 1) ⟨l.toArray⟩ pos (pos + K) hit
        have hbw2 := Lib.below_iterAt hbw (k := w.heap.size + 1) (by omega) ⟨l.toArray⟩ (pos + K)
        have hr2 := hr.other (Lib.iterAt_other wr (w.heap.size + 1) w.heap.size ⟨l.toArray⟩ (pos + K) (by omega))
        obtain ⟨V, hV⟩ : ∃ V, wr.iterAt (w.heap.size + 1) ⟨l.toArray⟩ (pos + K) = V := ⟨_, rfl⟩
        rw [hV] at hnx hit2 hbw2 hr2
        clear hV
        have hG := great_any (R : Int) V
        rw [show greatZ (R : Int) = false by simp [greatZ]; omega] at hG
        go_wp2_with fail
        refine hG.mono ?_
        rintro e w' ⟨rfl, rfl⟩
        go_wp2
        go_roundg g'
        case measure => omega
        case rel =>
          refine ⟨pos + K, hit2, ?_, hbw2, by omega⟩
          rw [hup.out]; exact hr2
    · have hnx : ∀ ty, (Instr.next (.pointer (some ⟨w.heap.size + 1, 0, none⟩)) true ty).run Tryz.prog wr = _ := fun ty => Lib.run_next_end_at wr (w.heap.size + 1) _ pos ty hit (by rw [str_size]; exact hps)
      have hstr := string_row (cap := cap) hr
      rw [upto_length] at hstr
      go_wp2
      go_ret
      refine ⟨ret_str (upto_end l pos (by omega)), hbw⟩

end Go.Proofs.YtndcmapifihgeaaGreatDoor.Mk

/- Slices of bytes, letters, tag.Begins, and bytes.HasPrefix, walked. -/
namespace Go.Proofs.YtndcmapifihgeaaGreatDoor.Mk
open Go.RowKit Go.Lib

variable {l : List UInt8} {a : Option Addr} {cap i : Nat} {w w' : World}

theorem ret_bool {a b : Bool} (h : a = b) : Ending.returned (.bool a) = .returned (.bool b) := by rw [h]
theorem ret_int {k : IntKind} {a b : Int} (h : a = b) : Ending.returned (.int k a) = .returned (.int k b) := by rw [h]

/-- what the cells of a slice of bytes hold -/
def Cells (l : List UInt8) (b off : Nat) (w : World) : Prop := ∀ j, j < l.length → w.cell? ⟨b, off + j, none⟩ = some (.int .u8 ((at0 l j : Nat) : Int))

theorem cell_lt {a : Addr} {v : Value} (hc : w.cell? a = some v) : a.block < w.heap.size := by
  rcases Nat.lt_or_ge a.block w.heap.size with h' | h'
  · exact h'
  · simp [World.cell?, Array.getElem?_eq_none h'] at hc

theorem Cells.below {b off : Nat} (h : Cells l b off w) (hb : Below w.heap.size w w') : Cells l b off w' :=
  fun j hj => (hb.cell (cell_lt (h j hj))).trans (h j hj)

theorem Cells.drop {b off : Nat} (h : Cells l b off w) (i : Nat) : Cells (l.drop i) b (off + i) w := by
  intro j hj
  simp only [List.length_drop] at hj
  rw [Nat.add_assoc, at0_drop]
  exact h (i + j) (by omega)

theorem at0_take {n j : Nat} (h : j < n) : at0 (l.take n) j = at0 l j := by
  unfold at0
  rw [List.getD_eq_getElem?_getD, List.getD_eq_getElem?_getD, List.getElem?_take, if_pos h]

theorem Cells.take {b off : Nat} (h : Cells l b off w) (n : Nat) : Cells (l.take n) b off w := by
  intro j hj
  simp only [List.length_take] at hj
  rw [at0_take (by omega)]
  exact h j (by omega)

/-- a slice of bytes, nil or not: its bytes are the list's -/
def Sl (l : List UInt8) (a : Option Addr) (cap : Nat) (w : World) : Prop := l.length ≤ cap ∧ (l = [] ∨ ∃ b off, a = some ⟨b, off, none⟩ ∧ Cells l b off w)

theorem Sl.below (h : Sl l a cap w) (hb : Below w.heap.size w w') : Sl l a cap w' := by
  obtain ⟨h1, h2 | ⟨b, off, rfl, hc⟩⟩ := h
  · exact ⟨h1, Or.inl h2⟩
  · exact ⟨h1, Or.inr ⟨b, off, rfl, hc.below hb⟩⟩

theorem string_cells {t : List UInt8} {b off n cap : Nat} {w : World} (hc : Cells t b off w) (hn : t.length = n) :
    (convert 22 9 (.slice (some ⟨b, off, none⟩) n cap)).run Tryz.prog w = .ok (.string ⟨t.toArray⟩) w := by
  subst hn
  refine run_convert_bytes_back w 22 9 5 ⟨b, off, none⟩ cap t Tryz.underlying22 Tryz.underlying5 Tryz.underlying9 fun j hj => ?_
  have := hc j hj
  have e : (⟨b, off, none⟩ : Addr).add j = ⟨b, off + j, none⟩ := by unfold Addr.add; split <;> simp_all
  rw [e, this]
  simp [at0, List.getD_eq_getElem?_getD, List.getElem?_eq_getElem hj]

def letterZ (x : Int) : Bool := smallZ x || greatZ x

set_option maxHeartbeats 400000 in
theorem letter_any (x : Int) (w : World) :
    Calls Tryz.prog 74 #[.int .i32 x] w fun e w' => e = .returned (.bool (letterZ x)) ∧ w = w' := by
  have hS := small_any x w
  have hG := great_any x w
  unfold letterZ
  cases h1 : smallZ x <;> cases h2 : greatZ x <;> rw [h1] at hS <;> rw [h2] at hG
  · go_enter Tryz.func74, Tryz.ntmps74
    go_wp2_with fail
    refine hS.mono ?_
    rintro e w' ⟨rfl, rfl⟩
    go_wp2_with fail
    refine hG.mono ?_
    rintro e w' ⟨rfl, rfl⟩
    go_wp2
    go_ret
    exact ⟨rfl, rfl⟩
  · go_enter Tryz.func74, Tryz.ntmps74
    go_wp2_with fail
    refine hS.mono ?_
    rintro e w' ⟨rfl, rfl⟩
    go_wp2_with fail
    refine hG.mono ?_
    rintro e w' ⟨rfl, rfl⟩
    go_wp2
    go_ret
    exact ⟨rfl, rfl⟩
  all_goals
    go_enter Tryz.func74, Tryz.ntmps74
    go_wp2_with fail
    refine hS.mono ?_
    rintro e w' ⟨rfl, rfl⟩
    go_wp2
    go_ret
    exact ⟨rfl, rfl⟩

/-- whether a tag begins a list, and of which kind -/
def bg (m : List UInt8) : Nat := if at0 m 0 = 60 then (if letN (at0 m 1) = true then 1 else if at0 m 1 = 47 ∧ letN (at0 m 2) = true then 2 else 0) else 0
def bgAt (l : List UInt8) (x : Int) : Nat := if 0 ≤ x ∧ x < (l.length : Int) then bg (l.drop x.toNat) else 0

/-- the byte at a place; -1: there is none -/
def lk (l : List UInt8) (x : Int) : Int := if 0 ≤ x ∧ x < (l.length : Int) then ((at0 l x.toNat : Nat) : Int) else -1

set_option maxHeartbeats 1000000 in
set_option maxRecDepth 100000 in
theorem look_any (x : Int) (w : World) (hs : Sl l a cap w) (hlen : l.length ≤ 1000000) : Calls Tryz.prog 73 #[.slice a l.length cap, .int .i64 x] w fun e w' => e = .returned (.int .i32 (lk l x)) ∧ w = w' := by
  by_cases h : 0 ≤ x ∧ x < (l.length : Int)
  · obtain ⟨i, rfl⟩ : ∃ i : Nat, x = i := ⟨x.toNat, by omega⟩
    have e : lk l (i : Int) = ((at0 l i : Nat) : Int) := by unfold lk; rw [if_pos h]; rfl
    rw [e]
    obtain ⟨hcap, h2 | ⟨b, off, rfl, hc⟩⟩ := hs
    · subst h2; simp at h; omega
    · have c1 := hc i (by omega)
      have h0 : ¬ ((i : Int) < 0) := by omega
      have h1 : (i : Int) < (l.length : Int) := h.2
      have hb := at0_lt l i
      generalize at0 l i = C at c1 hb ⊢
      clear e h hc
      go_enter Tryz.func73, Tryz.ntmps73
      go_wp2
      go_ret
      exact ⟨rfl, rfl⟩
  · have e : lk l x = -1 := if_neg h
    rw [e]
    clear e
    by_cases h0 : x < 0
    · go_enter Tryz.func73, Tryz.ntmps73
      go_wp2
      go_ret
      exact ⟨rfl, rfl⟩
    · have h1 : ¬ (x < (l.length : Int)) := by omega
      go_enter Tryz.func73, Tryz.ntmps73
      go_wp2
      go_ret
      exact ⟨rfl, rfl⟩

theorem letterZ_nat (c : Nat) : letterZ (c : Int) = letN c := by
  unfold letterZ letN
  rw [smallZ_nat, greatZ_nat]
theorem lk_in {i : Nat} (h : i < l.length) : lk l (i : Int) = ((at0 l i : Nat) : Int) := by unfold lk; rw [if_pos (by omega)]; rfl
theorem lk_letter (i : Nat) : letterZ (lk l (i : Int)) = letN (at0 l i) := by
  by_cases h : i < l.length
  · rw [lk_in h, letterZ_nat]
  · have e : lk l (i : Int) = -1 := if_neg (by omega)
    rw [e, at0_out (by omega)]
    rfl
theorem lk_eq (i c : Nat) (hc : c ≠ 0) : (lk l (i : Int) == (c : Int)) = decide (at0 l i = c) := by
  by_cases h : i < l.length
  · rw [lk_in h, Bool.eq_iff_iff]; simp; omega
  · have e : lk l (i : Int) = -1 := if_neg (by omega)
    rw [e, at0_out (by omega), Bool.eq_iff_iff]; simp; omega

theorem ret_bb {p q r s : Bool} (h : p = r) (h' : q = s) : Ending.returned (.tuple #[.bool p, .bool q]) = .returned (.tuple #[.bool r, .bool s]) := by rw [h, h']

theorem bg_at (l : List UInt8) (i : Nat) (h : i < l.length) : bgAt l (i : Int) = (if at0 l i = 60 then (if letN (at0 l (i + 1)) = true then 1 else if at0 l (i + 1) = 47 ∧ letN (at0 l (i + 2)) = true then 2 else 0) else 0) := by
  have hbg : bgAt l (i : Int) = bg (l.drop i) := if_pos (by omega)
  have d0 : at0 (l.drop i) 0 = at0 l i := by rw [at0_drop]; rfl
  have d1 : at0 (l.drop i) 1 = at0 l (i + 1) := at0_drop _ _ _
  have d2 : at0 (l.drop i) 2 = at0 l (i + 2) := at0_drop _ _ _
  rw [hbg]
  unfold bg
  rw [d0, d1, d2]

set_option maxHeartbeats 2000000 in
set_option maxRecDepth 100000 in
theorem begins_any (x : Int) (w : World) (hs : Sl l a cap w) (hlen : l.length ≤ 1000000) : Calls Tryz.prog 52 #[.slice a l.length cap, .int .i64 x] w fun e w' => e = .returned (.tuple #[.bool (decide (bgAt l x ≠ 0)), .bool (decide (bgAt l x = 2))]) ∧ w = w' := by
  have c0 := look_any x w hs hlen
  by_cases h : 0 ≤ x ∧ x < (l.length : Int)
  · obtain ⟨i, rfl⟩ : ∃ i : Nat, x = i := ⟨x.toNat, by omega⟩
    have hbg := bg_at l i (by omega)
    have hil : i < 1000000 := by omega
    have c1 := look_any ((i : Int) + 1) w hs hlen
    have c2 := look_any ((i : Int) + 2) w hs hlen
    have k0 : (lk l (i : Int) == 60) = decide (at0 l i = 60) := lk_eq (l := l) i 60 (by decide)
    have k1 : (lk l ((i : Int) + 1) == 47) = decide (at0 l (i + 1) = 47) := lk_eq (l := l) (i + 1) 47 (by decide)
    have cL1 := letter_any (lk l ((i : Int) + 1)) w
    have cL2 := letter_any (lk l ((i : Int) + 2)) w
    rw [show letterZ (lk l ((i : Int) + 1)) = letN (at0 l (i + 1)) from lk_letter (i + 1)] at cL1
    rw [show letterZ (lk l ((i : Int) + 2)) = letN (at0 l (i + 2)) from lk_letter (i + 2)] at cL2
    generalize lk l (i : Int) = Y0 at c0 k0
    generalize lk l ((i : Int) + 1) = Y1 at c1 k1 cL1
    generalize lk l ((i : Int) + 2) = Y2 at c2 cL2
    clear h hs
    by_cases t0 : at0 l i = 60
    · rw [if_pos t0] at hbg
      rw [decide_eq_true t0] at k0
      have e0 : (Y0 != 60) = false := by simp only [bne, k0]; rfl
      by_cases t1 : at0 l (i + 1) = 47
      · rw [decide_eq_true t1] at k1
        rw [t1] at hbg
        simp only [show letN 47 = false from rfl, Bool.false_eq_true, if_false, true_and] at hbg
        cases t2 : letN (at0 l (i + 2)) with
        | true =>
          rw [t2] at cL2 hbg
          rw [hbg]
          clear hbg t0 t1 t2 cL1
          go_enter Tryz.func52, Tryz.ntmps52
          go_wp2_with fail
          refine c0.mono ?_
          rintro e w1 ⟨rfl, rfl⟩
          go_wp2_with fail
          refine c1.mono ?_
          rintro e w1 ⟨rfl, rfl⟩
          go_wp2_with fail
          refine c2.mono ?_
          rintro e w1 ⟨rfl, rfl⟩
          go_wp2_with fail
          refine cL2.mono ?_
          rintro e w1 ⟨rfl, rfl⟩
          go_wp2
          go_ret2
          exact ⟨rfl, rfl⟩
        | false =>
          rw [t2] at cL2 hbg
          rw [hbg]
          clear hbg t0 t1 t2 cL1
          go_enter Tryz.func52, Tryz.ntmps52
          go_wp2_with fail
          refine c0.mono ?_
          rintro e w1 ⟨rfl, rfl⟩
          go_wp2_with fail
          refine c1.mono ?_
          rintro e w1 ⟨rfl, rfl⟩
          go_wp2_with fail
          refine c2.mono ?_
          rintro e w1 ⟨rfl, rfl⟩
          go_wp2_with fail
          refine cL2.mono ?_
          rintro e w1 ⟨rfl, rfl⟩
          go_wp2
          go_ret2
          exact ⟨rfl, rfl⟩
      · rw [decide_eq_false t1] at k1
        simp only [t1, false_and, if_false] at hbg
        cases t2 : letN (at0 l (i + 1)) with
        | true =>
          rw [t2] at cL1 hbg
          rw [hbg]
          clear hbg t0 t1 t2 cL2 c2
          go_enter Tryz.func52, Tryz.ntmps52
          go_wp2_with fail
          refine c0.mono ?_
          rintro e w1 ⟨rfl, rfl⟩
          go_wp2_with fail
          refine c1.mono ?_
          rintro e w1 ⟨rfl, rfl⟩
          go_wp2_with fail
          refine c1.mono ?_
          rintro e w1 ⟨rfl, rfl⟩
          go_wp2_with fail
          refine cL1.mono ?_
          rintro e w1 ⟨rfl, rfl⟩
          go_wp2
          go_ret2
          exact ⟨rfl, rfl⟩
        | false =>
          rw [t2] at cL1 hbg
          rw [hbg]
          clear hbg t0 t1 t2 cL2 c2
          go_enter Tryz.func52, Tryz.ntmps52
          go_wp2_with fail
          refine c0.mono ?_
          rintro e w1 ⟨rfl, rfl⟩
          go_wp2_with fail
          refine c1.mono ?_
          rintro e w1 ⟨rfl, rfl⟩
          go_wp2_with fail
          refine c1.mono ?_
          rintro e w1 ⟨rfl, rfl⟩
          go_wp2_with fail
          refine cL1.mono ?_
          rintro e w1 ⟨rfl, rfl⟩
          go_wp2
          go_ret2
          exact ⟨rfl, rfl⟩
    · rw [if_neg t0] at hbg
      rw [decide_eq_false t0] at k0
      have e0 : (Y0 != 60) = true := by simp only [bne, k0]; rfl
      rw [hbg]
      clear hbg t0
      go_enter Tryz.func52, Tryz.ntmps52
      go_wp2_with fail
      refine c0.mono ?_
      rintro e w1 ⟨rfl, rfl⟩
      go_wp2
      go_ret2
      exact ⟨rfl, rfl⟩
  · have e : lk l x = -1 := if_neg h
    have hb : bgAt l x = 0 := if_neg h
    rw [hb]
    rw [e] at c0
    clear e hb
    go_enter Tryz.func52, Tryz.ntmps52
    go_wp2_with fail
    refine c0.mono ?_
    rintro e w1 ⟨rfl, rfl⟩
    go_wp2
    go_ret2
    exact ⟨rfl, rfl⟩


end Go.Proofs.YtndcmapifihgeaaGreatDoor.Mk

/- bytes.Equal, bytes.HasPrefix and the program's has, walked. -/
namespace Go.Proofs.YtndcmapifihgeaaGreatDoor.Mk
open Go.RowKit Go.Lib

variable {l : List UInt8} {a : Option Addr} {cap i : Nat} {w w' : World}

set_option maxHeartbeats 1000000 in
set_option maxRecDepth 100000 in
theorem equal_any (x y : Value) (t p : List UInt8) (w : World) (hx : (convert 22 9 x).run Tryz.prog w = .ok (.string ⟨t.toArray⟩) w) (hy : (convert 22 9 y).run Tryz.prog w = .ok (.string ⟨p.toArray⟩) w) :
    Calls Tryz.prog 117 #[x, y] w fun e w' => e = .returned (.bool (decide (t = p))) ∧ w = w' := by
  go_enter Tryz.func117, Tryz.ntmps117
  go_wp2
  go_ret
  exact ⟨ret_bool (by rw [Bool.eq_iff_iff]; simp), rfl⟩

set_option maxHeartbeats 1000000 in
set_option maxRecDepth 100000 in
theorem prefix_short (n k cap c2 : Nat) (a b : Option Addr) (w : World) (h : n < k) :
    Calls Tryz.prog 109 #[.slice a n cap, .slice b k c2] w fun e w' => e = .returned (.bool false) ∧ w = w' := by
  have h1 : ¬ ((k : Int) ≤ (n : Int)) := by omega
  go_enter Tryz.func109, Tryz.ntmps109
  go_wp2
  go_ret
  exact ⟨rfl, rfl⟩

set_option maxHeartbeats 1000000 in
set_option maxRecDepth 100000 in
theorem prefix_long (m p : List UInt8) (b off cap g c2 n k : Nat) (w : World) (hc : Cells m b off w) (hn : m.length = n) (hk : p.length = k) (hcap : n ≤ cap) (h : k ≤ n) (hr : Row p g w) :
    Calls Tryz.prog 109 #[.slice (some ⟨b, off, none⟩) n cap, .slice (some ⟨g, 0, none⟩) k c2] w fun e w' => e = .returned (.bool (fits p m)) ∧ w = w' := by
  have hx := string_cells (cap := cap) (hc.take k) (n := k) (by rw [List.length_take]; omega)
  have hy := string_row (cap := c2) hr
  rw [hk] at hy
  have cE := equal_any _ _ _ _ w hx hy
  rw [← show fits p m = decide (m.take k = p) by rw [← hk]; exact fits_take (by omega)] at cE
  have h1 : (k : Int) ≤ (n : Int) := by omega
  have h2 : (k : Int) ≤ (cap : Int) := by omega
  clear hx hy hn hk hr hc
  generalize fits p m = F at cE ⊢
  go_enter Tryz.func109, Tryz.ntmps109
  go_wp2_with fail
  refine cE.mono ?_
  rintro e w' ⟨rfl, rfl⟩
  go_wp2
  go_ret
  exact ⟨rfl, rfl⟩

set_option maxHeartbeats 1000000 in
set_option maxRecDepth 100000 in
theorem has_long (p : List UInt8) (b off i : Nat) (w : World) (hc : Cells l b off w) (hcap : l.length ≤ cap) (hi : i + p.length ≤ l.length) (hp : 0 < p.length) :
    Calls Tryz.prog 80 #[.slice (some ⟨b, off, none⟩) l.length cap, .int .i64 (i : Int), .string ⟨p.toArray⟩] w fun e w' => e = .returned (.bool (fits p (l.drop i))) ∧ Below w.heap.size w w' := by
  obtain ⟨c2, W, hconv, hrow, hWs, hbW⟩ := bytes_row p w
  have cP := prefix_long (l.drop i) p b (off + i) (cap - i) w.heap.size c2 (l.length - i) p.length W ((hc.drop i).below hbW) (by rw [List.length_drop]) rfl (by omega) (by omega) hrow
  have HB := Lib.hid hbW
  generalize fits p (l.drop i) = F at cP ⊢
  have h1 : i < cap := by omega
  have h2 : i ≤ l.length := by omega
  generalize l.length = n at *
  clear hrow hbW hc hi hp hcap
  go_enter Tryz.func80, Tryz.ntmps80
  go_wp2_with fail
  refine cP.mono ?_
  rintro e w' ⟨rfl, rfl⟩
  go_wp2
  go_ret
  exact ⟨rfl, HB.out⟩

set_option maxHeartbeats 1000000 in
set_option maxRecDepth 100000 in
theorem has_short (p : List UInt8) (n i : Nat) (a : Option Addr) (w : World) (hcap : n ≤ cap) (hi : i ≤ n) (hp : n < i + p.length) :
    Calls Tryz.prog 80 #[.slice a n cap, .int .i64 (i : Int), .string ⟨p.toArray⟩] w fun e w' => e = .returned (.bool false) ∧ Below w.heap.size w w' := by
  obtain ⟨c2, W, hconv, hrow, hWs, hbW⟩ := bytes_row p w
  have HB := Lib.hid hbW
  have cP := fun a' c' => prefix_short (n - i) p.length c' c2 a' (some ⟨w.heap.size, 0, none⟩) W (by omega)
  have hic : i ≤ cap := by omega
  clear hrow hbW hcap hp
  by_cases hce : cap = i
  · subst hce
    go_enter Tryz.func80, Tryz.ntmps80
    go_wp2_with fail
    refine (cP _ _).mono ?_
    rintro e w' ⟨rfl, rfl⟩
    go_wp2
    go_ret
    exact ⟨rfl, HB.out⟩
  · go_enter Tryz.func80, Tryz.ntmps80
    go_wp2_with fail
    refine (cP _ _).mono ?_
    rintro e w' ⟨rfl, rfl⟩
    go_wp2
    go_ret
    exact ⟨rfl, HB.out⟩

/-- has: whether a word stands at a byte -/
theorem has_any (p : List UInt8) (i : Nat) (w : World) (hs : Sl l a cap w) (hi : i ≤ l.length) (hp : 0 < p.length) :
    Calls Tryz.prog 80 #[.slice a l.length cap, .int .i64 (i : Int), .string ⟨p.toArray⟩] w fun e w' => e = .returned (.bool (fits p (l.drop i))) ∧ Below w.heap.size w w' := by
  by_cases h : i + p.length ≤ l.length
  · obtain ⟨hcap, h2 | ⟨b, off, rfl, hc⟩⟩ := hs
    · subst h2; simp only [List.length_nil] at h; omega
    · exact has_long p b off i w hc hcap h hp
  · rw [fits_short (by rw [List.length_drop]; omega)]
    exact has_short p l.length i a w hs.1 hi (by omega)
end Go.Proofs.YtndcmapifihgeaaGreatDoor.Mk

/- The program's behindFirst, walked. -/
namespace Go.Proofs.YtndcmapifihgeaaGreatDoor.Mk
open Go.RowKit Go.Lib

variable {l : List UInt8} {a : Option Addr} {cap i : Nat} {w w' : World}

/-- a row of words -/
def Words (E : List (List UInt8)) (g : Nat) (w : World) : Prop := ∀ j (h : j < E.length), w.cell? ⟨g, j, none⟩ = some (.string ⟨(E[j]).toArray⟩)
theorem Words.below {E : List (List UInt8)} {g : Nat} (h : Words E g w) (hb : Below w.heap.size w w') : Words E g w' :=
  fun j hj => (hb.cell (cell_lt (h j hj))).trans (h j hj)

theorem hit_drop {E : List (List UInt8)} {j : Nat} (h : j < E.length) (m : List UInt8) : hit (E.drop j) m = if fits E[j] m then (E[j]).length else hit (E.drop (j + 1)) m := by
  rw [List.drop_eq_getElem_cons h]
  rfl
theorem bfr_at {E : List (List UInt8)} {k : Nat} (h : k < l.length) : bfr E (l.drop k) = if hit E (l.drop k) = 0 then bfr E (l.drop (k + 1)) + 1 else hit E (l.drop k) := by
  rw [List.drop_eq_getElem_cons h]
  rfl

/-- where the outer loop stands -/
def BfRel (E : List (List UInt8)) (l : List UInt8) (N : Nat) (w : World) (v7 : Value) (wr : World) : Prop :=
  ∃ k : Nat, v7 = .int .i64 (k : Int) ∧ k ≤ l.length ∧ k + bfr E (l.drop k) = N ∧ Below w.heap.size w wr
/-- where the inner loop stands -/
def HtRel (E : List (List UInt8)) (l : List UInt8) (k : Nat) (w : World) (v19 : Value) (wr : World) : Prop :=
  ∃ j : Nat, v19 = .int .i64 (j : Int) ∧ j ≤ E.length ∧ hit (E.drop j) (l.drop k) = hit E (l.drop k) ∧ Below w.heap.size w wr

set_option maxHeartbeats 4000000 in
set_option maxRecDepth 100000 in
theorem behind_any (E : List (List UInt8)) (i g cE : Nat) (w : World) (hs : Sl l a cap w) (hE : Words E g w) (hpos : ∀ p ∈ E, 0 < p.length) (hmax : ∀ p ∈ E, p.length ≤ 10) (hlE : E.length ≤ 10) (hi : i ≤ l.length) (hl : l.length ≤ 1000000) :
    Calls Tryz.prog 84 #[.slice a l.length cap, .int .i64 (i : Int), .slice (some ⟨g, 0, none⟩) E.length cE] w fun e w' => e = .returned (.int .i64 ((i + bfr E (l.drop i) : Nat) : Int)) ∧ Below w.heap.size w w' := by
  obtain ⟨N, hN⟩ : ∃ N, i + bfr E (l.drop i) = N := ⟨_, rfl⟩
  rw [hN]
  have HN := Lib.hid hN
  have HS := Lib.hid hs
  have HE := Lib.hid hE
  have HP := Lib.hid hpos
  have HM := Lib.hid hmax
  clear hN hs hE hpos hmax
  go_enter Tryz.func84, Tryz.ntmps84
  go_wp2
  go_loopw [7] (fun v wr => BfRel E l N w v wr) (fun v _ => l.length - (RowKit.intOf v).toNat)
  case atStart => exact ⟨i, rfl, hi, HN.out, Below.refl _ w⟩
  case round =>
    obtain ⟨k, rfl, hk, hN, hbw⟩ := hrel
    have hsz := hbw.size
    by_cases hlt : k < l.length
    · have hlt' : (k : Int) < (l.length : Int) := by omega
      have HN2 := Lib.hid hN
      have HB := Lib.hid hbw
      clear hN hbw
      go_wp2
      generalize wr = w0 at *
      go_loopw [19] (fun v wr => HtRel E l k w v wr) (fun v _ => E.length - (RowKit.intOf v).toNat)
      case atStart => exact ⟨0, rfl, by omega, rfl, HB.out⟩
      case round =>
        obtain ⟨j, rfl, hj, hh, hbi⟩ := hrel
        have hszi := hbi.size
        by_cases hjl : j < E.length
        · have hjl' : (j : Int) < (E.length : Int) := by omega
          have hcell := (HE.out.below hbi) j hjl
          have hpj := HP.out E[j] (List.getElem_mem hjl)
          have hmj := HM.out E[j] (List.getElem_mem hjl)
          have cH := has_any E[j] k wr (HS.out.below hbi) (by omega) hpj
          have HH := Lib.hid (hit_drop hjl (l.drop k))
          have HHI := Lib.hid hh
          have HBI := Lib.hid hbi
          have HBF := Lib.hid (bfr_at (E := E) hlt)
          clear hh hbi
          generalize E[j] = p at hcell cH HH hmj hpj
          have hps := str_size p
          obtain ⟨m, hm⟩ : ∃ m, l.drop k = m := ⟨_, rfl⟩
          rw [hm] at cH HH HHI HBF HN2
          have HM2 := Lib.hid hm
          clear hm
          cases hf : fits p m with
          | false =>
            rw [hf] at cH HH
            go_wp2_with fail
            refine cH.mono ?_
            rintro e w1 ⟨rfl, hb1⟩
            go_wp2
            go_roundw
            case rel => exact ⟨j + 1, by go_num, by omega, by rw [HM2.out, ← HHI.out, HH.out]; rfl, HBI.out.trans (hb1.mono hszi)⟩
            case measure => simp [RowKit.intOf]; omega
          | true =>
            rw [hf] at cH HH
            go_wp2_with fail
            refine cH.mono ?_
            rintro e w1 ⟨rfl, hb1⟩
            go_wp2
            go_ret
            refine ⟨ret_int ?_, HBI.out.trans (hb1.mono hszi)⟩
            have h1 := HH.out
            rw [HHI.out] at h1
            simp only [if_true] at h1
            have h2 := HBF.out
            rw [h1, if_neg (by omega)] at h2
            have h3 := HN2.out
            omega
        · have hjl' : ¬ ((j : Int) < (E.length : Int)) := by omega
          have h0 : hit E (l.drop k) = 0 := by rw [← hh, List.drop_of_length_le (by omega)]; rfl
          have HN3 := Lib.hid (show k + 1 + bfr E (l.drop (k + 1)) = N by
            have h1 := bfr_at (E := E) hlt
            rw [if_pos h0] at h1
            have h2 := HN2.out
            omega)
          clear h0 hh
          go_wp2
          go_roundw
          case rel => exact ⟨k + 1, by go_num, by omega, HN3.out, hbi⟩
          case measure => simp [RowKit.intOf]; omega
    · have hlt' : ¬ ((k : Int) < (l.length : Int)) := by omega
      go_wp2
      go_ret
      refine ⟨?_, hbw⟩
      rw [List.drop_of_length_le (by omega)] at hN
      simp only [bfr] at hN
      exact ret_int (by omega)
end Go.Proofs.YtndcmapifihgeaaGreatDoor.Mk

/- The program's kindOf, length and Read, walked. -/
namespace Go.Proofs.YtndcmapifihgeaaGreatDoor.Mk
open Go.RowKit Go.Lib

variable {l m : List UInt8} {a : Option Addr} {cap i b off : Nat} {w w' : World}

set_option maxHeartbeats 1000000 in
set_option maxRecDepth 100000 in
theorem isDoctype_any (w : World) (hc : Cells m b off w) (hcap : m.length ≤ cap) (hl : m.length ≤ 1000000) :
    Calls Tryz.prog 81 #[.slice (some ⟨b, off, none⟩) m.length cap] w fun e w' => e = .returned (.bool (isDty m)) ∧ Below w.heap.size w w' := by
  have hx := string_cells (cap := cap) (hc.take 9) (n := min m.length 9) (by rw [List.length_take]; omega)
  have cS := smallText_any (m.take 9) w
  unfold isDty
  generalize m.take 9 = t at hx cS ⊢
  generalize m.length = n at *
  clear hc
  by_cases h : n ≤ 9
  · have h1 : (n : Int) ≤ 9 := by omega
    have h2 : (n : Int) ≤ (cap : Int) := by omega
    rw [show min n 9 = n by omega] at hx
    go_enter Tryz.func81, Tryz.ntmps81
    go_wp2_with fail
    refine cS.mono ?_
    rintro e w1 ⟨rfl, hb⟩
    go_wp2
    go_ret
    exact ⟨rfl, hb⟩
  · have h1 : ¬ ((n : Int) ≤ 9) := by omega
    have h1' : ¬ ((n : Int) < 9) := by omega
    have h2 : (9 : Int) ≤ (cap : Int) := by omega
    rw [show min n 9 = 9 by omega] at hx
    go_enter Tryz.func81, Tryz.ntmps81
    go_wp2_with fail
    refine cS.mono ?_
    rintro e w1 ⟨rfl, hb⟩
    go_wp2
    go_ret
    exact ⟨rfl, hb⟩

set_option maxHeartbeats 1000000 in
set_option maxRecDepth 100000 in
theorem isBogusEnd_any (w : World) (hc : Cells m b off w) (hcap : m.length ≤ cap) (hl : m.length ≤ 1000000) :
    Calls Tryz.prog 82 #[.slice (some ⟨b, off, none⟩) m.length cap] w fun e w' => e = .returned (.bool (bogusEnd m)) ∧ Below w.heap.size w w' := by
  have cH := has_any [60, 47] 0 w ⟨hcap, Or.inr ⟨b, off, rfl, hc⟩⟩ (Nat.zero_le _) (by decide)
  rw [List.drop_zero] at cH
  unfold bogusEnd
  cases hf : fits [60, 47] m with
  | false =>
    rw [hf] at cH
    go_enter Tryz.func82, Tryz.ntmps82
    go_wp2_with fail
    refine cH.mono ?_
    rintro e w1 ⟨rfl, hb⟩
    go_wp2
    go_ret
    exact ⟨rfl, hb⟩
  | true =>
    rw [hf] at cH
    by_cases h : 2 < m.length
    · have h1 : (2 : Int) < (m.length : Int) := by omega
      have HC := Lib.hid hc
      have hbd := at0_lt m 2
      rw [decide_eq_true h]
      obtain ⟨c, hcc⟩ : ∃ c, at0 m 2 = c := ⟨_, rfl⟩
      rw [hcc] at hbd ⊢
      have HCC := Lib.hid hcc
      clear hc hcc
      go_enter Tryz.func82, Tryz.ntmps82
      go_wp2_with fail
      refine cH.mono ?_
      rintro e w1 ⟨rfl, hb⟩
      have hcell := (HC.out.below hb) 2 h
      rw [HCC.out] at hcell
      have cL := letter_any (c : Int) w1
      rw [letterZ_nat] at cL
      go_wp2_with fail
      refine cL.mono ?_
      rintro e w2 ⟨rfl, rfl⟩
      go_wp2
      go_ret
      exact ⟨rfl, hb⟩
    · have h1 : ¬ ((2 : Int) < (m.length : Int)) := by omega
      rw [decide_eq_false h]
      go_enter Tryz.func82, Tryz.ntmps82
      go_wp2_with fail
      refine cH.mono ?_
      rintro e w1 ⟨rfl, hb⟩
      go_wp2
      go_ret
      exact ⟨rfl, hb⟩

theorem words1 (p : List UInt8) (w : World) : Words [p] w.heap.size (w.alloc (.cells #[.string ⟨p.toArray⟩] 9)) := by
  intro j hj
  simp only [List.length_cons, List.length_nil] at hj
  obtain rfl : j = 0 := by omega
  simp [World.cell?, World.alloc, -World.alloc_eq]
theorem words2 (p q : List UInt8) (w : World) : Words [p, q] w.heap.size (w.alloc (.cells #[.string ⟨p.toArray⟩, .string ⟨q.toArray⟩] 9)) := by
  intro j hj
  simp only [List.length_cons, List.length_nil] at hj
  rcases (by omega : j = 0 ∨ j = 1) with rfl | rfl <;> simp [World.cell?, World.alloc, -World.alloc_eq]

set_option maxHeartbeats 1000000 in
set_option maxRecDepth 100000 in
theorem commentLength_any (w : World) (hs : Sl m a cap w) (h4 : 4 ≤ m.length) (hl : m.length ≤ 1000000) :
    Calls Tryz.prog 83 #[.slice a m.length cap] w fun e w' => e = .returned (.int .i64 ((cln m : Nat) : Int)) ∧ Below w.heap.size w w' := by
  have c1 := has_any [62] 4 w hs h4 (by decide)
  unfold cln
  cases f1 : fits [62] (m.drop 4) with
  | true =>
    rw [f1] at c1
    rw [if_pos rfl]
    go_enter Tryz.func83, Tryz.ntmps83
    go_wp2_with fail
    refine c1.mono ?_
    rintro e w1 ⟨rfl, hb⟩
    go_wp2
    go_ret
    exact ⟨rfl, hb⟩
  | false =>
    rw [f1] at c1
    rw [if_neg (by decide)]
    have HS := Lib.hid hs
    cases f2 : fits [45, 62] (m.drop 4) with
    | true =>
      rw [if_pos rfl]
      go_enter Tryz.func83, Tryz.ntmps83
      go_wp2_with fail
      refine c1.mono ?_
      rintro e w1 ⟨rfl, hb⟩
      have hz := hb.size
      have c2 := has_any [45, 62] 4 w1 (HS.out.below hb) h4 (by decide)
      rw [f2] at c2
      go_wp2_with fail
      refine c2.mono ?_
      rintro e w2 ⟨rfl, hb2⟩
      go_wp2
      go_ret
      exact ⟨rfl, hb.trans (hb2.mono hz)⟩
    | false =>
      rw [if_neg (by decide)]
      have HL := Lib.hid hl
      clear hs
      go_enter Tryz.func83, Tryz.ntmps83
      go_wp2_with fail
      refine c1.mono ?_
      rintro e w1 ⟨rfl, hb⟩
      have hz := hb.size
      have c2 := has_any [45, 62] 4 w1 (HS.out.below hb) h4 (by decide)
      rw [f2] at c2
      go_wp2_with fail
      refine c2.mono ?_
      rintro e w2 ⟨rfl, hb2⟩
      have hb12 := hb.trans (hb2.mono hz)
      have hz2 := hb12.size
      have hb3 : Below w2.heap.size w2 (w2.alloc (.cells #[.string ⟨#[45, 45, 62]⟩, .string ⟨#[45, 45, 33, 62]⟩] 9)) := (Below.refl _ w2).alloc (Nat.le_refl _) _
      have hb13 := hb12.trans (hb3.mono hz2)
      have hz3 := hb13.size
      have c3 := behind_any coE 4 w2.heap.size 2 _ ((HS.out.below hb12).below hb3) (words2 [45, 45, 62] [45, 45, 33, 62] w2) (by decide) (by decide) (by decide) h4 HL.out
      clear hb hb2 hb12 hb3
      have HB := Lib.hid hb13
      clear hb13 c1 c2
      go_wp2_with fail
      refine c3.mono ?_
      rintro e w3 ⟨rfl, hb4⟩
      go_wp2
      go_ret
      exact ⟨rfl, HB.out.trans (hb4.mono hz3)⟩

set_option maxHeartbeats 1000000 in
set_option maxRecDepth 100000 in
theorem length_any (k : Nat) (w : World) (hs : Sl m a cap w) (h1 : k = 1 → 4 ≤ m.length) (h2 : k = 2 → 9 ≤ m.length) (h3 : 2 ≤ m.length) (hk : k ≤ 4) (hl : m.length ≤ 1000000) :
    Calls Tryz.prog 56 #[.slice a m.length cap, .int .i64 (k : Int)] w fun e w' => e = .returned (.int .i64 ((ln m k : Nat) : Int)) ∧ Below w.heap.size w w' := by
  have hb3 : Below w.heap.size w (w.alloc (.cells #[.string ⟨#[62]⟩] 9)) := (Below.refl _ w).alloc (Nat.le_refl _) _
  have HB := Lib.hid hb3
  have hz3 := hb3.size
  unfold ln
  by_cases k1 : k = 1
  · subst k1
    have cC := commentLength_any w hs (h1 rfl) hl
    rw [if_pos rfl]
    generalize cln m = C at cC ⊢
    clear hb3
    go_enter Tryz.func56, Tryz.ntmps56
    go_wp2_with fail
    refine cC.mono ?_
    rintro e w1 ⟨rfl, hb⟩
    go_wp2
    go_ret
    exact ⟨rfl, hb⟩
  · rw [if_neg k1]
    by_cases k2 : k = 2
    · subst k2
      have cC := behind_any gtE 9 w.heap.size 1 _ (hs.below hb3) (words1 [62] w) (by decide) (by decide) (by decide) (h2 rfl) hl
      rw [if_pos rfl]
      generalize 9 + bfr gtE (m.drop 9) = C at cC ⊢
      clear hb3
      go_enter Tryz.func56, Tryz.ntmps56
      go_wp2_with fail
      refine cC.mono ?_
      rintro e w1 ⟨rfl, hb⟩
      go_wp2
      go_ret
      exact ⟨rfl, HB.out.trans (hb.mono hz3)⟩
    · rw [if_neg k2]
      by_cases k4 : k = 4
      · subst k4
        rw [if_pos rfl]
        clear hb3
        go_enter Tryz.func56, Tryz.ntmps56
        go_wp2
        go_ret
        exact ⟨rfl, Below.refl _ w⟩
      · rw [if_neg k4]
        have cC := behind_any gtE 2 w.heap.size 1 _ (hs.below hb3) (words1 [62] w) (by decide) (by decide) (by decide) h3 hl
        generalize 2 + bfr gtE (m.drop 2) = C at cC ⊢
        have t1 : ((k : Int) == 1) = false := by simp; omega
        have t2 : ((k : Int) == 2) = false := by simp; omega
        have t4 : ((k : Int) == 4) = false := by simp; omega
        clear hb3 k1 k2 k4 h1 h2
        go_enter Tryz.func56, Tryz.ntmps56
        go_wp2_with fail
        refine cC.mono ?_
        rintro e w1 ⟨rfl, hb⟩
        go_wp2
        go_ret
        exact ⟨rfl, HB.out.trans (hb.mono hz3)⟩
end Go.Proofs.YtndcmapifihgeaaGreatDoor.Mk

/- The program's kindOf and Read, walked. -/
namespace Go.Proofs.YtndcmapifihgeaaGreatDoor.Mk
open Go.RowKit Go.Lib

variable {l m : List UInt8} {a : Option Addr} {cap i b off : Nat} {w w' : World}

set_option maxHeartbeats 4000000 in
set_option maxRecDepth 100000 in
theorem kindOf_any (w : World) (hc : Cells m b off w) (hcap : m.length ≤ cap) (hl : m.length ≤ 1000000) :
    Calls Tryz.prog 55 #[.slice (some ⟨b, off, none⟩) m.length cap] w fun e w' => e = .returned (.int .i64 ((kd m : Nat) : Int)) ∧ Below w.heap.size w w' := by
  have HC := Lib.hid hc
  have HCAP := Lib.hid hcap
  have HL := Lib.hid hl
  clear hc hcap hl
  unfold kd
  cases f0 : fits [60, 33, 45, 45] m with
  | true =>
    rw [if_pos rfl]
    go_enter Tryz.func55, Tryz.ntmps55
    have c0 := has_any [60, 33, 45, 45] 0 w ⟨HCAP.out, Or.inr ⟨b, off, rfl, HC.out⟩⟩ (Nat.zero_le _) (by decide)
    rw [List.drop_zero] at c0
    rw [f0] at c0
    go_wp2_with fail
    refine c0.mono ?_
    rintro e w1 ⟨rfl, hb⟩
    have HB1 := Lib.hid hb
    clear hb c0
    go_wp2
    go_ret
    exact ⟨rfl, HB1.out⟩
  | false =>
    rw [if_neg (by decide)]
    cases f1 : isDty m with
    | true =>
      rw [if_pos rfl]
      go_enter Tryz.func55, Tryz.ntmps55
      have c0 := has_any [60, 33, 45, 45] 0 w ⟨HCAP.out, Or.inr ⟨b, off, rfl, HC.out⟩⟩ (Nat.zero_le _) (by decide)
      rw [List.drop_zero] at c0
      rw [f0] at c0
      go_wp2_with fail
      refine c0.mono ?_
      rintro e w1 ⟨rfl, hb⟩
      have HB1 := Lib.hid hb
      clear hb c0
      have c1 := isDoctype_any w1 (HC.out.below HB1.out) HCAP.out HL.out
      rw [f1] at c1
      go_wp2_with fail
      refine c1.mono ?_
      rintro e w2 ⟨rfl, hb⟩
      have HB2 := Lib.hid (HB1.out.trans (hb.mono HB1.out.size))
      clear hb c1
      go_wp2
      go_ret
      exact ⟨rfl, HB2.out⟩
    | false =>
      rw [if_neg (by decide)]
      cases f2 : fits [60, 47, 62] m with
      | true =>
        rw [if_pos rfl]
        go_enter Tryz.func55, Tryz.ntmps55
        have c0 := has_any [60, 33, 45, 45] 0 w ⟨HCAP.out, Or.inr ⟨b, off, rfl, HC.out⟩⟩ (Nat.zero_le _) (by decide)
        rw [List.drop_zero] at c0
        rw [f0] at c0
        go_wp2_with fail
        refine c0.mono ?_
        rintro e w1 ⟨rfl, hb⟩
        have HB1 := Lib.hid hb
        clear hb c0
        have c1 := isDoctype_any w1 (HC.out.below HB1.out) HCAP.out HL.out
        rw [f1] at c1
        go_wp2_with fail
        refine c1.mono ?_
        rintro e w2 ⟨rfl, hb⟩
        have HB2 := Lib.hid (HB1.out.trans (hb.mono HB1.out.size))
        clear hb c1
        have c2 := has_any [60, 47, 62] 0 w2 ⟨HCAP.out, Or.inr ⟨b, off, rfl, HC.out.below HB2.out⟩⟩ (Nat.zero_le _) (by decide)
        rw [List.drop_zero] at c2
        rw [f2] at c2
        go_wp2_with fail
        refine c2.mono ?_
        rintro e w3 ⟨rfl, hb⟩
        have HB3 := Lib.hid (HB2.out.trans (hb.mono HB2.out.size))
        clear hb c2
        go_wp2
        go_ret
        exact ⟨rfl, HB3.out⟩
      | false =>
        rw [if_neg (by decide)]
        cases f3 : fits [60, 33] m with
        | true =>
          rw [if_pos rfl]
          go_enter Tryz.func55, Tryz.ntmps55
          have c0 := has_any [60, 33, 45, 45] 0 w ⟨HCAP.out, Or.inr ⟨b, off, rfl, HC.out⟩⟩ (Nat.zero_le _) (by decide)
          rw [List.drop_zero] at c0
          rw [f0] at c0
          go_wp2_with fail
          refine c0.mono ?_
          rintro e w1 ⟨rfl, hb⟩
          have HB1 := Lib.hid hb
          clear hb c0
          have c1 := isDoctype_any w1 (HC.out.below HB1.out) HCAP.out HL.out
          rw [f1] at c1
          go_wp2_with fail
          refine c1.mono ?_
          rintro e w2 ⟨rfl, hb⟩
          have HB2 := Lib.hid (HB1.out.trans (hb.mono HB1.out.size))
          clear hb c1
          have c2 := has_any [60, 47, 62] 0 w2 ⟨HCAP.out, Or.inr ⟨b, off, rfl, HC.out.below HB2.out⟩⟩ (Nat.zero_le _) (by decide)
          rw [List.drop_zero] at c2
          rw [f2] at c2
          go_wp2_with fail
          refine c2.mono ?_
          rintro e w3 ⟨rfl, hb⟩
          have HB3 := Lib.hid (HB2.out.trans (hb.mono HB2.out.size))
          clear hb c2
          have c3 := has_any [60, 33] 0 w3 ⟨HCAP.out, Or.inr ⟨b, off, rfl, HC.out.below HB3.out⟩⟩ (Nat.zero_le _) (by decide)
          rw [List.drop_zero] at c3
          rw [f3] at c3
          go_wp2_with fail
          refine c3.mono ?_
          rintro e w4 ⟨rfl, hb⟩
          have HB4 := Lib.hid (HB3.out.trans (hb.mono HB3.out.size))
          clear hb c3
          go_wp2
          go_ret
          exact ⟨rfl, HB4.out⟩
        | false =>
          rw [if_neg (by decide)]
          cases f4 : fits [60, 63] m with
          | true =>
            rw [if_pos rfl]
            go_enter Tryz.func55, Tryz.ntmps55
            have c0 := has_any [60, 33, 45, 45] 0 w ⟨HCAP.out, Or.inr ⟨b, off, rfl, HC.out⟩⟩ (Nat.zero_le _) (by decide)
            rw [List.drop_zero] at c0
            rw [f0] at c0
            go_wp2_with fail
            refine c0.mono ?_
            rintro e w1 ⟨rfl, hb⟩
            have HB1 := Lib.hid hb
            clear hb c0
            have c1 := isDoctype_any w1 (HC.out.below HB1.out) HCAP.out HL.out
            rw [f1] at c1
            go_wp2_with fail
            refine c1.mono ?_
            rintro e w2 ⟨rfl, hb⟩
            have HB2 := Lib.hid (HB1.out.trans (hb.mono HB1.out.size))
            clear hb c1
            have c2 := has_any [60, 47, 62] 0 w2 ⟨HCAP.out, Or.inr ⟨b, off, rfl, HC.out.below HB2.out⟩⟩ (Nat.zero_le _) (by decide)
            rw [List.drop_zero] at c2
            rw [f2] at c2
            go_wp2_with fail
            refine c2.mono ?_
            rintro e w3 ⟨rfl, hb⟩
            have HB3 := Lib.hid (HB2.out.trans (hb.mono HB2.out.size))
            clear hb c2
            have c3 := has_any [60, 33] 0 w3 ⟨HCAP.out, Or.inr ⟨b, off, rfl, HC.out.below HB3.out⟩⟩ (Nat.zero_le _) (by decide)
            rw [List.drop_zero] at c3
            rw [f3] at c3
            go_wp2_with fail
            refine c3.mono ?_
            rintro e w4 ⟨rfl, hb⟩
            have HB4 := Lib.hid (HB3.out.trans (hb.mono HB3.out.size))
            clear hb c3
            have c4 := has_any [60, 63] 0 w4 ⟨HCAP.out, Or.inr ⟨b, off, rfl, HC.out.below HB4.out⟩⟩ (Nat.zero_le _) (by decide)
            rw [List.drop_zero] at c4
            rw [f4] at c4
            go_wp2_with fail
            refine c4.mono ?_
            rintro e w5 ⟨rfl, hb⟩
            have HB5 := Lib.hid (HB4.out.trans (hb.mono HB4.out.size))
            clear hb c4
            go_wp2
            go_ret
            exact ⟨rfl, HB5.out⟩
          | false =>
            rw [if_neg (by decide)]
            cases f5 : bogusEnd m with
            | true =>
              rw [if_pos rfl]
              go_enter Tryz.func55, Tryz.ntmps55
              have c0 := has_any [60, 33, 45, 45] 0 w ⟨HCAP.out, Or.inr ⟨b, off, rfl, HC.out⟩⟩ (Nat.zero_le _) (by decide)
              rw [List.drop_zero] at c0
              rw [f0] at c0
              go_wp2_with fail
              refine c0.mono ?_
              rintro e w1 ⟨rfl, hb⟩
              have HB1 := Lib.hid hb
              clear hb c0
              have c1 := isDoctype_any w1 (HC.out.below HB1.out) HCAP.out HL.out
              rw [f1] at c1
              go_wp2_with fail
              refine c1.mono ?_
              rintro e w2 ⟨rfl, hb⟩
              have HB2 := Lib.hid (HB1.out.trans (hb.mono HB1.out.size))
              clear hb c1
              have c2 := has_any [60, 47, 62] 0 w2 ⟨HCAP.out, Or.inr ⟨b, off, rfl, HC.out.below HB2.out⟩⟩ (Nat.zero_le _) (by decide)
              rw [List.drop_zero] at c2
              rw [f2] at c2
              go_wp2_with fail
              refine c2.mono ?_
              rintro e w3 ⟨rfl, hb⟩
              have HB3 := Lib.hid (HB2.out.trans (hb.mono HB2.out.size))
              clear hb c2
              have c3 := has_any [60, 33] 0 w3 ⟨HCAP.out, Or.inr ⟨b, off, rfl, HC.out.below HB3.out⟩⟩ (Nat.zero_le _) (by decide)
              rw [List.drop_zero] at c3
              rw [f3] at c3
              go_wp2_with fail
              refine c3.mono ?_
              rintro e w4 ⟨rfl, hb⟩
              have HB4 := Lib.hid (HB3.out.trans (hb.mono HB3.out.size))
              clear hb c3
              have c4 := has_any [60, 63] 0 w4 ⟨HCAP.out, Or.inr ⟨b, off, rfl, HC.out.below HB4.out⟩⟩ (Nat.zero_le _) (by decide)
              rw [List.drop_zero] at c4
              rw [f4] at c4
              go_wp2_with fail
              refine c4.mono ?_
              rintro e w5 ⟨rfl, hb⟩
              have HB5 := Lib.hid (HB4.out.trans (hb.mono HB4.out.size))
              clear hb c4
              have c5 := isBogusEnd_any w5 (HC.out.below HB5.out) HCAP.out HL.out
              rw [f5] at c5
              go_wp2_with fail
              refine c5.mono ?_
              rintro e w6 ⟨rfl, hb⟩
              have HB6 := Lib.hid (HB5.out.trans (hb.mono HB5.out.size))
              clear hb c5
              go_wp2
              go_ret
              exact ⟨rfl, HB6.out⟩
            | false =>
              rw [if_neg (by decide)]
              go_enter Tryz.func55, Tryz.ntmps55
              have c0 := has_any [60, 33, 45, 45] 0 w ⟨HCAP.out, Or.inr ⟨b, off, rfl, HC.out⟩⟩ (Nat.zero_le _) (by decide)
              rw [List.drop_zero] at c0
              rw [f0] at c0
              go_wp2_with fail
              refine c0.mono ?_
              rintro e w1 ⟨rfl, hb⟩
              have HB1 := Lib.hid hb
              clear hb c0
              have c1 := isDoctype_any w1 (HC.out.below HB1.out) HCAP.out HL.out
              rw [f1] at c1
              go_wp2_with fail
              refine c1.mono ?_
              rintro e w2 ⟨rfl, hb⟩
              have HB2 := Lib.hid (HB1.out.trans (hb.mono HB1.out.size))
              clear hb c1
              have c2 := has_any [60, 47, 62] 0 w2 ⟨HCAP.out, Or.inr ⟨b, off, rfl, HC.out.below HB2.out⟩⟩ (Nat.zero_le _) (by decide)
              rw [List.drop_zero] at c2
              rw [f2] at c2
              go_wp2_with fail
              refine c2.mono ?_
              rintro e w3 ⟨rfl, hb⟩
              have HB3 := Lib.hid (HB2.out.trans (hb.mono HB2.out.size))
              clear hb c2
              have c3 := has_any [60, 33] 0 w3 ⟨HCAP.out, Or.inr ⟨b, off, rfl, HC.out.below HB3.out⟩⟩ (Nat.zero_le _) (by decide)
              rw [List.drop_zero] at c3
              rw [f3] at c3
              go_wp2_with fail
              refine c3.mono ?_
              rintro e w4 ⟨rfl, hb⟩
              have HB4 := Lib.hid (HB3.out.trans (hb.mono HB3.out.size))
              clear hb c3
              have c4 := has_any [60, 63] 0 w4 ⟨HCAP.out, Or.inr ⟨b, off, rfl, HC.out.below HB4.out⟩⟩ (Nat.zero_le _) (by decide)
              rw [List.drop_zero] at c4
              rw [f4] at c4
              go_wp2_with fail
              refine c4.mono ?_
              rintro e w5 ⟨rfl, hb⟩
              have HB5 := Lib.hid (HB4.out.trans (hb.mono HB4.out.size))
              clear hb c4
              have c5 := isBogusEnd_any w5 (HC.out.below HB5.out) HCAP.out HL.out
              rw [f5] at c5
              go_wp2_with fail
              refine c5.mono ?_
              rintro e w6 ⟨rfl, hb⟩
              have HB6 := Lib.hid (HB5.out.trans (hb.mono HB5.out.size))
              clear hb c5
              go_wp2
              go_ret
              exact ⟨rfl, HB6.out⟩

/-- what Read answers -/
def rdAns (l : List UInt8) (i : Nat) : Value := .tuple #[.int .i64 ((kd (l.drop i) : Nat) : Int), .int .i64 ((if kd (l.drop i) = 0 then 0 else i + ln (l.drop i) (kd (l.drop i)) : Nat) : Int), .bool (decide (kd (l.drop i) ≠ 0))]

theorem kd_le (m : List UInt8) : kd m ≤ 4 := by
  unfold kd
  repeat' split
  all_goals omega
theorem kd_one {m : List UInt8} (h : kd m = 1) : 4 ≤ m.length := by
  unfold kd at h
  split at h
  · rename_i hf; exact fits_len hf
  · repeat' split at h
    all_goals omega
theorem kd_two {m : List UInt8} (h : kd m = 2) : 9 ≤ m.length := by
  unfold kd at h
  split at h
  · omega
  · split at h
    · rename_i hf; exact (dty_head hf).1
    · repeat' split at h
      all_goals omega

set_option maxHeartbeats 1000000 in
set_option maxRecDepth 100000 in
theorem read_any (i : Nat) (w : World) (hs : Sl l a cap w) (hi : i < l.length) (hl : l.length ≤ 1000000) :
    Calls Tryz.prog 31 #[.slice a l.length cap, .int .i64 (i : Int)] w fun e w' => e = .returned (rdAns l i) ∧ Below w.heap.size w w' := by
  obtain ⟨hcap, h2 | ⟨b, off, rfl, hc⟩⟩ := hs
  · subst h2; simp at hi
  have hc2 := hc.drop i
  have hml : (l.drop i).length = l.length - i := List.length_drop
  have cK := kindOf_any (cap := cap - i) w hc2 (by omega) (by omega)
  rw [hml] at cK
  unfold rdAns
  have h0 : ¬ ((i : Int) < 0) := by omega
  have h1 : (i : Int) < (l.length : Int) := by omega
  have hic : i < cap := by omega
  have HC := Lib.hid hc2
  by_cases hk : kd (l.drop i) = 0
  · rw [hk] at cK ⊢
    clear hc2 hml hk hcap hc
    generalize l.length = n at *
    go_enter Tryz.func31, Tryz.ntmps31
    go_wp2_with fail
    refine cK.mono ?_
    rintro e w1 ⟨rfl, hb⟩
    go_wp2
    go_ret3
    exact ⟨rfl, hb⟩
  · rw [if_neg hk, decide_eq_true hk]
    have hM := mark_is hk
    have hk4 := kd_le (l.drop i)
    have hk1 := Lib.hid (@kd_one (l.drop i))
    have hk2 := Lib.hid (@kd_two (l.drop i))
    have HML := Lib.hid hml
    obtain ⟨K, hK⟩ : ∃ K, kd (l.drop i) = K := ⟨_, rfl⟩
    rw [hK] at cK hk1 hk2 hM hk4 hk ⊢
    have hln := hM.2.2.2.2.1
    have h2l := Nat.le_trans hM.2.2.2.1 hln
    rw [hml] at hln
    have H2 := Lib.hid h2l
    have HK4 := Lib.hid hk4
    have HCA := Lib.hid hcap
    have HLN := Lib.hid hln
    have t0 : ((K : Int) == 0) = false := by simp; exact hk
    clear hc2 hml hK hc hM h2l
    obtain ⟨m, hm⟩ : ∃ m, l.drop i = m := ⟨_, rfl⟩
    rw [hm] at HC hk1 hk2 H2 HLN hln HML ⊢
    clear hm
    obtain ⟨L, hL⟩ : ∃ L, ln m K = L := ⟨_, rfl⟩
    rw [hL] at hln ⊢
    have HLL := Lib.hid hL
    clear hL hk HLN
    go_enter Tryz.func31, Tryz.ntmps31
    go_wp2_with fail
    refine cK.mono ?_
    rintro e w1 ⟨rfl, hb⟩
    have hz := hb.size
    have cL := length_any K w1 (a := some ⟨b, off + i, none⟩) (cap := cap - i) ⟨by rw [HML.out]; have := HCA.out; omega, Or.inr ⟨b, off + i, rfl, HC.out.below hb⟩⟩ (fun e => hk1.out e) (fun e => hk2.out e) H2.out HK4.out (by rw [HML.out]; omega)
    rw [HML.out, HLL.out] at cL
    go_wp2_with fail
    refine cL.mono ?_
    rintro e w2 ⟨rfl, hb2⟩
    go_wp2
    go_ret3
    exact ⟨rfl, hb.trans (hb2.mono hz)⟩
end Go.Proofs.YtndcmapifihgeaaGreatDoor.Mk
