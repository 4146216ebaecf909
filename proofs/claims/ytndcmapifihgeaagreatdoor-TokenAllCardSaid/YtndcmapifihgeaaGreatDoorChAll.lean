/- char.All, char.Clean: all characters from a byte up to another one. -/
import Derived.Test.YtndcmapifihgeaaGreatDoorChNext
import Derived.Lib.OthersKept
import Derived.Lib.ConvBytes
import Derived.Laws.AppendOwn
namespace Go.Proofs.YtndcmapifihgeaaGreatDoor.Ch
open Go.RowKit Go.Lib

theorem grown_of_below {w w' : World} (h : Below w.heap.size w w') : w.grownBy w' none := ⟨h.os, h.tape, h.output, h.size, fun k hk _ => h.block k hk⟩

theorem BuilderAtF_below {T e : TypeId} {B b : Nat} {p : Value} {bs : List Value} {w w' : World} (h : Lib.BuilderAtF T e B b p bs w) (hb : Below w.heap.size w w') : Lib.BuilderAtF T e B b p bs w' := by
  have hlt := h.lt
  obtain ⟨hB, v, hbk, hown, hne⟩ := h
  refine ⟨hB, v, by rw [hb.block b hlt]; exact hbk, hown.kept (grown_of_below hb) ?_, hne⟩
  cases v.ownBlock with
  | none => exact Or.inl rfl
  | some g => exact Or.inr (by simp)

theorem IsBuilderF_below {T e : TypeId} {B b : Nat} {bs : List Value} {w w' : World} (h : Lib.IsBuilderF T e B b bs w) (hb : Below w.heap.size w w') : Lib.IsBuilderF T e B b bs w' :=
  h.elim (fun x => Or.inl (BuilderAtF_below x hb)) (fun x => Or.inr (BuilderAtF_below x hb))

theorem allFrom_len (l : List UInt8) (x y : Int) : (allFrom l x y).length ≤ 4 * l.length := by
  unfold allFrom
  split
  · exact allN_len4 l.length _ _ (by simp)
  · simp

theorem nxAt_in {l : List UInt8} {i : Nat} (h : i < l.length) : nxAt l i = nx (l.drop i) := if_pos ⟨by omega, by omega⟩
theorem nxAt_out {l : List UInt8} {x : Int} (h : ¬ (0 ≤ x ∧ x < l.length)) : nxAt l x = (0, 0) := if_neg h

theorem ret_str {l m : List UInt8} (h : l = m) : Ending.returned (.string ⟨l.toArray⟩) = .returned (.string ⟨m.toArray⟩) := by rw [h]

def AllRel (l : List UInt8) (x0 to : Int) (w : World) (v : Value) (wr : World) : Prop :=
  ∃ (x : Int) (acc : List UInt8), v = .int .i64 x ∧ Lib.IsBuilderF 79 5 w.heap.size w.heap.size (Lib.byteCells acc) wr ∧ Below w.heap.size w wr ∧ acc ++ allFrom l x to = allFrom l x0 to

theorem Tabs_below {w w' : World} (h : Lib.Utf8Tabs 0 1 w) (hb : Below w.heap.size w w') : Lib.Utf8Tabs 0 1 w' := Utf8Tabs_below h hb

set_option maxHeartbeats 1000000 in
set_option maxRecDepth 100000 in
theorem all_any (l : List UInt8) (a : Option Addr) (cap : Nat) (x0 to : Int) (w : World) (hs : Sl l a cap w) (hT : Lib.Utf8Tabs 0 1 w) (hl : l.length ≤ 1000000) :
    Calls Tryz.prog 29 #[.slice a l.length cap, .int .i64 x0, .int .i64 to] w fun e w' => e = .returned (.string ⟨(allFrom l x0 to).toArray⟩) ∧ Below w.heap.size w w' := by
  go_enter Tryz.func29, Tryz.ntmps29
  go_wp2
  go_loopw [8] (fun v wr => AllRel l x0 to w v wr) (fun v _ => ((l.length : Int) - RowKit.intOf v).toNat)
  case atStart => exact ⟨x0, [], rfl, Lib.IsBuilderF.of (Lib.fresh_isBuilder 79 5 w), (Below.refl _ w).alloc (Nat.le_refl _) _, rfl⟩
  case round =>
    obtain ⟨x, acc, rfl, hI, hbw, hacc⟩ := hrel
    have hsz := hbw.size
    have HACC := Lib.hid hacc
    have hal : acc.length ≤ 4 * l.length := by
      have := allFrom_len l x0 to
      rw [← hacc] at this
      simp at this; omega
    clear hacc
    have hsr := hs.below hbw
    have hTr := Tabs_below hT hbw
    by_cases hlt : x < to
    · by_cases hin : 0 ≤ x ∧ x < (l.length : Int)
      · obtain ⟨i, rfl⟩ : ∃ i : Nat, x = i := ⟨x.toNat, by omega⟩
        have hi : i < l.length := by omega
        have hN := next_any l a cap i wr hsr hTr
        rw [nxAt_in hi] at hN
        have hne : l.drop i ≠ [] := by
          intro e; have := congrArg List.length e; simp at this; omega
        have hw := nx_width _ hne
        have hr := nx_range (l.drop i)
        have hst := Lib.hid (allFrom_step l i to hi hlt)
        simp only [List.length_drop] at hw
        clear hin hne
        generalize nx (l.drop i) = R at hN hw hr hst
        obtain ⟨c, n⟩ := R
        simp only at hw hr hst hN
        have hn0 : ((n : Int) == 0) = false := by simp; omega
        go_wp2_with fail
        refine hN.mono ?_
        rintro e w1 ⟨rfl, hb1⟩
        go_wp2_with fail
        refine (writeRune w.heap.size w.heap.size _ (c : Int) (by omega) (by omega) w1 (IsBuilderF_below hI hb1) (by rw [Lib.byteCells_length]; omega) (by have := hb1.size; omega)).mono ?_
        rintro e w2 ⟨rfl, hI2, hb2⟩
        go_wp2
        go_roundw
        case rel =>
          refine ⟨((i + n : Nat) : Int), acc ++ encodeRune (c : Int), by go_num, ?_, ?_, ?_⟩
          · rw [Lib.byteCells_append, Lib.byteCells_encodeRune]; exact hI2
          · exact (hbw.trans (hb1.mono (by omega))).trans hb2
          · rw [List.append_assoc, ← hst.out]; exact HACC.out
        case measure => simp [RowKit.intOf]; omega
      · have hN := next_any l a cap x wr hsr hTr
        rw [nxAt_out hin] at hN
        have hend := Lib.hid (allFrom_out l x to hin)
        clear hin
        go_wp2_with fail
        refine hN.mono ?_
        rintro e w1 ⟨rfl, hb1⟩
        go_wp2_with fail
        refine (Tryz.Builder_String_any_k w.heap.size w.heap.size acc w1 (IsBuilderF_below hI hb1) (by have := hb1.size; omega)).mono ?_
        rintro e w2 ⟨rfl, _, hb2, _⟩
        go_wp2
        go_ret
        refine ⟨ret_str (l := acc) ?_, (hbw.trans (hb1.mono (by omega))).trans hb2⟩
        rw [← HACC.out, hend.out, List.append_nil]
    · have hend := Lib.hid (allFrom_late l x to hlt)
      have hlt' : decide (x < to) = false := decide_eq_false hlt
      clear hlt
      go_wp2_with fail
      refine (Tryz.Builder_String_any_k w.heap.size w.heap.size acc wr hI (by omega)).mono ?_
      rintro e w2 ⟨rfl, _, hb2, _⟩
      go_wp2
      go_ret
      refine ⟨ret_str (l := acc) ?_, hbw.trans hb2⟩
      rw [← HACC.out, hend.out, List.append_nil]

theorem str_size (l : List UInt8) : (⟨l.toArray⟩ : ByteArray).size = l.length := by simp [ByteArray.size]

/-- '[]byte(s)': a new slice whose bytes are the string's. -/
theorem bytes_of (l : List UInt8) (w : World) : ∃ (cap : Nat) (W : World), (convert 9 22 (.string ⟨l.toArray⟩)).run Tryz.prog w = .ok (.slice (some ⟨w.heap.size, 0, none⟩) l.length cap) W ∧ Sl l (some ⟨w.heap.size, 0, none⟩) cap W ∧ Below w.heap.size w W := by
  refine ⟨grownCap w l.length 0 5, Lib.bytesWorld w 5 ⟨l.toArray⟩, ?_, ⟨?_, ?_⟩, ?_⟩
  · have := Lib.run_convert_string_bytes (P := Tryz.prog) w 9 22 5 ⟨l.toArray⟩ Tryz.underlying9 Tryz.underlying22 Tryz.underlying5
    rw [str_size] at this
    exact this
  · exact grownCap_ge _ _ _ _
  · refine Or.inr ⟨w.heap.size, 0, rfl, fun j hj => ?_⟩
    rw [Nat.zero_add, Lib.bytesWorld_cell w 5 ⟨l.toArray⟩ j (by rw [str_size]; exact hj)]
    rfl
  · refine ⟨rfl, rfl, rfl, by rw [Lib.bytesWorld_size]; omega, fun k hk => Lib.bytesWorld_at_old w 5 _ k hk⟩

def cleanB (l : List UInt8) : Bool := allFrom l 0 l.length == l

/-- the document's example -/
def exL : List UInt8 := [97, 13, 10, 0]
theorem ex_next : nxAt exL 1 = (10, 2) := by decide
theorem ex_all : allFrom exL 0 4 = [97, 10, 239, 191, 189] := by decide
theorem ex_sl (w : World) : Sl exL (some ⟨w.heap.size, 0, none⟩) 4 (w.alloc (.cells #[.int .u8 97, .int .u8 13, .int .u8 10, .int .u8 0] 5)) := by
  refine ⟨by decide, Or.inr ⟨w.heap.size, 0, rfl, fun j hj => ?_⟩⟩
  have hj4 : j < 4 := hj
  match j, hj4 with
  | 0, _ => simp [go_sem, at0, exL]
  | 1, _ => simp [go_sem, at0, exL]
  | 2, _ => simp [go_sem, at0, exL]
  | 3, _ => simp [go_sem, at0, exL]

end Go.Proofs.YtndcmapifihgeaaGreatDoor.Ch
