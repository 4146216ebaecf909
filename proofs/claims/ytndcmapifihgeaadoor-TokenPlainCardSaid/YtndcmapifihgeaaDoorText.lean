/- The program's Text: the text of bytes, their references read. -/
import Derived.Test.YtndcmapifihgeaaDoorRead
import Derived.Test.YtndcmapifihgeaaDoorWs
namespace Go.Proofs.YtndcmapifihgeaaDoor
open Go.RowKit Go.Lib
open Ch (at0 nx nx_width nx_range at0_lt at0_drop enc_len Sl Sl.below Cells ret_two Cells.drop ret_str nxAt nxAt_in next_any writeRune IsBuilderF_below)

/-- where the loop stands -/
def TxRel (attr : Bool) (m : List UInt8) (w : World) (v : Value) (wr : World) : Prop :=
  ∃ (j : Nat) (acc : List UInt8), v = .int .i64 (j : Int) ∧ j ≤ m.length ∧ Lib.IsBuilderF 43 5 w.heap.size w.heap.size (Lib.byteCells acc) wr ∧ Below w.heap.size w wr ∧ acc ++ txt attr (m.drop j) = txt attr m

theorem drop_ne {m : List UInt8} {j : Nat} (h : j < m.length) : m.drop j ≠ [] := by
  intro e; have := congrArg List.length e; simp at this; omega

theorem txt_acc {attr : Bool} {m acc : List UInt8} {j : Nat} (h : acc ++ txt attr (m.drop j) = txt attr m) : acc.length ≤ 5 * m.length := by
  have := txt_len attr m.length m (Nat.le_refl _)
  rw [← h] at this
  simp at this
  omega

set_option maxHeartbeats 4000000 in
set_option maxRecDepth 100000 in
theorem text_in (l : List UInt8) (b off cap : Nat) (i n : Nat) (attr : Bool) (w : World) (hc : Cells l b off w) (hcap : l.length ≤ cap) (hin : i + n ≤ l.length) (hn : 0 < n) (hT : Tb w) (hl : l.length ≤ 1000000) :
    Calls Tryd.prog 35 #[.slice (some ⟨b, off, none⟩) l.length cap, .int .i64 (i : Int), .int .i64 ((i : Int) + (n : Int)), .bool attr] w fun e w' => e = .returned (.string ⟨(txt attr ((l.drop i).take n)).toArray⟩) ∧ Below w.heap.size w w' := by
  obtain ⟨m, hm⟩ : ∃ m, (l.drop i).take n = m := ⟨_, rfl⟩
  have hml : m.length = n := by rw [← hm]; simp; omega
  have hmc : Cells m b (off + i) w := by rw [← hm]; exact Cells.take (hc.drop i) n
  have hms : Sl m (some ⟨b, off + i, none⟩) (cap - i) w := ⟨by omega, Or.inr ⟨b, off + i, rfl, hmc⟩⟩
  rw [hm]
  clear hm hmc hc
  have e1 : max (i : Int) 0 = (i : Int) := by omega
  have e2 : min ((i : Int) + (n : Int)) (l.length : Int) = (i : Int) + (n : Int) := by omega
  have e3 : ¬ ((i : Int) + (n : Int) ≤ (i : Int)) := by omega
  have e4 : i < cap := by omega
  have HML := Lib.hid hml
  have hn1 : n ≤ 1000000 := by omega
  go_enter Tryd.func35, Tryd.ntmps35
  go_wp2
  go_loopw [11] (fun v wr => TxRel attr m w v wr) (fun v _ => ((n : Int) - RowKit.intOf v).toNat)
  case atStart => exact ⟨0, [], rfl, by omega, Lib.IsBuilderF.of (Lib.fresh_isBuilder 43 5 w), (Below.refl _ w).alloc (Nat.le_refl _) _, rfl⟩
  case round =>
    obtain ⟨j, acc, rfl, hj, hI, hbw, hacc⟩ := hrel
    have hsz := hbw.size
    have hal := txt_acc hacc
    have HACC := Lib.hid hacc
    clear hacc
    have hsr := hms.below hbw
    have hTr := hT.below hbw
    by_cases hlt : j < n
    · have hlt' : (j : Int) < (n : Int) := by omega
      have hjm : j < m.length := by omega
      have hR := read_any m (some ⟨b, off + i, none⟩) (cap - i) (j : Int) attr wr hsr (by omega) hTr.2
      rw [rdAt_in hjm, HML.out] at hR
      have hne := drop_ne hjm
      cases hr : rd (m.drop j) attr with
      | none =>
        rw [hr, show sh j none = none from rfl, resP_none rfl] at hR
        have hst := Lib.hid (txt_char hne hr)
        have hN := next_any m (some ⟨b, off + i, none⟩) (cap - i) (j : Int) wr hsr hTr.1
        rw [nxAt_in hjm, HML.out] at hN
        have hw := nx_width _ hne
        have hrg := nx_range (m.drop j)
        rw [List.drop_drop] at hst
        simp only [List.length_drop] at hw
        clear hne hr
        generalize nx (m.drop j) = R at hN hw hrg hst
        obtain ⟨c, k⟩ := R
        simp only at hw hrg hst hN
        go_wp2_with fail
        refine hR.mono ?_
        rintro e w1 ⟨rfl, rfl⟩
        go_wp2_with fail
        refine hN.mono ?_
        rintro e w2 ⟨rfl, hb2⟩
        go_wp2_with fail
        refine (writeRune w.heap.size w.heap.size _ (c : Int) (by omega) (by omega) w2 (IsBuilderF_below hI hb2) (by rw [Lib.byteCells_length]; omega) (by have := hb2.size; omega)).mono ?_
        rintro e w3 ⟨rfl, hI3, hb3⟩
        go_wp2
        go_roundw
        case rel =>
          refine ⟨j + k, acc ++ encodeRune (c : Int), by go_num, by omega, ?_, ?_, ?_⟩
          · rw [Lib.byteCells_append, Lib.byteCells_encodeRune]; exact hI3
          · exact (hbw.trans (hb2.mono (by omega))).trans hb3
          · rw [List.append_assoc, ← hst.out]; exact HACC.out
        case measure => simp [RowKit.intOf]; omega
      | some p =>
        obtain ⟨s, e⟩ := p
        have hbd := rd_bd hr
        rw [hr, show sh j (some (s, e)) = some (s, j + e) from rfl, resP_some rfl rfl] at hR
        have hst := Lib.hid (txt_ref hr)
        rw [List.drop_drop] at hst
        simp only [List.length_drop] at hbd
        clear hne hr
        go_wp2_with fail
        refine hR.mono ?_
        rintro e1 w1 ⟨rfl, rfl⟩
        go_wp2_with fail
        refine (writeString w.heap.size w.heap.size _ s wr hI (by rw [Lib.byteCells_length]; omega) (by omega)).mono ?_
        rintro e2 w2 ⟨rfl, hI2, hb2⟩
        go_wp2
        go_roundw
        case rel =>
          refine ⟨j + e, acc ++ s, by go_num, by omega, ?_, ?_, ?_⟩
          · rw [Lib.byteCells_append]; exact hI2
          · exact hbw.trans hb2
          · rw [List.append_assoc, ← hst.out]; exact HACC.out
        case measure => simp [RowKit.intOf]; omega
    · have hlt' : ¬ (j : Int) < (n : Int) := by omega
      have hend := Lib.hid (show acc = txt attr m by
        have := HACC.out
        rw [List.drop_of_length_le (by omega), txt_nil, List.append_nil] at this
        exact this)
      clear hlt
      go_wp2_with fail
      refine (Tryd.Builder_String_any_k w.heap.size w.heap.size acc wr hI (by omega)).mono ?_
      rintro e w2 ⟨rfl, _, hb2, _⟩
      go_wp2
      go_ret
      exact ⟨ret_str (l := acc) hend.out, hbw.trans hb2⟩

set_option maxHeartbeats 1000000 in
set_option maxRecDepth 100000 in
theorem text_none (len : Nat) (a : Option Addr) (cap i : Nat) (attr : Bool) (w : World) (hin : i ≤ len) (_hl : len ≤ 1000000) :
    Calls Tryd.prog 35 #[.slice a len cap, .int .i64 (i : Int), .int .i64 (i : Int), .bool attr] w fun e w' => e = .returned (.string ⟨#[]⟩) ∧ Below w.heap.size w w' := by
  have e1 : max (i : Int) 0 = (i : Int) := by omega
  have e2 : min (i : Int) (len : Int) = (i : Int) := by omega
  go_enter Tryd.func35, Tryd.ntmps35
  go_wp2
  go_ret
  exact ⟨rfl, Below.refl _ _⟩

theorem text_any (l : List UInt8) (a : Option Addr) (cap : Nat) (i n : Nat) (x y : Int) (attr : Bool) (w : World) (hs : Sl l a cap w) (hx : x = (i : Int)) (hy : y = (i : Int) + (n : Int)) (hin : i + n ≤ l.length) (hT : Tb w) (hl : l.length ≤ 1000000) :
    Calls Tryd.prog 35 #[.slice a l.length cap, .int .i64 x, .int .i64 y, .bool attr] w fun e w' => e = .returned (.string ⟨(txt attr ((l.drop i).take n)).toArray⟩) ∧ Below w.heap.size w w' := by
  subst hx hy
  by_cases hn : 0 < n
  · obtain ⟨hcap, h2 | ⟨b, off, rfl, hc⟩⟩ := hs
    · subst h2; simp at hin; omega
    · exact text_in l b off cap i n attr w hc hcap hin hn hT hl
  · obtain rfl : n = 0 := by omega
    have := text_none l.length a cap i attr w (by omega) hl
    simpa [txt_nil] using this
end Go.Proofs.YtndcmapifihgeaaDoor
