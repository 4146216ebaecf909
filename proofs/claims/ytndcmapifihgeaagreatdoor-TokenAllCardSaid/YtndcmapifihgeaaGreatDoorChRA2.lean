/- The reference's All of layer 2, walked. -/
import Derived.Test.YtndcmapifihgeaaGreatDoorChAll
import Derived.Test.YtndcmapifihgeaaGreatDoorChRAll
import Derived.Laws.OwnMore
import Derived.Laws.IdiomStrings
import Derived.Laws.BytesArg
namespace Go.Proofs.YtndcmapifihgeaaGreatDoor.Ch
open Go.RowKit Go.Lib

set_option maxHeartbeats 1000000 in
set_option maxRecDepth 100000 in
theorem refAll_any (l : List UInt8) (a : Option Addr) (cap : Nat) (x0 to : Int) (w : World) (hs : Sl l a cap w) (hl : l.length ≤ 1000000) :
    Calls Tryz.prog 19 #[.slice a l.length cap, .int .i64 x0, .int .i64 to] w fun e w' => e = .returned (.string ⟨(allFrom l x0 to).toArray⟩) ∧ Below w.heap.size w w' := by
  by_cases hx : x0 < 0
  · have e : allFrom l x0 to = [] := allFrom_out l x0 to (by omega)
    rw [e]
    clear e
    go_enter Tryz.func19, Tryz.ntmps19
    go_wp2
    go_ret
    exact ⟨rfl, (Below.refl _ w).alloc (Nat.le_refl _) _⟩
  · obtain ⟨i0, rfl⟩ : ∃ i : Nat, x0 = i := ⟨x0.toNat, by omega⟩
    obtain ⟨i5, hi5, hp5⟩ := info5
    simp only [Prod.mk.injEq] at hp5
    obtain ⟨hz5, hsz5, hby5⟩ := hp5
    have HI5 := Lib.hid hi5
    have HZ5 := Lib.hid hz5
    have HS5 := Lib.hid hsz5
    have HB5 := Lib.hid hby5
    clear hi5 hz5 hsz5 hby5 hx
    go_enter Tryz.func19, Tryz.ntmps19
    go_wp2
    go_loopw [7, 8] (fun v7 v8 wr => RAllRel l i0 to w v7 v8 wr) (fun _ v8 _ => ((l.length : Int) - RowKit.intOf v8).toNat)
    case atStart =>
      refine ⟨i0, [], rfl, ⟨by simp [Lib.byteCells], Or.inr ⟨w.heap.size, 0, #[], rfl, Nat.le_refl _, ?_, by simp, by simp, by simp, by simp [Lib.byteCells]⟩⟩, (Below.refl _ w).alloc (Nat.le_refl _) _, rfl⟩
      simp [World.alloc, -World.alloc_eq]
    case round =>
      obtain ⟨i, acc, rfl, hI, hbw, hacc⟩ := hrel
      have hsz := hbw.size
      have HACC := Lib.hid hacc
      have hal : acc.length ≤ 4 * l.length := by
        have := allFrom_len l i0 to
        rw [← hacc] at this
        simp at this; omega
      clear hacc
      have hsr := hs.below hbw
      by_cases hlt : (i : Int) < to
      · by_cases hin : i < l.length
        · have hin' : (i : Int) < (l.length : Int) := by omega
          have hN := refNext_any l a cap i wr hsr (by omega)
          rw [nxAt_in hin] at hN
          have hne : l.drop i ≠ [] := by
            intro e; have := congrArg List.length e; simp at this; omega
          have hw := nx_width _ hne
          have hg := nx_good (l.drop i)
          have hst := Lib.hid (allFrom_step l i to hin hlt)
          simp only [List.length_drop] at hw
          clear hne
          generalize nx (l.drop i) = R at hN hw hg hst
          obtain ⟨c, n⟩ := R
          simp only at hw hg hst hN
          go_wp2_with fail
          refine hN.mono ?_
          rintro e w1 ⟨rfl, rfl⟩
          go_wp2_with fail
          refine (utfBytes c wr hg).mono ?_
          rintro e w2 ⟨cap2, rfl, hcells, hb2⟩
          have hown := ownsRow_below hI hb2
          have hz2 := hb2.size
          have hrl := runeCells_le (c : Int)
          have HC := Lib.hid hcells
          clear hcells
          go_wp2_with (at_builtin; refine wpList_append_own _ rfl (.tmp 30) (.tmp 32) 22 rfl w.heap.size 5 i5 (.int .u8 0) 1 1 Tryz.underlying22 HI5.out HZ5.out HS5.out HB5.out rfl (by decide) _ _ _ rfl hown ⟨wr.heap.size, 0, none⟩ _ _ (runeCells (c : Int)) rfl ?c0 ?c1 ?c2 ?c3 ?c4 ?c5 ?_)
          case c0 => simp
          case c1 =>
            intro j u hj
            rw [addr_add0]
            exact HC.out j u hj
          case c2 =>
            intro u hu
            unfold runeCells at hu
            obtain ⟨z, _, rfl⟩ := List.mem_map.1 hu
            rfl
          case c3 => unfold maxLen; omega
          case c4 => omega
          case c5 => omega
          intro v' w3 hown' hgrow _
          go_wp2
          go_roundw
          case rel =>
            refine ⟨i + n, acc ++ encodeRune (c : Int), by go_num, ?_, ?_, ?_⟩
            · rw [Lib.byteCells_append, Lib.byteCells_encodeRune, List.length_append, ← runeCells_length]; exact hown'
            · exact (hbw.trans (hb2.mono hsz)).grown hgrow (by omega) (fun k hk => (hown.lt k hk).1)
            · rw [List.append_assoc, ← hst.out]; exact HACC.out
          case measure => simp [RowKit.intOf]; omega
        · have hin' : ¬ (i : Int) < (l.length : Int) := by omega
          have hend := Lib.hid (allFrom_out l i to (by omega))
          have hstr := string_own hI
          go_wp2
          go_ret
          refine ⟨ret_str (l := acc) ?_, hbw⟩
          rw [← HACC.out, hend.out, List.append_nil]
      · have hend := Lib.hid (allFrom_late l i to hlt)
        have hlt' : decide ((i : Int) < to) = false := decide_eq_false hlt
        have hstr := string_own hI
        clear hlt
        go_wp2
        go_ret
        refine ⟨ret_str (l := acc) ?_, hbw⟩
        rw [← HACC.out, hend.out, List.append_nil]
end Go.Proofs.YtndcmapifihgeaaGreatDoor.Ch
