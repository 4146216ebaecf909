/- A builder's WriteString at this program's numbers; the program's tables over a call. -/
import Derived.Test.YtndcmapifihgeaaDoorChAll
import Derived.Test.YtndcmapifihgeaaDoorChRAll
import Derived.Test.YtndcmapifihgeaaDoorPt
import Derived.Lib.AppendStr
import Derived.Lib.FrozenHead
namespace Go.Proofs.YtndcmapifihgeaaDoor
open Go.RowKit Go.Lib

theorem strCells_list (l : List UInt8) : strCells ⟨l.toArray⟩ = byteCells l := rfl

set_option maxHeartbeats 4000000 in
set_option maxRecDepth 100000 in
theorem writeString (B b : Nat) (bs : List Value) (l : List UInt8) (w : World) (h : Lib.IsBuilderF 43 5 B b bs w) (hlen : bs.length + l.length ≤ 140737488355328) (hBw : B ≤ w.heap.size) :
    Calls Tryd.prog 45 #[.pointer (some ⟨b, 0, none⟩), .string ⟨l.toArray⟩] w fun e w' => e = .returned (.tuple #[.int .i64 l.length, .nilIface]) ∧ Lib.IsBuilderF 43 5 B b (bs ++ Lib.byteCells l) w' ∧ Below B w w' := by
  obtain ⟨i5, hi5, hp5⟩ := Ch.info5
  simp only [Prod.mk.injEq] at hp5
  obtain ⟨hz5, hsz5, hby5⟩ := hp5
  have HI5 := Lib.hid hi5
  have HZ5 := Lib.hid hz5
  have HS5 := Lib.hid hsz5
  have HB5 := Lib.hid hby5
  clear hi5 hz5 hsz5 hby5
  go_enter Tryd.func45, Tryd.ntmps45
  go_wp2_with fail
  refine (Ch.check_any B b bs _ h).mono ?_
  rintro e w1 ⟨rfl, ⟨hB, v, hbk, hown, hne⟩, hb1⟩
  have hz1 := hb1.size
  have hsize : (⟨l.toArray⟩ : ByteArray).size = l.length := Ch.str_size l
  have hex : ∃ ao cap, v = .slice ao bs.length cap := by
    rcases hown.2 with ⟨hv, h0⟩ | ⟨g, cap, cur, fz, hv, _⟩
    · exact ⟨none, 0, by rw [hv, h0]⟩
    · exact ⟨_, _, hv⟩
  obtain ⟨ao, cap, rfl⟩ := hex
  have c1 : w1.cell? ⟨b, 1, none⟩ = some (.slice ao bs.length cap) := by rw [Lib.cell_of_heap hbk]; rfl
  have hlt : b < w1.heap.size := by
    rcases Nat.lt_or_ge b w1.heap.size with h' | h'
    · exact h'
    · simp [Array.getElem?_eq_none h'] at hbk
  have HBK := Lib.hid hbk
  have HSZ := Lib.hid hsize
  clear hbk hsize
  go_wp2_with (at_builtin; refine Lib.wpList_append_own_stringF _ rfl _ _ 22 9 rfl B 5 i5 Tryd.underlying22 Tryd.underlying9 HI5.out HZ5.out HS5.out HB5.out _ _ _ rfl hown ⟨l.toArray⟩ rfl ?c3 ?c4 ?c5 ?_)
  case c3 => unfold maxLen; first | omega | (rw [HSZ.out]; omega)
  case c4 => first | omega | (rw [HSZ.out]; omega)
  case c5 => omega
  intro v' w2 hown' hgrow _
  rw [strCells_list] at hown'
  have hb2 : w2.heap[b]? = some (.cells #[.pointer (some ⟨b, 0, none⟩), .slice ao bs.length cap] 43 (0, 0)) := by
    rw [hgrow.block b hlt (fun e => hne e.symm)]
    exact HBK.out
  have d1 : w2.cell? ⟨b, 1, none⟩ = some (.slice ao bs.length cap) := by rw [Lib.cell_of_heap hb2]; rfl
  have f1 : w2.frozen? ⟨b, 1, none⟩ = false := Lib.frozen_of_heap hb2 1
  obtain ⟨ao', n', cap', rfl⟩ : ∃ ao n' cap, v' = .slice ao n' cap := by
    rcases hown'.2 with ⟨hv, _⟩ | ⟨g, cap, cur, fz, hv, _⟩
    · exact ⟨_, _, _, hv⟩
    · exact ⟨_, _, _, hv⟩
  have HB2 := Lib.hid hb2
  clear hb2
  go_wp2
  go_ret2
  refine ⟨?_, Or.inr ?_, ?_⟩
  · first | rfl | (rw [HSZ.out])
  · exact Lib.BuilderAtF.put (T := 43) (e := 5) hB HB2.out (bs' := bs ++ Lib.byteCells l) (by simpa [Lib.byteCells_length] using hown') (by decide)
  · exact (hb1.grown hgrow (by omega) (fun k hk => (hown.lt k hk).1)).setCell (p := ⟨b, 1, none⟩) hB _

/-- the tables that are read -/
def Tb (w : World) : Prop := Lib.Utf8Tabs 0 1 w ∧ Mv w

theorem Mv.below {w w' : World} (h : Mv w) (hb : Below w.heap.size w w') : Mv w' := fun i hi => (hb.cell (Ch.cell_lt (h i hi))).trans (h i hi)
theorem Tb.below {w w' : World} (h : Tb w) (hb : Below w.heap.size w w') : Tb w' := ⟨Ch.Tabs_below h.1 hb, h.2.below hb⟩
end Go.Proofs.YtndcmapifihgeaaDoor
