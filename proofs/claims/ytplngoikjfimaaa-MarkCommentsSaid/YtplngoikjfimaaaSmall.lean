/- class.Small: a text with small letters, whatever its bytes are; the example of the document. -/
import Derived.Test.YtplngoikjfimaaaCls
import Derived.Lib.OthersKept
import Derived.Lib.ConvBytes
import Derived.Lib.Hide
import Derived.Deep.LoopGhost
import Derived.Laws.OwnMore
import Derived.Laws.BytesArg
namespace Go.Proofs.Ytplngoikjfimaaa
open Go.RowKit Go.Lib

theorem str_size (l : List UInt8) : (⟨l.toArray⟩ : ByteArray).size = l.length := by simp [ByteArray.size]

/-- a row of bytes of one's own, whose first ones are those of the list, none of which a string shares -/
def Row (l : List UInt8) (g : Nat) (w : World) : Prop :=
  ∃ (cur : Array Value) (z : Nat), w.heap[g]? = some (.cells cur 5 (z, z + 1)) ∧ l.length ≤ z ∧ ∀ j, j < l.length → cur[j]? = some (.int .u8 (at0 l j : Int))

theorem Row.cell {l : List UInt8} {g : Nat} {w : World} (h : Row l g w) {j : Nat} (hj : j < l.length) : w.cell? ⟨g, j, none⟩ = some (.int .u8 (at0 l j : Int)) := by
  obtain ⟨cur, z, hg, _, hc⟩ := h
  simp [World.cell?, hg, hc j hj]

theorem Row.frozen {l : List UInt8} {g : Nat} {w : World} (h : Row l g w) {j : Nat} (hj : j < l.length) : w.frozen? ⟨g, j, none⟩ = false := by
  obtain ⟨cur, z, hg, hz, _⟩ := h
  simp [World.frozen?, hg]
  omega

theorem Row.other {l : List UInt8} {g : Nat} {w w' : World} (h : Row l g w) (he : w'.heap[g]? = w.heap[g]?) : Row l g w' := by
  obtain ⟨cur, z, hg, hz, hc⟩ := h
  exact ⟨cur, z, by rw [he]; exact hg, hz, hc⟩

theorem Row.set {l : List UInt8} {g : Nat} {w : World} (h : Row l g w) (j : Nat) (b : UInt8) : Row (l.set j b) g (w.setCell ⟨g, j, none⟩ (.int .u8 (b.toNat : Int))) := by
  obtain ⟨cur, z, hg, hz, hc⟩ := h
  refine ⟨cur.setIfInBounds j (.int .u8 (b.toNat : Int)), z, ?_, by rw [List.length_set]; exact hz, fun i hi => ?_⟩
  · have hlt : g < w.heap.size := by
      rcases Nat.lt_or_ge g w.heap.size with h' | h'
      · exact h'
      · simp [Array.getElem?_eq_none h'] at hg
    rw [Array.getElem?_eq_getElem hlt] at hg
    injection hg with hg
    simp [World.setCell, hlt]
    rw [Array.getElem_modify_self, hg]
  · rw [List.length_set] at hi
    rw [Array.getElem?_setIfInBounds]
    have hci := hc i hi
    have hlt : i < cur.size := by
      rcases Nat.lt_or_ge i cur.size with h' | h'
      · exact h'
      · simp [Array.getElem?_eq_none h'] at hci
    by_cases hij : j = i
    · subst hij
      rw [if_pos rfl, if_pos hlt]
      simp [at0, List.getD_eq_getElem?_getD, hi]
    · rw [if_neg hij, hci]
      simp [at0, List.getD_eq_getElem?_getD, hij]

/-- '[]byte(s)': a new row whose bytes are the string's. -/
theorem bytes_row (l : List UInt8) (w : World) : ∃ (cap : Nat) (W : World), (convert 9 22 (.string ⟨l.toArray⟩)).run Try.prog w = .ok (.slice (some ⟨w.heap.size, 0, none⟩) l.length cap) W ∧ Row l w.heap.size W ∧ W.heap.size = w.heap.size + 1 ∧ Below w.heap.size w W := by
  refine ⟨grownCap w l.length 0 5, Lib.bytesWorld w 5 ⟨l.toArray⟩, ?_, ?_, Lib.bytesWorld_size _ _ _, ?_⟩
  · have := Lib.run_convert_string_bytes (P := Try.prog) w 9 22 5 ⟨l.toArray⟩ Try.underlying9 Try.underlying22 Try.underlying5
    rw [str_size] at this
    exact this
  · refine ⟨_, _, Lib.bytesWorld_at_new w 5 ⟨l.toArray⟩, ?_, fun j hj => ?_⟩
    · simp [Lib.bytesCells]
    · have := Lib.bytesWorld_cell w 5 ⟨l.toArray⟩ j (by rw [str_size]; exact hj)
      simp only [World.cell?, Lib.bytesWorld_at_new] at this
      exact this
  · exact ⟨rfl, rfl, rfl, by rw [Lib.bytesWorld_size]; omega, fun k hk => Lib.bytesWorld_at_old w 5 _ k hk⟩

/-- 'string(b)' of such a row -/
theorem string_row {l : List UInt8} {g cap : Nat} {w : World} (h : Row l g w) : (convert 22 9 (.slice (some ⟨g, 0, none⟩) l.length cap)).run Try.prog w = .ok (.string ⟨l.toArray⟩) w := by
  refine run_convert_bytes_back w 22 9 5 ⟨g, 0, none⟩ cap l Try.underlying22 Try.underlying5 Try.underlying9 fun j hj => ?_
  have e : (⟨g, 0, none⟩ : Addr).add j = ⟨g, j, none⟩ := by unfold Addr.add; split <;> simp_all
  rw [e, h.cell hj]
  simp [at0, List.getD_eq_getElem?_getD, hj]

theorem ret_str {l m : List UInt8} (h : l = m) : Ending.returned (.string ⟨l.toArray⟩) = .returned (.string ⟨m.toArray⟩) := by rw [h]

theorem low_at {l : List UInt8} {i : Nat} (h : i < l.length) : lowerZ (at0 l i : Int) % 256 = ((lowB l[i]).toNat : Int) := by
  rw [getD_at0 h, lowerZ_nat]
  have := UInt8.toNat_lt (lowB l[i])
  omega

theorem upto_same {l : List UInt8} {i : Nat} (h : i < l.length) (hg : greatZ (at0 l i : Int) = false) : upto l (i + 1) = upto l i := by
  rw [getD_at0 h, greatZ_nat] at hg
  have e : smallL [l[i]] = [l[i]] := by
    show [lowB l[i]] = _
    unfold lowB
    rw [hg]
    rfl
  unfold upto
  rw [List.take_succ_eq_append_getElem h, smallL_append, List.append_assoc, List.drop_eq_getElem_cons h, e]
  rfl

/-- half way -/
def SmallRel (l : List UInt8) (w : World) (k : Nat) (gf : Nat) (wr : World) : Prop :=
  ∃ pos : Nat, wr.heap[k]? = some (.stringIter ⟨l.toArray⟩ pos) ∧ Row (upto l pos) w.heap.size wr ∧ Below w.heap.size w wr ∧ l.length ≤ pos + gf

set_option maxHeartbeats 1000000 in
set_option maxRecDepth 100000 in
theorem smallText_any (l : List UInt8) (w : World) :
    Calls Try.prog 21 #[.string ⟨l.toArray⟩] w fun e w' => e = .returned (.string ⟨(smallL l).toArray⟩) ∧ Below w.heap.size w w' := by
  obtain ⟨cap, W, hconv, hrow, hWs, hbW⟩ := bytes_row l w
  go_enter Try.func21, Try.ntmps21
  go_wp2
  go_loopg [] l.length (fun gf wx => SmallRel l w (w.heap.size + 1) gf wx)
  case atStart =>
    refine ⟨0, by rw [← hWs]; exact World.iter_heap W _ 0, ?_, ?_, by omega⟩
    · rw [upto_zero]; exact hrow.other (by show (W.heap.push _)[w.heap.size]? = _; rw [Array.getElem?_push, if_neg (by omega)])
    · exact hbW.alloc (by omega) _
  case round =>
    obtain ⟨pos, hit, hr, hbw, hfu⟩ := hrel
    by_cases hps : pos < l.length
    · obtain ⟨g', rfl⟩ : ∃ g', gk = g' + 1 := ⟨gk - 1, by omega⟩
      have hnx : ∀ ty, (Instr.next (.pointer (some ⟨w.heap.size + 1, 0, none⟩)) true ty).run Try.prog wr = _ := fun ty => Lib.run_next_any_at wr (w.heap.size + 1) ⟨l.toArray⟩ pos ty hit (by rw [str_size]; exact hps)
      rw [decode_dec] at hnx
      have hwd := dec_pos l pos
      by_cases ha : at0 l pos < 128
      · rw [dec_ascii ha] at hnx
        simp only at hnx
        have hit2 := Lib.iterAt_heap wr (w.heap.size + 1) ⟨l.toArray⟩ pos (pos + 1) hit
        have hbw2 := Lib.below_iterAt hbw (k := w.heap.size + 1) (by omega) ⟨l.toArray⟩ (pos + 1)
        have hr2 := hr.other (Lib.iterAt_other wr (w.heap.size + 1) w.heap.size ⟨l.toArray⟩ (pos + 1) (by omega))
        obtain ⟨V, hV⟩ : ∃ V, wr.iterAt (w.heap.size + 1) ⟨l.toArray⟩ (pos + 1) = V := ⟨_, rfl⟩
        rw [hV] at hnx hit2 hbw2 hr2
        clear hV
        have hG := great_any (at0 l pos : Int) V
        have hL := lower_any (at0 l pos : Int) V
        cases hg : greatZ (at0 l pos : Int)
        · rw [hg] at hG
          go_wp2_with fail
          refine hG.mono ?_
          rintro e w' ⟨rfl, rfl⟩
          go_wp2
          go_roundg g'
          case measure => omega
          case rel =>
            refine ⟨pos + 1, hit2, ?_, hbw2, by omega⟩
            rw [upto_same hps hg]; exact hr2
        · rw [hg] at hG
          have hcell := hr2.cell (j := pos) (by rw [upto_length]; exact hps)
          have hfr := hr2.frozen (j := pos) (by rw [upto_length]; exact hps)
          have hps' : (pos : Int) < (l.length : Int) := by omega
          go_wp2_with fail
          refine hG.mono ?_
          rintro e w' ⟨rfl, rfl⟩
          go_wp2_with fail
          refine hL.mono ?_
          rintro e w' ⟨rfl, rfl⟩
          go_wp2
          go_roundg g'
          case measure => omega
          case rel =>
            refine ⟨pos + 1, ?_, ?_, ?_, by omega⟩
            · exact (heap_setCell_other V ⟨w.heap.size, pos, none⟩ (w.heap.size + 1) _ (by simp)).trans hit2
            · rw [upto_succ l pos hps, low_at hps]
              exact hr2.set pos _
            · refine hbw2.trans ⟨rfl, rfl, rfl, by simp, fun k hk => ?_⟩
              exact heap_setCell_other V ⟨w.heap.size, pos, none⟩ k _ (by simp; omega)
      · have hh : 128 ≤ at0 l pos := by omega
        have hR := dec_high hh
        have hsp := dec_span hps hh
        have hup := Lib.hid (upto_span l pos _ hsp.1 hsp.2)
        obtain ⟨⟨R, K⟩, hRK⟩ : ∃ R, dec l pos = R := ⟨_, rfl⟩
        rw [hRK] at hnx hR hwd hup
        clear hRK hsp ha hh
        simp only at hnx hR hwd hup
        have hit2 := Lib.iterAt_heap wr (w.heap.size + 1) ⟨l.toArray⟩ pos (pos + K) hit
        have hbw2 := Lib.below_iterAt hbw (k := w.heap.size + 1) (by omega) ⟨l.toArray⟩ (pos + K)
        have hr2 := hr.other (Lib.iterAt_other wr (w.heap.size + 1) w.heap.size ⟨l.toArray⟩ (pos + K) (by omega))
        obtain ⟨V, hV⟩ : ∃ V, wr.iterAt (w.heap.size + 1) ⟨l.toArray⟩ (pos + K) = V := ⟨_, rfl⟩
        rw [hV] at hnx hit2 hbw2 hr2
        clear hV
        have hG := great_any (R : Int) V
        rw [show greatZ (R : Int) = false by simp [greatZ]; omega] at hG
        go_wp2_with fail
        refine hG.mono ?_
        rintro e w' ⟨rfl, rfl⟩
        go_wp2
        go_roundg g'
        case measure => omega
        case rel =>
          refine ⟨pos + K, hit2, ?_, hbw2, by omega⟩
          rw [hup.out]; exact hr2
    · have hnx : ∀ ty, (Instr.next (.pointer (some ⟨w.heap.size + 1, 0, none⟩)) true ty).run Try.prog wr = _ := fun ty => Lib.run_next_end_at wr (w.heap.size + 1) _ pos ty hit (by rw [str_size]; exact hps)
      have hstr := string_row (cap := cap) hr
      rw [upto_length] at hstr
      go_wp2
      go_ret
      refine ⟨ret_str (upto_end l pos (by omega)), hbw⟩

end Go.Proofs.Ytplngoikjfimaaa
