/- The document's example, walked; tokens of fronts, and of letters made great. -/
import Derived.Test.YtfnecdifaodamaaDoorTgRead
import Derived.Test.YtfnecdifaodamaaDoorTgGreat
import Derived.Test.YtfnecdifaodamaaDoorSpk
namespace Go.Proofs.YtfnecdifaodamaaDoor.Tg
open Go.RowKit Go.Lib
open Ch (at0 nx nx_width nx_range at0_lt at0_drop enc_len Sl Sl.below Cells ret_str good nx_good ret_bool)
open At (cellsA ads)

variable {l : List UInt8} {a : Option Addr} {cap R i : Nat} {W w w' : World}

def exT : List UInt8 := [60, 65, 32, 72, 82, 69, 70, 61, 120, 32, 97, 62]
def exL : List At.At := [([104, 114, 101, 102], [120]), ([97], [])]
set_option maxRecDepth 100000 in
theorem ex_bg : bg exT = 1 := by decide +kernel
set_option maxRecDepth 100000 in
theorem ex_tn : tn exT = [97] := by decide +kernel
set_option maxRecDepth 100000 in
theorem ex_tr : tr exT = some (exL, 12) := by decide +kernel
set_option maxRecDepth 100000 in
theorem ex_ads : ads exL = exL := by decide +kernel
theorem ex_at : bgAt exT 0 = 1 := by
  unfold bgAt
  rw [if_pos (by decide)]
  exact ex_bg
theorem ex_tk : tkAt exT 0 = ⟨2, [97], exL, 0, 12⟩ := by
  unfold tkAt
  rw [if_neg (by rw [ex_at]; decide)]
  change tkIn exT 0 = _
  rw [tkIn_some (l := exT) (i := 0) ex_tr]
  show (⟨bg exT + 1, tn exT, if bg exT = 1 then ads exL else [], _, _⟩ : Tk) = _
  rw [ex_bg, ex_tn, ex_ads]
  rfl

theorem eq43 (x1 x2 y1 y2 : At.Str) (w : World) : (Op.equalIn 10000 43 (.agg #[.string ⟨x1.toArray⟩, .string ⟨x2.toArray⟩]) (.agg #[.string ⟨y1.toArray⟩, .string ⟨y2.toArray⟩])).run Tryd.prog w = .ok (decide ((x1, x2) = (y1, y2))) w := by
  have hS : Tryd.prog.underlying 43 = some (.struct (Tryd.prog.fieldsOf 43)) := by kernel_rfl
  have hp : Tryd.prog.stoodInHeld 43 = false := by kernel_rfl
  have u9 := Tryd.underlying9
  have a9 := Tryd.isAgg9
  have z9 := Tryd.sizeOf9
  rw [show (10000 : Nat) = 9999 + 1 from rfl, run_equalIn_agg w 9999 43 _ _ hS hp]
  simp only [Program.fieldsOf, Tryd.underlying43]
  go_simp
  by_cases h1 : x1 = y1 <;> by_cases h2 : x2 = y2 <;> simp [h1, h2]

set_option maxHeartbeats 4000000 in
set_option maxRecDepth 100000 in
theorem tspeaks_any (w : World) (hT : Tb w) :
    Calls Tryd.prog 7 #[] w fun e w' => e = .returned (.bool true) ∧ Below w.heap.size w w' := by
  obtain ⟨hA, hb1, hz, k1⟩ := sl_const exT w #[.int .u8 60, .int .u8 65, .int .u8 32, .int .u8 72, .int .u8 82, .int .u8 69, .int .u8 70, .int .u8 61, .int .u8 120, .int .u8 32, .int .u8 97, .int .u8 62] 12 (by rfl) rfl
  obtain ⟨W1, hW1⟩ : ∃ W, w.alloc (.cells #[.int .u8 60, .int .u8 65, .int .u8 32, .int .u8 72, .int .u8 82, .int .u8 69, .int .u8 70, .int .u8 61, .int .u8 120, .int .u8 32, .int .u8 97, .int .u8 62] 5 (12, 12 + 1)) = W := ⟨_, rfl⟩
  rw [hW1] at hA hb1 hz k1
  have c1 := read_on (a := some ⟨w.heap.size, 0, none⟩) (cap := 12) 0 hA (hT.below hb1) (by decide)
  have HB1 := Lib.hid hb1
  have hE1 := eq43 [104, 114, 101, 102] [120] [104, 114, 101, 102] [120]
  have hE2 := eq43 [97] [] [97] []
  rw [decide_eq_true rfl] at hE1 hE2
  have hm : Tryd.prog.eqGuardType Tryd.prog.depth 43 = false := by kernel_rfl
  clear hW1 hb1 hA hz
  go_enter Tryd.func7, Tryd.ntmps7
  go_wp2_with fail
  refine c1.mono ?_
  rintro e w3 ⟨s, rfl, ho, hb3⟩
  rw [ex_tk] at ho ⊢
  rw [ex_at]
  obtain ⟨a5, cap5, rfl, hs5⟩ := At.sl_own ho
  unfold tokV
  simp only at hs5 ⊢
  obtain ⟨hc1, -, h0 | ⟨b, off, rfl, hc⟩⟩ := hs5
  · cases h0
  · have q0 := hc 0 (by decide)
    have q1 := hc 1 (by decide)
    have q00 : w3.cell? ⟨b, off, none⟩ = some (.string ⟨[104, 114, 101, 102].toArray⟩) := q0.1
    have q01 : w3.cell? ⟨b, off + 1, none⟩ = some (.string ⟨[120].toArray⟩) := q0.2
    have q10 : w3.cell? ⟨b, off + 2, none⟩ = some (.string ⟨[97].toArray⟩) := q1.1
    have q11 : w3.cell? ⟨b, off + 3, none⟩ = some (.string ⟨([] : List UInt8).toArray⟩) := q1.2
    have hbl : b < w3.heap.size := World.block_lt_of_cell? w3 _ q00
    have HB3 := Lib.hid (At.below_trans HB1.out hb3)
    clear q0 q1 hc ho hb3 c1
    simp only [exL, List.length_cons, List.length_nil, Nat.reduceAdd] at *
    go_wp2
    go_ret
    exact ⟨rfl, HB3.out.alloc HB3.out.size _⟩

theorem cut_tk {L : List At.At} {e k : Nat} (h0 : bg l ≠ 0) (h : tr l = some (L, e)) (h1 : bg l + 1 ≤ k) (h2 : k < e) : tkAt (l.take k) 0 = ⟨0, [], [], 0, (k : Int)⟩ ∧ bgAt (l.take k) 0 ≠ 0 := by
  obtain ⟨hb, hn⟩ := tr_cut h0 h h1 h2
  have he := (tr_stab h0 h).2.1
  have hl : (l.take k).length = k := by simp; omega
  have hbg : bgAt (l.take k) 0 = bg (l.take k) := by unfold bgAt; rw [if_pos (by omega)]; rfl
  refine ⟨?_, by rw [hbg, hb]; exact h0⟩
  unfold tkAt
  rw [if_neg (by rw [hbg, hb]; exact h0)]
  change tkIn (l.take k) 0 = _
  rw [tkIn_none (l := l.take k) (i := 0) hn, hl]
  rfl
theorem whole_tk {L : List At.At} {e : Nat} (h0 : bg l ≠ 0) (hl : l ≠ []) (h : tr l = some (L, e)) : tkAt l 0 = ⟨bg l + 1, tn l, if bg l = 1 then ads L else [], 0, (e : Int)⟩ ∧ bgAt l 0 = bg l := by
  have hbg : bgAt l 0 = bg l := by
    have := List.length_pos_iff.2 hl
    unfold bgAt; rw [if_pos (by omega)]; rfl
  refine ⟨?_, hbg⟩
  unfold tkAt
  rw [if_neg (by rw [hbg]; exact h0)]
  change tkIn l 0 = _
  rw [tkIn_some (l := l) (i := 0) h]
  simp
theorem none_tk (h : bgAt l 0 = 0) : tkAt l 0 = ⟨0, [], [], 0, 0⟩ := by unfold tkAt; rw [if_pos h]
theorem open_tk (h0 : bg l ≠ 0) (hl : l ≠ []) (h : tr l = none) : tkAt l 0 = ⟨0, [], [], 0, (l.length : Int)⟩ ∧ bgAt l 0 = bg l := by
  have hbg : bgAt l 0 = bg l := by
    have := List.length_pos_iff.2 hl
    unfold bgAt; rw [if_pos (by omega)]; rfl
  refine ⟨?_, hbg⟩
  unfold tkAt
  rw [if_neg (by rw [hbg]; exact h0)]
  change tkIn l 0 = _
  rw [tkIn_none (l := l) (i := 0) h]
  rfl
theorem great_tk {L : List At.At} {e : Nat} (h0 : bg l ≠ 0) (hl : l ≠ []) (h : tr l = some (L, e)) (h61 : (61 : UInt8) ∉ l.take e) : tkAt (upL (l.take e)) 0 = tkAt l 0 ∧ bgAt (upL (l.take e)) 0 ≠ 0 := by
  have hst := tr_stab h0 h
  have hy := hst.2.2.2 []
  rw [List.append_nil] at hy
  have hu := tr_up h61
  have hlen : (upL (l.take e)).length = e := by rw [upL_len]; simp; omega
  have hne : upL (l.take e) ≠ [] := by intro k; rw [k] at hlen; simp at hlen; omega
  have hw := whole_tk (l := upL (l.take e)) (by rw [hu.1, hy.1]; exact h0) hne (by rw [hu.2.2]; exact hy.2.2)
  rw [hw.1, (whole_tk h0 hl h).1, hw.2, hu.1, hu.2.1, hy.1, hy.2.1]
  exact ⟨rfl, h0⟩
end Go.Proofs.YtfnecdifaodamaaDoor.Tg
