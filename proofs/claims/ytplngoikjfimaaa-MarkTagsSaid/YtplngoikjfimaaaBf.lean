/- The program's behindFirst, walked. -/
import Derived.Test.YtplngoikjfimaaaHas
namespace Go.Proofs.Ytplngoikjfimaaa
open Go.RowKit Go.Lib

variable {l : List UInt8} {a : Option Addr} {cap i : Nat} {w w' : World}

/-- a row of words -/
def Words (E : List (List UInt8)) (g : Nat) (w : World) : Prop := ∀ j (h : j < E.length), w.cell? ⟨g, j, none⟩ = some (.string ⟨(E[j]).toArray⟩)
theorem Words.below {E : List (List UInt8)} {g : Nat} (h : Words E g w) (hb : Below w.heap.size w w') : Words E g w' :=
  fun j hj => (hb.cell (cell_lt (h j hj))).trans (h j hj)

theorem hit_drop {E : List (List UInt8)} {j : Nat} (h : j < E.length) (m : List UInt8) : hit (E.drop j) m = if fits E[j] m then (E[j]).length else hit (E.drop (j + 1)) m := by
  rw [List.drop_eq_getElem_cons h]
  rfl
theorem bfr_at {E : List (List UInt8)} {k : Nat} (h : k < l.length) : bfr E (l.drop k) = if hit E (l.drop k) = 0 then bfr E (l.drop (k + 1)) + 1 else hit E (l.drop k) := by
  rw [List.drop_eq_getElem_cons h]
  rfl

/-- where the outer loop stands -/
def BfRel (E : List (List UInt8)) (l : List UInt8) (N : Nat) (w : World) (v7 : Value) (wr : World) : Prop :=
  ∃ k : Nat, v7 = .int .i64 (k : Int) ∧ k ≤ l.length ∧ k + bfr E (l.drop k) = N ∧ Below w.heap.size w wr
/-- where the inner loop stands -/
def HtRel (E : List (List UInt8)) (l : List UInt8) (k : Nat) (w : World) (v19 : Value) (wr : World) : Prop :=
  ∃ j : Nat, v19 = .int .i64 (j : Int) ∧ j ≤ E.length ∧ hit (E.drop j) (l.drop k) = hit E (l.drop k) ∧ Below w.heap.size w wr

set_option maxHeartbeats 4000000 in
set_option maxRecDepth 100000 in
theorem behind_any (E : List (List UInt8)) (i g cE : Nat) (w : World) (hs : Sl l a cap w) (hE : Words E g w) (hpos : ∀ p ∈ E, 0 < p.length) (hmax : ∀ p ∈ E, p.length ≤ 10) (hlE : E.length ≤ 10) (hi : i ≤ l.length) (hl : l.length ≤ 1000000) :
    Calls Try.prog 17 #[.slice a l.length cap, .int .i64 (i : Int), .slice (some ⟨g, 0, none⟩) E.length cE] w fun e w' => e = .returned (.int .i64 ((i + bfr E (l.drop i) : Nat) : Int)) ∧ Below w.heap.size w w' := by
  obtain ⟨N, hN⟩ : ∃ N, i + bfr E (l.drop i) = N := ⟨_, rfl⟩
  rw [hN]
  have HN := Lib.hid hN
  have HS := Lib.hid hs
  have HE := Lib.hid hE
  have HP := Lib.hid hpos
  have HM := Lib.hid hmax
  clear hN hs hE hpos hmax
  go_enter Try.func17, Try.ntmps17
  go_wp2
  go_loopw [7] (fun v wr => BfRel E l N w v wr) (fun v _ => l.length - (RowKit.intOf v).toNat)
  case atStart => exact ⟨i, rfl, hi, HN.out, Below.refl _ w⟩
  case round =>
    obtain ⟨k, rfl, hk, hN, hbw⟩ := hrel
    have hsz := hbw.size
    by_cases hlt : k < l.length
    · have hlt' : (k : Int) < (l.length : Int) := by omega
      have HN2 := Lib.hid hN
      have HB := Lib.hid hbw
      clear hN hbw
      go_wp2
      generalize wr = w0 at *
      go_loopw [19] (fun v wr => HtRel E l k w v wr) (fun v _ => E.length - (RowKit.intOf v).toNat)
      case atStart => exact ⟨0, rfl, by omega, rfl, HB.out⟩
      case round =>
        obtain ⟨j, rfl, hj, hh, hbi⟩ := hrel
        have hszi := hbi.size
        by_cases hjl : j < E.length
        · have hjl' : (j : Int) < (E.length : Int) := by omega
          have hcell := (HE.out.below hbi) j hjl
          have hpj := HP.out E[j] (List.getElem_mem hjl)
          have hmj := HM.out E[j] (List.getElem_mem hjl)
          have cH := has_any E[j] k wr (HS.out.below hbi) (by omega) hpj
          have HH := Lib.hid (hit_drop hjl (l.drop k))
          have HHI := Lib.hid hh
          have HBI := Lib.hid hbi
          have HBF := Lib.hid (bfr_at (E := E) hlt)
          clear hh hbi
          generalize E[j] = p at hcell cH HH hmj hpj
          have hps := str_size p
          obtain ⟨m, hm⟩ : ∃ m, l.drop k = m := ⟨_, rfl⟩
          rw [hm] at cH HH HHI HBF HN2
          have HM2 := Lib.hid hm
          clear hm
          cases hf : fits p m with
          | false =>
            rw [hf] at cH HH
            go_wp2_with fail
            refine cH.mono ?_
            rintro e w1 ⟨rfl, hb1⟩
            go_wp2
            go_roundw
            case rel => exact ⟨j + 1, by go_num, by omega, by rw [HM2.out, ← HHI.out, HH.out]; rfl, HBI.out.trans (hb1.mono hszi)⟩
            case measure => simp [RowKit.intOf]; omega
          | true =>
            rw [hf] at cH HH
            go_wp2_with fail
            refine cH.mono ?_
            rintro e w1 ⟨rfl, hb1⟩
            go_wp2
            go_ret
            refine ⟨ret_int ?_, HBI.out.trans (hb1.mono hszi)⟩
            have h1 := HH.out
            rw [HHI.out] at h1
            simp only [if_true] at h1
            have h2 := HBF.out
            rw [h1, if_neg (by omega)] at h2
            have h3 := HN2.out
            omega
        · have hjl' : ¬ ((j : Int) < (E.length : Int)) := by omega
          have h0 : hit E (l.drop k) = 0 := by rw [← hh, List.drop_of_length_le (by omega)]; rfl
          have HN3 := Lib.hid (show k + 1 + bfr E (l.drop (k + 1)) = N by
            have h1 := bfr_at (E := E) hlt
            rw [if_pos h0] at h1
            have h2 := HN2.out
            omega)
          clear h0 hh
          go_wp2
          go_roundw
          case rel => exact ⟨k + 1, by go_num, by omega, HN3.out, hbi⟩
          case measure => simp [RowKit.intOf]; omega
    · have hlt' : ¬ ((k : Int) < (l.length : Int)) := by omega
      go_wp2
      go_ret
      refine ⟨?_, hbw⟩
      rw [List.drop_of_length_le (by omega)] at hN
      simp only [bfr] at hN
      exact ret_int (by omega)
end Go.Proofs.Ytplngoikjfimaaa
