/- The document's arena: without, walked. -/
import Derived.Test.YtpnjjpbgbdicoaaRc
namespace Go.Proofs.Ytpnjjpbgbdicoaa
open Go.RowKit Go.Lib
open At (Str cellsA cellsA_len Sl below_drewN)

theorem Its.slice {w : World} {v : Value} {l : List (Nat × List UInt8)} (h : Its w v l) : ∃ a c, v = .slice a l.length c ∧ Fits l.length a c := Rw.slice h

/-- an item's cells -/
theorem Its.item {w : World} {v : Value} {l : List (Nat × List UInt8)} (h : Its w v l) {i : Nat} {p : Nat × List UInt8} (hi : l[i]? = some p) : ∃ g c, v = .slice (some ⟨g, 0, none⟩) l.length c ∧ i < l.length ∧ Ty w g 88 ∧ w.cell? ⟨g, i * 2, none⟩ = some (.string ⟨p.2.toArray⟩) ∧ w.cell? ⟨g, i * 2 + 1, none⟩ = some (.int .i64 (p.1 : Int)) := by
  have hil : i < l.length := (List.getElem?_eq_some_iff.1 hi).1
  obtain ⟨g, c, hv, -, -, hT, -, hcell, -⟩ := Rw.blk h (by omega)
  have ha := fun j hj => fl_at ic_len l i j p hi hj
  exact ⟨g, c, hv, hil, hT, hcell (i * 2 + 0) _ (ha 0 (by decide)), hcell _ _ (ha 1 (by decide))⟩

/-- items without an element -/
def wo (e : Nat) (l : List (Nat × List UInt8)) : List (Nat × List UInt8) := l.filter fun p => decide (p.1 ≠ e)

/-- where the loop of without stands -/
def WoRel (l : List (Nat × List UInt8)) (e : Nat) (w : World) (v5 v6 : Value) (wr : World) : Prop :=
  ∃ n : Nat, v6 = .int .i64 (n : Int) ∧ n ≤ l.length ∧ Rw w.heap.size 88 2 v5 (wo e (l.take n)).length (icells (wo e (l.take n))) wr ∧ Below w.heap.size w wr

theorem wo_len (e : Nat) (l : List (Nat × List UInt8)) : (wo e l).length ≤ l.length := List.length_filter_le _ _

theorem wo_snoc (e : Nat) (l : List (Nat × List UInt8)) (n : Nat) (p : Nat × List UInt8) (hp : l[n]? = some p) : wo e (l.take (n + 1)) = wo e (l.take n) ++ (if p.1 = e then [] else [p]) := by
  rw [List.take_add_one, hp]
  unfold wo
  rw [Option.toList_some, List.filter_append]
  congr 1
  by_cases h : p.1 = e <;> simp [h]

theorem fresh_row (u : World) (e : TypeId) (k : Nat) : Rw u.heap.size e k (.slice (some ⟨u.heap.size, 0, none⟩) 0 0) 0 [] (u.alloc (.cells #[] e)) :=
  ⟨by simp, Or.inr ⟨u.heap.size, 0, rfl, Nat.le_refl _, ⟨_, _, heap_alloc_new u _⟩, Nat.le_refl _, Nat.zero_le _, fun j x hj => by simp at hj, fun j hj => by omega⟩⟩

set_option maxHeartbeats 4000000 in
set_option maxRecDepth 100000 in
theorem without_any {w : World} {v : Value} {l : List (Nat × List UInt8)} (h : Its w v l) (e : Nat) (hl : l.length ≤ 4000000) :
    Calls Try.prog 45 #[v, .int .i64 (e : Int)] w fun r w' => ∃ v', r = .returned v' ∧ Rw w.heap.size 88 2 v' (wo e l).length (icells (wo e l)) w' ∧ Below w.heap.size w w' := by
  obtain ⟨av, cv, hv, -⟩ := h.slice
  have HI := Lib.hid h
  have HV := Lib.hid hv
  subst hv
  clear h
  go_enter Try.func45, Try.ntmps45
  go_wp2
  go_loopw [5, 6] (fun v5 v6 wr => WoRel l e w v5 v6 wr) (fun _ v _ => l.length - (RowKit.intOf v).toNat)
  case atStart => exact ⟨0, rfl, Nat.zero_le _, fresh_row w 88 2, At.below_alloc _⟩
  case round =>
    obtain ⟨n, rfl, hn, hr, hb⟩ := hrel
    by_cases hlt : n < l.length
    · have h1 : (n : Int) < (l.length : Int) := by omega
      obtain ⟨p, hp⟩ : ∃ p, l[n]? = some p := ⟨_, List.getElem?_eq_getElem hlt⟩
      obtain ⟨g, c, hv', -, hT, k0, k1⟩ := Its.item (w := wr) (l := l) (Rw.below HI.out hb) hp
      injection hv' with e1 _ e3
      subst e1 e3
      have hsn := wo_snoc e l n p hp
      have hsz : w.heap.size ≤ wr.heap.size := hb.size
      by_cases hpe : p.1 = e
      · rw [if_pos hpe, List.append_nil] at hsn
        have HS := Lib.hid hsn
        have HR := Lib.hid hr
        have HB := Lib.hid hb
        have hq : ((p.1 : Int) != (e : Int)) = false := by rw [hpe]; simp
        clear hsn hr hb hp hT hpe
        go_wp2
        go_roundw
        case rel => exact ⟨n + 1, by go_num, by omega, by rw [HS.out]; exact HR.out, HB.out⟩
        case measure => simp [RowKit.intOf]; omega
      · rw [if_neg hpe] at hsn
        have hq : ((p.1 : Int) != (e : Int)) = true := bne_iff_ne.2 (by omega)
        have hwl := wo_len e (l.take n)
        have htl : (l.take n).length ≤ n := by rw [List.length_take]; omega
        obtain ⟨v2, u2, hrun, h2, hb2, -⟩ := push_row row85 wr hr (ic p) rfl (fun x hx => by
          simp only [ic, List.mem_cons, List.not_mem_nil, or_false] at hx
          rcases hx with rfl | rfl <;> rfl) (by omega) (by decide) hsz
        have HS := Lib.hid hsn
        have H2 := Lib.hid h2
        have HB := Lib.hid (hb.trans hb2)
        have HR := Lib.hid hrun
        clear hsn hr hb hp hT hpe h2 hb2 hrun hwl htl
        go_wp2_with (at_builtin; refine Lib.wpList_append_run _ rfl (.tmp 21) (.tmp 26) 85 85 rfl _ _ rfl rfl v2 u2 HR.out ?_)
        go_roundw
        case rel =>
          refine ⟨n + 1, by go_num, by omega, ?_, HB.out⟩
          rw [HS.out, List.length_append, icells_append]
          have e9 : icells [p] = ic p := by simp [icells]
          rw [e9]
          exact H2.out
        case measure => simp [RowKit.intOf]; omega
    · obtain rfl : n = l.length := by omega
      have h1 : ¬ ((l.length : Int) < (l.length : Int)) := by omega
      rw [List.take_length] at hr
      have HR := Lib.hid hr
      have HB := Lib.hid hb
      clear hr hb
      go_wp2
      go_ret
      exact ⟨_, rfl, HR.out, HB.out⟩
end Go.Proofs.Ytpnjjpbgbdicoaa
