/- Push, walked: an element more, and the first of three alike taken out. -/
import Derived.Test.YtnnidajflnandaaAl
import Derived.Test.YtnnidajflnandaaLm
namespace Go.Proofs.Ytnnidajflnandaa
open Go.RowKit Go.Lib
open At (Str cellsA cellsA_len Sl)

/-- what Push leaves ahead of the new one -/
def cutA (L : List QN) (n : QN) (E : List Int) : List Int :=
  if 3 ≤ (flt L n.nm n.ats (bb E.reverse)).length then E.eraseIdx (fst (flt L n.nm n.ats (bb E.reverse))).toNat else E
def psh (L : List QN) (n : QN) (E : List Int) (m : Nat) : List Int := cutA L n E ++ [(m : Int)]

theorem fst_at {L : List QN} {s : List UInt8} {t : List At.At} {E : List Int} (h : 0 < (flt L s t (bb E.reverse)).length) : ∃ p : Nat, fst (flt L s t (bb E.reverse)) = (p : Int) ∧ p < E.length := by
  obtain ⟨q, hq⟩ : ∃ q, (flt L s t (bb E.reverse)).getLast? = some q := by
    cases hl : (flt L s t (bb E.reverse)).getLast? with
    | none =>
      rw [List.getLast?_eq_none_iff] at hl
      rw [hl] at h
      simp at h
    | some q => exact ⟨q, rfl⟩
  refine ⟨q.1, by unfold fst; rw [hq], ?_⟩
  have hm : q ∈ flt L s t (bb E.reverse) := List.mem_of_getLast? hq
  have hb : q ∈ bb E.reverse := (List.mem_filter.1 hm).1
  exact (List.getElem?_eq_some_iff.1 (bb_mem hb).2.2).1

theorem ChL.trans {Ls : Nat} {v v1 v2 : Value} {w w1 w2 : World} (h : ChL Ls v v1 w w1) (k : ChL Ls v1 v2 w1 w2) : ChL Ls v v2 w w2 :=
  ⟨k.os.trans h.os, k.tape.trans h.tape, k.output.trans h.output, Nat.le_trans h.size k.size, fun g hg h1 h2 => (k.same g (Nat.lt_of_lt_of_le hg h.size) h1 (h.own g hg h2)).trans (h.same g hg h1 h2),
    fun g hg h2 => k.own g (Nat.lt_of_lt_of_le hg h.size) (h.own g hg h2)⟩

theorem push_end {B Ls R : Nat} {w : World} {E : List Int} {v : Value} (h : LR B w Ls R E v) (hl : E.length + 1 ≤ 8000000) (x : Int) :
    ∃ a' c' w2, (Builtin.append_ #[29, 29] 29 #[v, .slice (some ⟨w.heap.size, 0, none⟩) 1 1]).run Try.prog (w.alloc (.cells #[.int .i64 x] 3)) = .ok (.slice a' (E.length + 1) c') w2 ∧
      w2.cell? ⟨Ls, 1, none⟩ = some v ∧ w2.frozen? ⟨Ls, 1, none⟩ = false ∧ LR B (w2.setCell ⟨Ls, 1, none⟩ (.slice a' (E.length + 1) c')) Ls R (E ++ [x]) (.slice a' (E.length + 1) c') ∧ ChL Ls v (.slice a' (E.length + 1) c') w (w2.setCell ⟨Ls, 1, none⟩ (.slice a' (E.length + 1) c')) := by
  have hBw : B ≤ w.heap.size := Nat.le_trans h.hB (Nat.le_of_lt h.lt)
  obtain ⟨v', w2, hr, h1, hg, ho⟩ := push_int h.row x hl hBw
  obtain ⟨a', c', rfl, -⟩ := h1.slice
  rw [← ints_append] at h1
  obtain ⟨q1, q2, q3, q4⟩ := store_list (E' := E ++ [x]) h (by simpa using h1) ((World.grownBy_alloc w _ v.ownBlock).trans hg) (ho.elim Or.inl fun ho => Or.inr fun g hg => Nat.le_of_lt (ho g hg))
  exact ⟨a', c', w2, hr, q1, q2, q3, q4⟩

set_option maxRecDepth 100000 in
set_option maxHeartbeats 1000000 in
theorem push_any {A B Ls R cp : Nat} {w : World} {L : List QN} {vn : Value} {E : List Int} {v : Value} (ha : AR A w R L cp vn) (h : LR B w Ls R E v) (hok : Ok L E) (hl : E.length ≤ 1000000) (hal : ∀ n ∈ L, n.ats.length ≤ 1000000) (m : Nat) (n : QN) (hm : m ≠ 0) (hn : L[m]? = some n) :
    Calls Try.prog 14 #[.pointer (some ⟨Ls, 0, none⟩), .int .i64 (m : Int)] w fun e w' => e = .returned (.tuple #[]) ∧ ∃ v', LR B w' Ls R (psh L n E m) v' ∧ ChL Ls v v' w w' := by
  have cA := alike_any ha h hok hl hal m n hm hn
  obtain ⟨F, hF⟩ : ∃ F, flt L n.nm n.ats (bb E.reverse) = F := ⟨_, rfl⟩
  have hFl : F.length ≤ 1000000 := by
    rw [← hF]
    refine Nat.le_trans (flt_len _ _ _ _) (Nat.le_trans (List.takeWhile_prefix _).length_le ?_)
    rw [bw_len, List.length_reverse]
    exact hl
  have hpsh : psh L n E m = (if 3 ≤ F.length then E.eraseIdx (fst F).toNat else E) ++ [(m : Int)] := by unfold psh cutA; rw [hF]
  have hfa := fst_at (L := L) (s := n.nm) (t := n.ats) (E := E)
  rw [hF] at cA hfa
  rw [hpsh]
  clear hF hpsh
  by_cases h3 : 3 ≤ F.length
  · rw [if_pos h3]
    obtain ⟨p, hp, hpl⟩ := hfa (by omega)
    rw [hp] at cA ⊢
    rw [Int.toNat_natCast]
    have hge : ((F.length : Int)) ≥ 3 := by omega
    have HA := Lib.hid ha
    have HO := Lib.hid hok
    clear hfa hp ha hok
    go_enter Try.func14, Try.ntmps14
    go_wp2_with fail
    refine cA.mono ?_
    rintro e w1 ⟨rfl, hb1⟩
    have cT := takeOut_any (h.below hb1) (by omega) p hpl
    go_wp2_with fail
    refine cT.mono ?_
    rintro e w2 ⟨rfl, v2, h2, hc2⟩
    obtain ⟨a', c', w3, hr, q1, q2, q3, q4⟩ := push_end h2 (by have := List.length_eraseIdx_le E p; omega) (m : Int)
    obtain ⟨a2, c2, rfl, -⟩ := h2.row.slice
    have k1 := h2.c1
    have HR := Lib.hid hr
    have H3 := Lib.hid q3
    have H4 := Lib.hid (hc2.below hb1 |>.trans q4)
    clear hr q3 q4 h2 hc2 cA cT
    go_wp2_with (at_builtin; refine Lib.wpList_append_run _ rfl (.tmp 21) (.tmp 23) 29 29 rfl _ _ rfl rfl _ w3 HR.out ?_)
    go_end0
    exact ⟨rfl, _, H3.out, H4.out⟩
  · rw [if_neg h3]
    have hge : ¬ ((F.length : Int)) ≥ 3 := by omega
    have HA := Lib.hid ha
    have HO := Lib.hid hok
    clear hfa ha hok
    go_enter Try.func14, Try.ntmps14
    go_wp2_with fail
    refine cA.mono ?_
    rintro e w1 ⟨rfl, hb1⟩
    have h2 := h.below hb1
    obtain ⟨a', c', w3, hr, q1, q2, q3, q4⟩ := push_end h2 (by omega) (m : Int)
    obtain ⟨a2, c2, rfl, -⟩ := h2.row.slice
    have k1 := h2.c1
    have HR := Lib.hid hr
    have H3 := Lib.hid q3
    have H4 := Lib.hid (q4.below hb1)
    clear hr q3 q4 h2 cA
    go_wp2_with (at_builtin; refine Lib.wpList_append_run _ rfl (.tmp 21) (.tmp 23) 29 29 rfl _ _ rfl rfl _ w3 HR.out ?_)
    go_end0
    exact ⟨rfl, _, H3.out, H4.out⟩
end Go.Proofs.Ytnnidajflnandaa
