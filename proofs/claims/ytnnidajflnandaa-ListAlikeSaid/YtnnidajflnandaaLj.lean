/- The list behind pushes of names with attributes in turn. -/
import Derived.Test.YtnnidajflnandaaLk
namespace Go.Proofs.Ytnnidajflnandaa
open Go.RowKit Go.Lib
open At (Str cellsA cellsA_len Sl)

/-- the attributes of the j-th one -/
def sm (A : List At.At) (j : Nat) : List At.At := if j % 2 = 1 then [] else A
/-- what makes two alike -/
def kf (N : List Str) (A : List At.At) (x : Int) : Str × Nat := (N.getD (x.toNat - 1) [], if A = [] then 0 else (x.toNat - 1) % 2)

/-- k elements were made -/
def Em (N : List Str) (A : List At.At) (L : List QN) (k : Nat) : Prop := L.length = k + 1 ∧ ∀ j, j < k → ∃ n, L[j + 1]? = some n ∧ n.nm = N.getD j [] ∧ n.ats = sm A j

theorem Em.more {N : List Str} {A : List At.At} {L : List QN} {k : Nat} (h : Em N A L k) (n : QN) (h1 : n.nm = N.getD k []) (h2 : n.ats = sm A k) : Em N A (L ++ [n]) (k + 1) := by
  refine ⟨by simp [h.1], fun j hj => ?_⟩
  by_cases hk : j < k
  · obtain ⟨n', h3, h4⟩ := h.2 j hk
    exact ⟨n', by rw [List.getElem?_append_left (by have := h.1; omega)]; exact h3, h4⟩
  · obtain rfl : j = k := by omega
    exact ⟨n, by rw [List.getElem?_append_right (by have := h.1; omega), h.1, Nat.sub_self]; rfl, h1, h2⟩

theorem same_nil {A : List At.At} (h : A ≠ []) : At.same A [] = false ∧ At.same [] A = false := by
  have hl : A.length ≠ 0 := fun e => h (List.eq_nil_of_length_eq_zero e)
  unfold At.same
  constructor
  · rw [decide_eq_false (by simpa using h)]; rfl
  · rw [decide_eq_false (by simpa using Ne.symm hl)]; rfl

theorem same_sm {A : List At.At} (hA : At.same A A = true) (i j : Nat) : At.same (sm A i) (sm A j) = decide ((if A = [] then 0 else i % 2) = (if A = [] then 0 else j % 2)) := by
  by_cases hn : A = []
  · subst hn
    simp only [sm, ite_self, if_true, decide_true]
    exact hA
  · rw [if_neg hn, if_neg hn]
    obtain ⟨s1, s2⟩ := same_nil hn
    unfold sm
    rcases Nat.mod_two_eq_zero_or_one i with hi | hi <;> rcases Nat.mod_two_eq_zero_or_one j with hj | hj <;> rw [hi, hj] <;> simp [s1, s2, hA]
    rfl

theorem beq_str (s t : Str) : (s == t) = decide (s = t) := by
  by_cases h : s = t
  · subst h; simp
  · simp [h]

theorem Em.alk {N : List Str} {A : List At.At} {L : List QN} {k : Nat} (h : Em N A L k) (hA : At.same A A = true) (m : Nat) {x : Int} (h0 : 0 < x) (h1 : x ≤ (k : Int)) : alk L (N.getD m []) (sm A m) x = decide (kf N A x = kf N A ((m + 1 : Nat) : Int)) := by
  obtain ⟨j, rfl⟩ : ∃ j : Nat, x = ((j + 1 : Nat) : Int) := ⟨x.toNat - 1, by omega⟩
  obtain ⟨n, h2, h3, h4⟩ := h.2 j (by omega)
  rw [alk_at h2, h3, h4, same_sm hA, beq_str]
  unfold kf
  simp only [Int.toNat_natCast, Nat.add_sub_cancel, Prod.mk.injEq]
  rw [Bool.decide_and]

theorem psh_keep {N : List Str} {A : List At.At} {L : List QN} {k : Nat} (h : Em N A L (k + 1)) (hA : At.same A A = true) {E : List Int} (hE : E.reverse = keepF (kf N A) (fun _ => 0) (ids k)) (n : QN) (h1 : n.nm = N.getD k []) (h2 : n.ats = sm A k) :
    (psh L n E (k + 1)).reverse = keepF (kf N A) (fun _ => 0) (ids (k + 1)) := by
  have hm : ∀ x ∈ E.reverse, 0 < x ∧ x ≤ (k : Int) := fun x hx => ids_mem (keep_mem (by rw [← hE]; exact hx))
  have hbw : ∀ p ∈ bw E.reverse, 0 < p.2 ∧ p.2 ≤ (k : Int) := fun p hp => hm _ (List.mem_reverse.2 (List.mem_of_getElem? (bw_at rfl hp)))
  have hbb : bb E.reverse = bw E.reverse := all_bb fun p hp => by
    have := hbw p hp
    simp only [nm, bne_iff_ne, ne_eq]
    omega
  have hf : flt L n.nm n.ats (bb E.reverse) = (bw E.reverse).filter fun p => decide (kf N A p.2 = kf N A ((k + 1 : Nat) : Int)) := by
    rw [hbb, h1, h2]
    unfold flt
    refine List.filter_congr fun p hp => ?_
    have := hbw p hp
    exact h.alk hA k this.1 (by omega)
  have hlen := cnt_bw (kf N A) (kf N A ((k + 1 : Nat) : Int)) E.reverse
  have hc := keep_cnt (kf N A) (kf N A ((k + 1 : Nat) : Int)) (ids k) (fun _ => 0)
  rw [← hE] at hc
  have hc3 : cnt (kf N A) (kf N A ((k + 1 : Nat) : Int)) E.reverse ≤ 3 := hc
  have hcut : (cutA L n E).reverse = del (kf N A) (kf N A ((k + 1 : Nat) : Int)) 3 E.reverse := by
    unfold cutA
    rw [hf, hlen]
    by_cases h3 : 3 ≤ cnt (kf N A) (kf N A ((k + 1 : Nat) : Int)) E.reverse
    · rw [if_pos h3]
      obtain ⟨q, g1, g2, g3⟩ := del_last (key := kf N A) (a := kf N A ((k + 1 : Nat) : Int)) (R := E.reverse) (m := 2) (by omega)
      rw [List.reverse_reverse] at g3
      unfold fst
      rw [g1]
      simp only [Int.toNat_natCast]
      exact g3
    · rw [if_neg h3, del_few (by omega)]
  unfold psh
  rw [List.reverse_append, hcut, hE]
  have hk := keep_bump (kf N A) (kf N A ((k + 1 : Nat) : Int)) (ids k) (fun _ => 0)
  simp only [ids, keepF]
  rw [if_pos (by decide), hk]
  rfl
end Go.Proofs.Ytnnidajflnandaa
