/- What putting nodes into an arena does to it: the mathematics of a step. -/
import Derived.Test.YtpnjjpbgbdicoaaMgC
import Derived.Test.YtpnjjpbgbdicoaaEl
namespace Go.Proofs.Ytpnjjpbgbdicoaa
open Go.RowKit Go.Lib
open At (Str cellsA cellsA_len Sl)

/-- bounds of an arena -/
structure Bd (K : Nat) (L : List QN) : Prop where
  len : L.length ≤ K
  inn : ∀ n ∈ L, n.inn.length ≤ K
  txs : ∀ n ∈ L, ∀ p ∈ n.inn, p.tx.length ≤ K

theorem Bd.mono {K K' : Nat} {L : List QN} (h : Bd K L) (hk : K ≤ K') : Bd K' L :=
  ⟨Nat.le_trans h.len hk, fun n hn => Nat.le_trans (h.inn n hn) hk, fun n hn p hp => Nat.le_trans (h.txs n hn p hp) hk⟩

/-- an arena behind another one, where k's parts alone have changed; they stand for dd, of elements behind lo -/
structure PutR (L L1 : List QN) (k lo : Nat) (n : QN) (dd : F) : Prop where
  kle : k ≤ lo
  par : Par L1
  nmd : Nmd (L1.map ab)
  keep : ∀ (j : Nat) (m : QN), j ≠ k → L[j]? = some m → ∃ m', L1[j]? = some m' ∧ ab m' = ab m
  at_ : ∃ n', L1[k]? = some n' ∧ n'.nm = n.nm ∧ n'.ats = n.ats ∧ n'.par = n.par ∧ TG (L1.map ab) lo (n'.inn.map abp) dd

theorem PutR.len {L L1 : List QN} {k lo : Nat} {n : QN} {dd : F} (h : PutR L L1 k lo n dd) : L.length ≤ L1.length := by
  rcases Nat.lt_or_ge L1.length L.length with hlt | hge
  · exfalso
    by_cases he : L.length - 1 = k
    · obtain ⟨n', hn', -⟩ := h.at_
      have := (List.getElem?_eq_some_iff.1 hn').1
      omega
    · obtain ⟨m', hm', -⟩ := h.keep (L.length - 1) _ he (List.getElem?_eq_getElem (by omega))
      have := (List.getElem?_eq_some_iff.1 hm').1
      omega
  · exact hge

theorem PutR.start {L : List QN} {k lo : Nat} {n : QN} {d : F} (hk : k ≤ lo) (hP : Par L) (hN : Nmd (L.map ab)) (hn : L[k]? = some n) (hT : TG (L.map ab) lo (n.inn.map abp) d) : PutR L L k lo n d :=
  ⟨hk, hP, hN, fun _ m _ hm => ⟨m, hm, rfl⟩, n, hn, rfl, rfl, rfl, hT⟩

theorem par_set {L : List QN} {k : Nat} {n n2 : QN} (h : Par L) (hn : L[k]? = some n) (hp : n2.par = n.par) : Par (L.set k n2) := by
  intro i m hm
  by_cases hik : i = k
  · subst hik
    rw [List.getElem?_set_self (List.getElem?_eq_some_iff.1 hn).1] at hm
    injection hm with hm
    subst hm
    rw [hp]
    exact h i n hn
  · rw [List.getElem?_set_ne (fun e => hik e.symm)] at hm
    exact h i m hm

theorem nmd_set {L : List QN} {k : Nat} {n n2 : QN} (h : Nmd (L.map ab)) (hn : L[k]? = some n) (hp : n2.nm = n.nm) : Nmd ((L.set k n2).map ab) := by
  intro i m hi hm
  rw [List.getElem?_map] at hm
  by_cases hik : i = k
  · subst hik
    rw [List.getElem?_set_self (List.getElem?_eq_some_iff.1 hn).1] at hm
    injection hm with hm
    subst hm
    show n2.nm ≠ []
    rw [hp]
    exact h i (ab n) hi (by rw [List.getElem?_map, hn]; rfl)
  · rw [List.getElem?_set_ne (fun e => hik e.symm), ← List.getElem?_map] at hm
    exact h i m hi hm

/-- a text behind k's parts -/
theorem PutR.text {L L1 : List QN} {k lo : Nat} {n n' : QN} {dd : F} (h : PutR L L1 k lo n dd) (hn' : L1[k]? = some n') (s : List UInt8) (inn : List QP) (vi : Value) (hi : inn.map abp = mtext (n'.inn.map abp) s) :
    PutR L (L1.set k { n' with inn := inn, vi := vi }) k lo n (dd.addT s) := by
  have hkl : k < L1.length := (List.getElem?_eq_some_iff.1 hn').1
  obtain ⟨n2, h2, e1, e2, e3, e4⟩ := h.at_
  rw [hn'] at h2
  injection h2 with h2
  subst h2
  have hkle := h.kle
  refine ⟨h.kle, par_set h.par hn' rfl, nmd_set h.nmd hn' rfl, fun j m hj hm => ?_, _, List.getElem?_set_self hkl, e1, e2, e3, ?_⟩
  · obtain ⟨m', hm', he⟩ := h.keep j m hj hm
    exact ⟨m', by rw [List.getElem?_set_ne (fun e => hj e.symm)]; exact hm', he⟩
  · show TG _ lo (inn.map abp) _
    rw [hi]
    refine TG.frame (fun j m hj hm => ?_) (TG.addT h.nmd s lo e4)
    rw [List.getElem?_map, List.getElem?_set_ne (by omega), ← List.getElem?_map]
    exact hm

/-- an element, empty yet, put into k -/
def withElem (L1 : List QN) (k : Nat) (n' : QN) (ne : QN) (vi : Value) : List QN :=
  ((L1 ++ [ne]).set L1.length { ne with par := (k : Int) }).set k { n' with inn := n'.inn ++ [⟨L1.length, [], .slice none 0 0⟩], vi := vi }

theorem withElem_old {L1 : List QN} {k : Nat} {n' ne : QN} {vi : Value} {j : Nat} (hj : j ≠ k) (hl : j < L1.length) : (withElem L1 k n' ne vi)[j]? = L1[j]? := by
  unfold withElem
  rw [List.getElem?_set_ne (fun e => hj e.symm), List.getElem?_set_ne (by omega), List.getElem?_append_left hl]
theorem withElem_k {L1 : List QN} {k : Nat} {n' ne : QN} {vi : Value} (hl : k < L1.length) : (withElem L1 k n' ne vi)[k]? = some { n' with inn := n'.inn ++ [⟨L1.length, [], .slice none 0 0⟩], vi := vi } := by
  unfold withElem
  rw [List.getElem?_set_self (by simp; omega)]
theorem withElem_new {L1 : List QN} {k : Nat} {n' ne : QN} {vi : Value} (hl : k < L1.length) : (withElem L1 k n' ne vi)[L1.length]? = some { ne with par := (k : Int) } := by
  unfold withElem
  rw [List.getElem?_set_ne (by omega), List.getElem?_set_self (by simp)]
theorem withElem_len {L1 : List QN} {k : Nat} {n' ne : QN} {vi : Value} : (withElem L1 k n' ne vi).length = L1.length + 1 := by
  unfold withElem
  simp

theorem withElem_par {L1 : List QN} {k : Nat} {n' ne : QN} {vi : Value} (h : Par L1) (hn' : L1[k]? = some n') : Par (withElem L1 k n' ne vi) := by
  have hkl : k < L1.length := (List.getElem?_eq_some_iff.1 hn').1
  intro i m hm
  by_cases hi : i < L1.length
  · by_cases hik : i = k
    · subst hik
      rw [withElem_k hkl] at hm
      injection hm with hm
      subst hm
      exact h i n' hn'
    · rw [withElem_old hik hi] at hm
      exact h i m hm
  · have hil : i < L1.length + 1 := by rw [← withElem_len (L1 := L1) (k := k) (n' := n') (ne := ne) (vi := vi)]; exact (List.getElem?_eq_some_iff.1 hm).1
    obtain rfl : i = L1.length := by omega
    rw [withElem_new hkl] at hm
    injection hm with hm
    subst hm
    exact Or.inr ⟨k, rfl, hkl⟩

theorem withElem_nmd {L1 : List QN} {k : Nat} {n' ne : QN} {vi : Value} (h : Nmd (L1.map ab)) (hn' : L1[k]? = some n') (hne : ne.nm ≠ []) : Nmd ((withElem L1 k n' ne vi).map ab) := by
  have hkl : k < L1.length := (List.getElem?_eq_some_iff.1 hn').1
  intro i m hi0 hm
  rw [List.getElem?_map] at hm
  by_cases hi : i < L1.length
  · by_cases hik : i = k
    · subst hik
      rw [withElem_k hkl] at hm
      injection hm with hm
      subst hm
      exact h i (ab n') hi0 (by rw [List.getElem?_map, hn']; rfl)
    · rw [withElem_old hik hi, ← List.getElem?_map] at hm
      exact h i m hi0 hm
  · have hil : i < L1.length + 1 := by
      rw [← withElem_len (L1 := L1) (k := k) (n' := n') (ne := ne) (vi := vi)]
      rcases Nat.lt_or_ge i (withElem L1 k n' ne vi).length with h' | h'
      · exact h'
      · rw [List.getElem?_eq_none h'] at hm; cases hm
    obtain rfl : i = L1.length := by omega
    rw [withElem_new hkl] at hm
    injection hm with hm
    subst hm
    exact hne

theorem withElem_bd {K : Nat} {L1 : List QN} {k : Nat} {n' ne : QN} {vi : Value} (h : Bd K L1) (hn' : L1[k]? = some n') (hne : ne.inn = []) : Bd (K + 1) (withElem L1 k n' ne vi) := by
  have hm' := mem_of_at hn'
  refine ⟨by rw [withElem_len]; have := h.len; omega, fun m hm => ?_, fun m hm p hp => ?_⟩
  · unfold withElem at hm
    rcases mem_set hm with hm | rfl
    · rcases mem_set hm with hm | rfl
      · rcases List.mem_append.1 hm with hm | hm
        · have := h.inn m hm; omega
        · simp only [List.mem_singleton] at hm
          subst hm
          rw [hne]
          exact Nat.zero_le _
      · show ne.inn.length ≤ _
        rw [hne]
        exact Nat.zero_le _
    · show (n'.inn ++ [_]).length ≤ _
      rw [List.length_append]
      have := h.inn n' hm'
      simp only [List.length_singleton]
      omega
  · unfold withElem at hm
    rcases mem_set hm with hm | rfl
    · rcases mem_set hm with hm | rfl
      · rcases List.mem_append.1 hm with hm | hm
        · have := h.txs m hm p hp; omega
        · simp only [List.mem_singleton] at hm
          subst hm
          rw [hne] at hp
          cases hp
      · have hp' : p ∈ ne.inn := hp
        rw [hne] at hp'
        cases hp'
    · rcases List.mem_append.1 (show p ∈ n'.inn ++ [_] from hp) with hp | hp
      · have := h.txs n' hm' p hp; omega
      · simp only [List.mem_singleton] at hp
        subst hp
        exact Nat.zero_le _

/-- what was put into the element stands in k with it -/
theorem PutR.elem {L L1 L3 : List QN} {k lo : Nat} {n n' ne : QN} {dd inn : F} {vi : Value} (h : PutR L L1 k lo n dd) (hlo : lo < L.length) (hn' : L1[k]? = some n') (h3 : PutR (withElem L1 k n' ne vi) L3 L1.length L1.length { ne with par := (k : Int) } inn) :
    PutR L L3 k lo n (dd.app (.cons ne.nm ne.ats [] inn .nil)) := by
  have hlen := h.len
  have hk1 : k < L1.length := (List.getElem?_eq_some_iff.1 hn').1
  have hkle := h.kle
  have hlo1 : lo < L1.length := by omega
  have hold : ∀ (j : Nat) (m : QN), j ≠ k → L1[j]? = some m → ∃ m', L3[j]? = some m' ∧ ab m' = ab m := by
    intro j m hj hm
    have hjl := (List.getElem?_eq_some_iff.1 hm).1
    exact h3.keep j m (by omega) (by rw [withElem_old hj hjl]; exact hm)
  obtain ⟨n2, h2, e1, e2, e3, e4⟩ := h.at_
  rw [hn'] at h2
  injection h2 with h2
  subst h2
  obtain ⟨nk, hk3, hke⟩ := h3.keep k _ (by omega) (withElem_k hk1)
  obtain ⟨ni, hi3, f1, f2, f3, f4⟩ := h3.at_
  refine ⟨h.kle, h3.par, h3.nmd, fun j m hj hm => ?_, nk, hk3, ?_, ?_, ?_, ?_⟩
  · obtain ⟨m', hm', he⟩ := h.keep j m hj hm
    obtain ⟨m'', hm'', he'⟩ := hold j m' hj hm'
    exact ⟨m'', hm'', he'.trans he⟩
  · exact (congrArg MN.nm hke).trans e1
  · exact (congrArg MN.ats hke).trans e2
  · exact (congrArg MN.par hke).trans e3
  · have hin : nk.inn.map abp = n'.inn.map abp ++ [(L1.length, [])] := by
      have := congrArg MN.inn hke
      rw [show (ab nk).inn = nk.inn.map abp from rfl] at this
      rw [this]
      show (n'.inn ++ [_]).map abp = _
      rw [List.map_append]
      rfl
    rw [hin]
    have := TG.snoc (M := L3.map ab) lo L1.length [] (ab ni) inn (TG.frame (fun j m hj hm => ?_) e4) hlo1 (by rw [List.getElem?_map, hi3]; rfl) f4
    · rw [show (ab ni).nm = ne.nm from f1, show (ab ni).ats = ne.ats from f2] at this
      exact this
    · rw [List.getElem?_map] at hm ⊢
      rcases hL : L1[j]? with _ | q
      · rw [hL] at hm; cases hm
      · rw [hL] at hm
        injection hm with hm
        subst hm
        obtain ⟨m', hm', he⟩ := hold j q (by omega) hL
        rw [hm']
        show some (ab m') = _
        rw [he]
end Go.Proofs.Ytpnjjpbgbdicoaa
