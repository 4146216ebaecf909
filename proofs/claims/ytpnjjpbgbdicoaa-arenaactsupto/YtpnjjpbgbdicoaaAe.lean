/- The two arenas side by side: what each act does to both is the same; how much there can be. -/
import Derived.Test.YtpnjjpbgbdicoaaWg
import Derived.Test.YtpnjjpbgbdicoaaRh
import Derived.Test.YtpnjjpbgbdicoaaRd
import Derived.Test.YtpnjjpbgbdicoaaFa
import Derived.Test.YtpnjjpbgbdicoaaRn
namespace Go.Proofs.Ytpnjjpbgbdicoaa
open Go.RowKit Go.Lib

theorem ab_at {L : List QN} {i : Nat} {n : QN} (h : L[i]? = some n) : (L.map ab)[i]? = some (ab n) := by rw [List.getElem?_map, h]; rfl
theorem of_ab {L : List QN} {i : Nat} {m : MN} (h : (L.map ab)[i]? = some m) : ∃ n, L[i]? = some n ∧ ab n = m := by
  rw [List.getElem?_map] at h
  rcases hL : L[i]? with _ | n
  · rw [hL] at h; cases h
  · rw [hL] at h
    injection h with h
    exact ⟨n, rfl, h⟩

/-- how many parts there are in all -/
def parts (M : List MN) : Nat := (M.map fun n => n.inn.length).sum
theorem tot_set : ∀ {M : List MN} {k : Nat} {n : MN} (n' : MN), M[k]? = some n → parts (M.set k n') + n.inn.length = parts M + n'.inn.length
  | [], _, _, _, h => by simp at h
  | a :: M, 0, n, n', h => by
    simp only [List.getElem?_cons_zero, Option.some.injEq] at h
    subst h
    simp only [List.set_cons_zero, parts, List.map_cons, List.sum_cons]
    omega
  | a :: M, k + 1, n, n', h => by
    simp only [List.getElem?_cons_succ] at h
    have ih := tot_set n' h
    simp only [List.set_cons_succ, parts, List.map_cons, List.sum_cons] at ih ⊢
    omega
theorem tot_ge {M : List MN} {k : Nat} {n : MN} (h : M[k]? = some n) : n.inn.length ≤ parts M := by
  have := tot_set { n with inn := [] } h
  simp only [List.length_nil] at this
  omega
theorem tot_append (M : List MN) (n : MN) : parts (M ++ [n]) = parts M + n.inn.length := by simp [parts]
theorem tot_two {M : List MN} {k i : Nat} {nk ni : MN} (hk : M[k]? = some nk) (hi : M[i]? = some ni) (hki : k ≠ i) : nk.inn.length + ni.inn.length ≤ parts M := by
  have h1 := tot_set { ni with inn := [] } hi
  have h2 := tot_ge (M := M.set i { ni with inn := [] }) (k := k) (n := nk) (by rw [List.getElem?_set_ne (fun e => hki e.symm)]; exact hk)
  simp only [List.length_nil] at h1
  omega
theorem repM_tot (k : Nat) (l : List (Nat × List UInt8)) (M : List MN) : parts (repM k l M) = parts M := by
  unfold parts
  congr 1
  refine List.ext_getElem? fun j => ?_
  rw [List.getElem?_map, List.getElem?_map]
  rcases hM : M[j]? with _ | n
  · have : (repM k l M)[j]? = none := by rw [List.getElem?_eq_none_iff, repM_len]; exact List.getElem?_eq_none_iff.1 hM
    rw [this]
  · rw [repM_at k l hM]
    split <;> rfl

/-- how much there can be behind so many acts -/
structure Bq (s X : Nat) (M : List MN) : Prop where
  len : M.length ≤ s + 1
  tot : parts M ≤ s
  ats : ∀ n ∈ M, n.ats.length ≤ 10
  txs : ∀ n ∈ M, ∀ p ∈ n.inn, p.2.length ≤ X

theorem Bq.mono {s X s' X' : Nat} {M : List MN} (h : Bq s X M) (hs : s ≤ s') (hX : X ≤ X') : Bq s' X' M :=
  ⟨Nat.le_trans h.len (by omega), Nat.le_trans h.tot hs, h.ats, fun n hn p hp => Nat.le_trans (h.txs n hn p hp) hX⟩
theorem bq_new : Bq 0 0 M0 := by
  refine ⟨Nat.le_refl _, Nat.le_refl _, fun n hn => ?_, fun n hn p hp => ?_⟩
  · simp only [M0, List.mem_singleton] at hn; subst hn; exact Nat.zero_le _
  · simp only [M0, List.mem_singleton] at hn; subst hn; cases hp
theorem Bq.elem {s X : Nat} {M : List MN} (h : Bq s X M) (nm : List UInt8) (ats : List At.At) (ha : ats.length ≤ 10) : Bq (s + 1) X (M ++ [⟨nm, ats, -1, []⟩]) := by
  refine ⟨by rw [List.length_append, List.length_singleton]; have := h.len; omega, by rw [tot_append]; have := h.tot; simp only [List.length_nil]; omega, fun n hn => ?_, fun n hn p hp => ?_⟩
  · rcases List.mem_append.1 hn with hn | hn
    · exact h.ats n hn
    · simp only [List.mem_singleton] at hn; subst hn; exact ha
  · rcases List.mem_append.1 hn with hn | hn
    · exact h.txs n hn p hp
    · simp only [List.mem_singleton] at hn; subst hn; cases hp
theorem Bq.set {s X s' X' : Nat} {M : List MN} (h : Bq s X M) {k : Nat} {n n' : MN} (hk : M[k]? = some n) (hs : s ≤ s') (ht : parts M + n'.inn.length ≤ s' + n.inn.length) (ha : n'.ats = n.ats) (hX : X ≤ X') (hp : ∀ p ∈ n'.inn, p.2.length ≤ X') : Bq s' X' (M.set k n') := by
  refine ⟨by rw [List.length_set]; have := h.len; omega, by have := tot_set n' hk; omega, fun m hm => ?_, fun m hm p hpm => ?_⟩
  · rcases mem_set hm with hm | rfl
    · exact h.ats m hm
    · rw [ha]; exact h.ats n (mem_of_at hk)
  · rcases mem_set hm with hm | rfl
    · exact Nat.le_trans (h.txs m hm p hpm) hX
    · exact hp p hpm
theorem Bq.text {s X : Nat} {M : List MN} (h : Bq s X M) {k : Nat} {n : MN} (hk : M[k]? = some n) (t : List UInt8) : Bq (s + 1) (X + t.length) (M.set k { n with inn := mtext n.inn t }) :=
  h.set hk (Nat.le_succ _) (by have := mtext_len n.inn t; have := h.tot; show parts M + (mtext n.inn t).length ≤ _; omega) rfl (by omega) (mtext_txs n.inn t X (h.txs n (mem_of_at hk)))
theorem Bq.out {s X : Nat} {M : List MN} (h : Bq s X M) {p : Nat} {np : MN} (hp : M[p]? = some np) (i : Nat) : Bq s X (M.set p { np with inn := wo i np.inn }) :=
  h.set hp (Nat.le_refl _) (by have := wo_len i np.inn; have := h.tot; show parts M + (wo i np.inn).length ≤ _; omega) rfl (Nat.le_refl _) (fun x hx => h.txs np (mem_of_at hp) x (elx_wo.1 hx).1)
theorem Bq.par {s X : Nat} {M : List MN} (h : Bq s X M) {i : Nat} {ni : MN} (hi : M[i]? = some ni) (p : Int) : Bq s X (M.set i { ni with par := p }) :=
  h.set hi (Nat.le_refl _) (by have := h.tot; show parts M + ni.inn.length ≤ _; omega) rfl (Nat.le_refl _) (h.txs ni (mem_of_at hi))
theorem Bq.push {s X : Nat} {M : List MN} (h : Bq s X M) {k : Nat} {nk : MN} (hk : M[k]? = some nk) (i : Nat) : Bq (s + 1) X (M.set k { nk with inn := nk.inn ++ [(i, [])] }) :=
  h.set hk (Nat.le_succ _) (by have := h.tot; show parts M + (nk.inn ++ [_]).length ≤ _; rw [List.length_append, List.length_singleton]; omega) rfl (Nat.le_refl _) (fun x hx => by
    rcases List.mem_append.1 hx with hx | hx
    · exact h.txs nk (mem_of_at hk) x hx
    · simp only [List.mem_singleton] at hx; subst hx; exact Nat.zero_le _)
theorem Bq.rep {s X : Nat} {M : List MN} (h : Bq s X M) (k : Nat) (l : List (Nat × List UInt8)) : Bq s X (repM k l M) := by
  have hm : ∀ n ∈ repM k l M, ∃ m ∈ M, n.ats = m.ats ∧ n.inn = m.inn := by
    intro n hn
    obtain ⟨j, hj⟩ := List.mem_iff_getElem?.1 hn
    have hjl : j < M.length := by have := (List.getElem?_eq_some_iff.1 hj).1; rw [repM_len] at this; exact this
    rw [repM_at k l (List.getElem?_eq_getElem hjl)] at hj
    injection hj with hj
    subst hj
    refine ⟨_, List.getElem_mem hjl, ?_⟩
    split <;> exact ⟨rfl, rfl⟩
  refine ⟨by rw [repM_len]; exact h.len, by rw [repM_tot]; exact h.tot, fun n hn => ?_, fun n hn p hp => ?_⟩
  · obtain ⟨m, hm, e, -⟩ := hm n hn
    rw [e]; exact h.ats m hm
  · obtain ⟨m, hm, -, e⟩ := hm n hn
    rw [e] at hp
    exact h.txs m hm p hp
theorem Bq.move {s X : Nat} {M : List MN} (h : Bq s X M) {k i : Nat} {nk ni : MN} (hk : M[k]? = some nk) (hi : M[i]? = some ni) (hki : k ≠ i) :
    Bq s X (repM k ni.inn ((M.set i { ni with inn := [] }).set k { nk with inn := nk.inn ++ ni.inn })) := by
  refine Bq.rep ?_ _ _
  have hk' : (M.set i { ni with inn := [] })[k]? = some nk := by rw [List.getElem?_set_ne (fun e => hki e.symm)]; exact hk
  have h1 : Bq s X (M.set i { ni with inn := [] }) := h.set hi (Nat.le_refl _) (by have := h.tot; show parts M + 0 ≤ _; omega) rfl (Nat.le_refl _) (fun x hx => by cases hx)
  have ht := tot_set { ni with inn := [] } hi
  simp only [List.length_nil] at ht
  refine h1.set hk' (Nat.le_refl _) (by have := h.tot; show parts _ + (nk.inn ++ ni.inn).length ≤ _; rw [List.length_append]; omega) rfl (Nat.le_refl _) (fun x hx => ?_)
  rcases List.mem_append.1 hx with hx | hx
  · exact h.txs nk (mem_of_at hk) x hx
  · exact h.txs ni (mem_of_at hi) x hx

/-- Move's result, both ways -/
theorem map_move {L : List QN} {k i : Nat} {nk ni ni2 nk2 : QN} {v' : Value} (hk : L[k]? = some nk) (hi : L[i]? = some ni) (hki : k ≠ i) (h2 : (rep k ni.inn L)[i]? = some ni2) (h3 : (rep k ni.inn L)[k]? = some nk2) :
    (((rep k ni.inn L).set i { ni2 with inn := [], vi := .slice none 0 0 }).set k { nk2 with inn := nk.inn ++ ni.inn, vi := v' }).map ab = repM k (ab ni).inn (((L.map ab).set i { ab ni with inn := [] }).set k { ab nk with inn := (ab nk).inn ++ (ab ni).inn }) := by
  have hkl := (List.getElem?_eq_some_iff.1 hk).1
  have hil := (List.getElem?_eq_some_iff.1 hi).1
  have hmem : ∀ j, j ∈ (ab ni).inn.map Prod.fst ↔ j ∈ ni.inn.map QP.el := by
    intro j
    show j ∈ (ni.inn.map abp).map Prod.fst ↔ _
    rw [List.map_map]
    rfl
  rw [rep_at k ni.inn hi] at h2
  rw [rep_at k ni.inn hk] at h3
  injection h2 with h2
  injection h3 with h3
  refine List.ext_getElem? fun j => ?_
  by_cases hjl : j < L.length
  · by_cases hjk : j = k
    · subst hjk
      rw [List.getElem?_map, List.getElem?_set_self (by rw [List.length_set, rep_len]; exact hkl)]
      have e : (((L.map ab).set i { ab ni with inn := [] }).set j { ab nk with inn := (ab nk).inn ++ (ab ni).inn })[j]? = some { ab nk with inn := (ab nk).inn ++ (ab ni).inn } := by rw [List.getElem?_set_self (by simp; exact hkl)]
      rw [repM_at _ _ e]
      simp only [hmem]
      subst h3
      by_cases hc : j ≠ 0 ∧ j ∈ ni.inn.map QP.el
      · rw [if_pos hc, if_pos hc]
        show some (MN.mk _ _ _ _) = _
        rw [List.map_append]
        rfl
      · rw [if_neg hc, if_neg hc]
        show some (MN.mk _ _ _ _) = _
        rw [List.map_append]
        rfl
    · rw [List.getElem?_map, List.getElem?_set_ne (fun e => hjk e.symm)]
      by_cases hji : j = i
      · subst hji
        rw [List.getElem?_set_self (by rw [rep_len]; exact hil)]
        have e : (((L.map ab).set j { ab ni with inn := [] }).set k { ab nk with inn := (ab nk).inn ++ (ab ni).inn })[j]? = some { ab ni with inn := [] } := by rw [List.getElem?_set_ne (fun e => hjk e.symm), List.getElem?_set_self (by simp; exact hil)]
        rw [repM_at _ _ e]
        simp only [hmem]
        subst h2
        by_cases hc : j ≠ 0 ∧ j ∈ ni.inn.map QP.el
        · rw [if_pos hc, if_pos hc]; rfl
        · rw [if_neg hc, if_neg hc]; rfl
      · rw [List.getElem?_set_ne (fun e => hji e.symm), rep_at k ni.inn (List.getElem?_eq_getElem hjl)]
        have e : (((L.map ab).set i { ab ni with inn := [] }).set k { ab nk with inn := (ab nk).inn ++ (ab ni).inn })[j]? = some (ab L[j]) := by
          rw [List.getElem?_set_ne (fun e => hjk e.symm), List.getElem?_set_ne (fun e => hji e.symm)]
          exact ab_at (List.getElem?_eq_getElem hjl)
        rw [repM_at _ _ e]
        simp only [hmem]
        by_cases hc : j ≠ 0 ∧ j ∈ ni.inn.map QP.el
        · rw [if_pos hc, if_pos hc]; rfl
        · rw [if_neg hc, if_neg hc]; rfl
  · rw [List.getElem?_eq_none (by simp [rep_len]; omega), List.getElem?_eq_none (by rw [repM_len]; simp; omega)]

/-- an element taken out, where it stands once -/
theorem erase_wo {l : List QP} {j : Nat} {q : QP} (hj : l[j]? = some q) (hq : q.el ≠ 0) (hone : (elx (l.map abp)).Pairwise fun p q => p.1 ≠ q.1) :
    (l.eraseIdx j).map abp = wo q.el (l.map abp) ∧ ∀ k x, j < k → l[k]? = some x → x.el ≠ q.el := by
  induction l generalizing j with
  | nil => simp at hj
  | cons a l ih =>
    cases j with
    | zero =>
      simp only [List.getElem?_cons_zero, Option.some.injEq] at hj
      subst hj
      have hone' : ((abp a) :: elx (l.map abp)).Pairwise fun p q => p.1 ≠ q.1 := by
        have : elx ((a :: l).map abp) = abp a :: elx (l.map abp) := by
          rw [List.map_cons]
          exact List.filter_cons_of_pos (decide_eq_true hq)
        rw [this] at hone
        exact hone
      have h1 := (List.pairwise_cons.1 hone').1
      have hall : ∀ x ∈ l, x.el ≠ a.el := by
        intro x hx e
        exact h1 (abp x) (mem_elx.2 ⟨List.mem_map.2 ⟨x, hx, rfl⟩, by show x.el ≠ 0; rw [e]; exact hq⟩) e.symm
      refine ⟨?_, fun k x hk hx => ?_⟩
      · rw [List.eraseIdx_cons_zero, List.map_cons]
        unfold wo
        rw [List.filter_cons_of_neg (by simp [abp])]
        refine (List.filter_eq_self.2 fun p hp => ?_).symm
        obtain ⟨x, hx, rfl⟩ := List.mem_map.1 hp
        exact decide_eq_true (hall x hx)
      · obtain ⟨k', rfl⟩ : ∃ k', k = k' + 1 := ⟨k - 1, by omega⟩
        rw [List.getElem?_cons_succ] at hx
        exact hall x (mem_of_at hx)
    | succ j =>
      simp only [List.getElem?_cons_succ] at hj
      have hone' : (elx (l.map abp)).Pairwise fun p q => p.1 ≠ q.1 := by
        rw [List.map_cons] at hone
        exact List.Pairwise.sublist ((List.sublist_cons_self _ _).filter _) hone
      obtain ⟨h1, h2⟩ := ih hj hone'
      have hne : a.el ≠ q.el := by
        intro e
        have : elx ((a :: l).map abp) = abp a :: elx (l.map abp) := by
          rw [List.map_cons]
          exact List.filter_cons_of_pos (by show decide (a.el ≠ 0) = true; rw [e]; simpa using hq)
        rw [this] at hone
        exact (List.pairwise_cons.1 hone).1 (abp q) (mem_elx.2 ⟨List.mem_map.2 ⟨q, mem_of_at hj, rfl⟩, hq⟩) e
      refine ⟨?_, fun k x hk hx => ?_⟩
      · rw [List.eraseIdx_cons_succ, List.map_cons, List.map_cons, h1]
        unfold wo
        exact (List.filter_cons_of_pos (p := fun p : Nat × List UInt8 => decide (p.1 ≠ q.el)) (a := abp a) (decide_eq_true hne)).symm
      · obtain ⟨k', rfl⟩ : ∃ k', k = k' + 1 := ⟨k - 1, by omega⟩
        rw [List.getElem?_cons_succ] at hx
        exact h2 k' x (by omega) hx
end Go.Proofs.Ytpnjjpbgbdicoaa

/- An act in both arenas: Append, Move, Text, a new element, a copy: what both do is the same. -/
namespace Go.Proofs.Ytpnjjpbgbdicoaa
open Go.RowKit Go.Lib

theorem num_keep {M M' : List MN} {i : Nat} (h : ∀ (j : Nat) (n : MN), j ≠ i → M[j]? = some n → ∃ n', M'[j]? = some n' ∧ n'.par = n.par) : ∀ {q : Nat} {x : Int}, NUM M i q x → NUM M' i q x
  | 0, _, hu => hu
  | q + 1, x, hu => by
    obtain ⟨j, n, h1, h2, h3, h4⟩ := hu
    obtain ⟨n', e1, e2⟩ := h j n h2 h3
    exact ⟨j, n', h1, h2, e1, by rw [e2]; exact num_keep h h4⟩

/-- no list is too long -/
theorem Bq.inn {s X : Nat} {L : List QN} (h : Bq s X (L.map ab)) (hs : s ≤ 1000) : ∀ n ∈ L, n.inn.length ≤ 1000 := by
  intro n hn
  obtain ⟨j, hj⟩ := List.mem_iff_getElem?.1 hn
  have h1 := tot_ge (M := L.map ab) (ab_at hj)
  have h2 := h.tot
  have e : (ab n).inn.length = n.inn.length := List.length_map ..
  omega

/-- what an act of the program's arena answers -/
def PPost (B R : Nat) (cp : Nat) (M' : List MN) (w : World) (e : Ending) (w' : World) : Prop :=
  e = .returned (.tuple #[]) ∧ ∃ L' vn', AR B w' R L' cp vn' ∧ L'.map ab = M' ∧ Chg B w w'

theorem append_two {s X : Nat} {L : List QN} (hW : WF (L.map ab)) (hb : Bq s X (L.map ab)) (hs : s ≤ 1000) {i k q : Nat} (hi0 : i ≠ 0) (hil : i < L.length) (hkl : k < L.length) (hnu : NUM (L.map ab) i q (k : Int)) :
    ∃ M', WF M' ∧ Bq (s + 1) X M' ∧ M'.length = L.length ∧
      (∀ (b0 : Nat) (w : World) (v0 v1 v2 v3 : Value) (cp : Nat), RA b0 w v0 v1 v2 v3 (L.map ab) → b0 ≤ w.heap.size → Calls Try.prog 18 #[rv v0 v1 v2 v3 cp, .int .i64 (k : Int), .int .i64 (i : Int)] w (RPost b0 cp M' w)) ∧
      (∀ (B : Nat) (w : World) (R cp : Nat) (vn : Value), AR B w R L cp vn → Calls Try.prog 19 #[.pointer (some ⟨R, 0, none⟩), .int .i64 (k : Int), .int .i64 (i : Int)] w (PPost B R cp M' w)) := by
  obtain ⟨ni, hi⟩ : ∃ n, L[i]? = some n := ⟨_, List.getElem?_eq_getElem hil⟩
  obtain ⟨nk, hk⟩ : ∃ n, L[k]? = some n := ⟨_, List.getElem?_eq_getElem hkl⟩
  have hki : k ≠ i := by rintro rfl; exact num_self hnu
  have hin := hb.inn hs
  have hlen : (L.map ab).length = L.length := List.length_map ..
  have hll := hb.len
  have hno : ∀ n ∈ L, n.inn.length + 1 ≤ 8000000 := fun n hn => by have := hin n hn; omega
  have eln : ∀ n : QN, (ab n).inn.length = n.inn.length := fun n => List.length_map ..
  obtain ⟨m, hm⟩ := hW.up i (by rw [hlen]; exact hil)
  cases m with
  | zero => have : (i : Int) = -1 := hm; omega
  | succ m =>
    obtain ⟨j, n, h1, h2, h3⟩ := hm
    have hji : j = i := by omega
    subst hji
    rw [ab_at hi] at h2
    injection h2 with h2
    subst h2
    cases m with
    | zero =>
      have hpar : ni.par = -1 := h3
      refine ⟨_, hW.put (ab_at hk) (ab_at hi) hpar hi0 hnu, (hb.par (ab_at hi) _).push (k := k) (nk := ab nk) (by rw [List.getElem?_set_ne (fun e => hki e.symm)]; exact ab_at hk) j, by rw [List.length_set, List.length_set, hlen], fun b0 w v0 v1 v2 v3 cp hr hb0 => ?_, fun B w R cp vn hr => ?_⟩
      · exact rappend_none hr hb0 cp k j (ab nk) (ab ni) (ab_at hk) (ab_at hi) hki hpar (by omega) (by rw [eln]; have := hin nk (mem_of_at hk); omega)
      · refine (append_fresh hr k j hi0 nk ni hk hi hpar q (nu_of_num hnu) hno).mono ?_
        rintro e w' ⟨rfl, vi, a1, a2⟩
        refine ⟨rfl, _, _, a1, ?_, a2⟩
        rw [List.map_set, List.map_set]
        congr 1
        show MN.mk _ _ _ _ = MN.mk _ _ _ _
        rw [List.map_append]
        rfl
    | succ m =>
      obtain ⟨p, np0, e1, e2, -⟩ := h3
      have hpar : ni.par = (p : Int) := e1
      obtain ⟨np, hp, rfl⟩ := of_ab e2
      obtain ⟨hip, hWo⟩ := hW.out (ab_at hi) hpar (ab_at hp)
      obtain ⟨np1, hp1, x, hx, hxi⟩ := hW.mem j (ab ni) p (ab_at hi) hpar
      rw [ab_at hp] at hp1
      injection hp1 with hp1
      subst hp1
      obtain ⟨y, hy, hyx⟩ := List.mem_map.1 (show x ∈ np.inn.map abp from hx)
      obtain ⟨t, ht⟩ := List.mem_iff_getElem?.1 hy
      have hye : y.el = j := by rw [← hxi, ← hyx]; rfl
      obtain ⟨w1, w2⟩ := erase_wo ht (by rw [hye]; exact hi0) (hW.one p (ab np) (ab_at hp))
      rw [hye] at w1 w2
      have hpl := (List.getElem?_eq_some_iff.1 hp).1
      have g1 : ((L.map ab).set p { ab np with inn := wo j (ab np).inn })[j]? = some (ab ni) := by rw [List.getElem?_set_ne (fun e => hip e.symm)]; exact ab_at hi
      obtain ⟨nk1, hk1⟩ : ∃ n, ((L.map ab).set p { ab np with inn := wo j (ab np).inn })[k]? = some n := ⟨_, List.getElem?_eq_getElem (by rw [List.length_set, hlen]; exact hkl)⟩
      have hk2 : (((L.map ab).set p { ab np with inn := wo j (ab np).inn }).set j { ab ni with par := -1 })[k]? = some nk1 := by rw [List.getElem?_set_ne (fun e => hki e.symm)]; exact hk1
      have hi2 : (((L.map ab).set p { ab np with inn := wo j (ab np).inn }).set j { ab ni with par := -1 })[j]? = some { ab ni with par := -1 } := by rw [List.getElem?_set_self (by rw [List.length_set, hlen]; exact hil)]
      have hnu2 : NUM (((L.map ab).set p { ab np with inn := wo j (ab np).inn }).set j { ab ni with par := -1 }) j q (k : Int) := num_keep (fun a n ha hn => by
        rw [List.getElem?_set_ne (fun e => ha e.symm)]
        by_cases hap : a = p
        · subst hap
          rw [ab_at hp] at hn
          injection hn with hn
          subst hn
          exact ⟨_, List.getElem?_set_self (by rw [hlen]; exact hpl), rfl⟩
        · exact ⟨n, by rw [List.getElem?_set_ne (fun e => hap e.symm)]; exact hn, rfl⟩) hnu
      have hbo := (hb.out (ab_at hp) j).par g1 (-1)
      have eset : (((L.map ab).set p { ab np with inn := wo j (ab np).inn }).set j { ab ni with par := -1 }).set j { ab ni with par := (k : Int) } = ((L.map ab).set p { ab np with inn := wo j (ab np).inn }).set j { ab ni with par := (k : Int) } := List.set_set ..
      have hnl : nk1.inn.length + 1 ≤ 4000000 := by
        exact Nat.le_trans (Nat.add_le_add_right (Nat.le_trans (tot_ge hk1) (hb.out (ab_at hp) j).tot) 1) (by omega)
      refine ⟨((((L.map ab).set p { ab np with inn := wo j (ab np).inn }).set j { ab ni with par := -1 }).set j { { ab ni with par := -1 } with par := (k : Int) }).set k { nk1 with inn := nk1.inn ++ [(j, [])] }, hWo.put hk2 hi2 rfl hi0 hnu2, (hbo.par hi2 _).push (k := k) (nk := nk1) (by rw [List.getElem?_set_ne (fun e => hki e.symm)]; exact hk2) j, by simp, fun b0 w v0 v1 v2 v3 cp hr hb0 => ?_, fun B w R cp vn hr => ?_⟩
      · have := rappend_some hr hb0 cp k j p (ab nk) nk1 (ab ni) (ab ni) (ab np) (ab_at hk) (ab_at hi) hki hpar (ab_at hp) hk1 g1 (by omega) hnl (by rw [eln]; have := hin np (mem_of_at hp); omega)
        rw [← eset] at this
        exact this
      · refine (append_moved hr k j p t hi0 hkl ni np y hi hpar hp (fun e => hip e.symm) ht hye w2 q (nu_of_num hnu) hno).mono ?_
        rintro e w' ⟨rfl, L1, ni', nk', vi, ⟨vp, rfl⟩, c1, c2, c3, c4⟩
        refine ⟨rfl, _, _, c3, ?_, c4⟩
        have em : ((L.set p { np with inn := np.inn.eraseIdx t, vi := vp }).set j { ni with par := -1 }).map ab = ((L.map ab).set p { ab np with inn := wo j (ab np).inn }).set j { ab ni with par := -1 } := by
          rw [List.map_set, List.map_set]
          congr 2
          show MN.mk _ _ _ _ = MN.mk _ _ _ _
          rw [w1]
          rfl
        have d1 := ab_at c1
        have d2 := ab_at c2
        rw [em] at d1 d2
        rw [hi2] at d1
        rw [hk2] at d2
        injection d1 with d1
        injection d2 with d2
        rw [List.map_set, List.map_set, em]
        have f1 : ab { ni' with par := (k : Int) } = { { ab ni with par := -1 } with par := (k : Int) } := by
          rw [d1]
          rfl
        have f2 : ab { nk' with inn := nk'.inn ++ [⟨j, [], .slice none 0 0⟩], vi := vi } = { nk1 with inn := nk1.inn ++ [(j, [])] } := by
          rw [d2]
          show MN.mk _ _ _ _ = MN.mk _ _ _ _
          rw [List.map_append]
          rfl
        rw [f1, f2]

theorem move_two {s X : Nat} {L : List QN} (hW : WF (L.map ab)) (hb : Bq s X (L.map ab)) (hs : s ≤ 1000) {i k q : Nat} (hil : i < L.length) (hkl : k < L.length) (hnu : NUM (L.map ab) i q (k : Int)) :
    ∃ M', WF M' ∧ Bq s X M' ∧ M'.length = L.length ∧
      (∀ (b0 : Nat) (w : World) (v0 v1 v2 v3 : Value) (cp : Nat), RA b0 w v0 v1 v2 v3 (L.map ab) → b0 ≤ w.heap.size → Calls Try.prog 22 #[rv v0 v1 v2 v3 cp, .int .i64 (i : Int), .int .i64 (k : Int)] w (RPost b0 cp M' w)) ∧
      (∀ (B : Nat) (w : World) (R cp : Nat) (vn : Value), AR B w R L cp vn → Calls Try.prog 23 #[.pointer (some ⟨R, 0, none⟩), .int .i64 (i : Int), .int .i64 (k : Int)] w (PPost B R cp M' w)) := by
  obtain ⟨ni, hi⟩ : ∃ n, L[i]? = some n := ⟨_, List.getElem?_eq_getElem hil⟩
  obtain ⟨nk, hk⟩ : ∃ n, L[k]? = some n := ⟨_, List.getElem?_eq_getElem hkl⟩
  obtain ⟨hki, hWm⟩ := hW.move (ab_at hk) (ab_at hi) hnu
  have hin := hb.inn hs
  have hlen : (L.map ab).length = L.length := List.length_map ..
  have hll := hb.len
  have eln : ∀ n : QN, (ab n).inn.length = n.inn.length := fun n => List.length_map ..
  have hni := hin ni (mem_of_at hi)
  have hnk := hin nk (mem_of_at hk)
  have hel : ∀ p ∈ (ab ni).inn, p.1 < (L.map ab).length := by
    intro p hp
    by_cases h0 : p.1 = 0
    · rw [h0, hlen]; omega
    · obtain ⟨-, c, hc, -⟩ := hW.els i (ab ni) (ab_at hi) p hp h0
      exact (List.getElem?_eq_some_iff.1 hc).1
  refine ⟨_, hWm, hb.move (ab_at hk) (ab_at hi) hki, by rw [repM_len, List.length_set, List.length_set, hlen], fun b0 w v0 v1 v2 v3 cp hr hb0 => ?_, fun B w R cp vn hr => ?_⟩
  · exact rmove_any hr hb0 cp k i (ab nk) (ab ni) (ab_at hk) (ab_at hi) hki hel (by omega) (by rw [eln, eln]; omega)
  · refine (move_any hr i k (fun e => hki e.symm) ni nk hi hk q (nu_of_num hnu) (fun p hp => ?_) (by omega) (by omega) w.heap.size (fun b hb' => (hr.nodes.lt b hb').2) (fun b hb' => ((hr.inner nk (mem_of_at hk)).lt b hb').2)).mono ?_
    · have := hel (abp p) (List.mem_map.2 ⟨p, hp, rfl⟩)
      rw [hlen] at this
      exact this
    · rintro e w' ⟨rfl, ni2, nk2, v', c1, c2, c3, c4, -⟩
      exact ⟨rfl, _, _, c3, map_move hk hi hki c1 c2, c4⟩

theorem text_two {s X : Nat} {L : List QN} (hW : WF (L.map ab)) (hb : Bq s X (L.map ab)) (hs : s ≤ 1000) {k : Nat} (hkl : k < L.length) (t : List UInt8) (hX : X + t.length ≤ 50000000) :
    ∃ M', WF M' ∧ Bq (s + 1) (X + t.length) M' ∧ M'.length = L.length ∧
      (∀ (b0 : Nat) (w : World) (v0 v1 v2 v3 : Value) (cp : Nat), RA b0 w v0 v1 v2 v3 (L.map ab) → b0 ≤ w.heap.size → Calls Try.prog 20 #[rv v0 v1 v2 v3 cp, .int .i64 (k : Int), .string ⟨t.toArray⟩] w (RPost b0 cp M' w)) ∧
      (∀ (B : Nat) (w : World) (R cp : Nat) (vn : Value), AR B w R L cp vn → Calls Try.prog 21 #[.pointer (some ⟨R, 0, none⟩), .int .i64 (k : Int), .string ⟨t.toArray⟩] w (PPost B R cp M' w)) := by
  obtain ⟨nk, hk⟩ : ∃ n, L[k]? = some n := ⟨_, List.getElem?_eq_getElem hkl⟩
  have hin := hb.inn hs
  have hlen : (L.map ab).length = L.length := List.length_map ..
  have hll := hb.len
  have eln : ∀ n : QN, (ab n).inn.length = n.inn.length := fun n => List.length_map ..
  have hnk := hin nk (mem_of_at hk)
  have htx : ∀ p ∈ (ab nk).inn, p.2.length ≤ X := hb.txs (ab nk) (mem_of_at (ab_at hk))
  refine ⟨_, hW.text (ab_at hk) t, hb.text (ab_at hk) t, by rw [List.length_set, hlen], fun b0 w v0 v1 v2 v3 cp hr hb0 => ?_, fun B w R cp vn hr => ?_⟩
  · by_cases ht : t = []
    · subst ht
      have e : (L.map ab).set k { ab nk with inn := mtext (ab nk).inn [] } = L.map ab := set_self (ab_at hk)
      rw [e]
      exact rtext_none hr hb0 cp k
    · exact rtext_some hr hb0 cp k (ab nk) (ab_at hk) t ht (by omega) (by rw [eln]; omega) (fun p hp => by have := htx p hp; omega)
  · refine (text_any hr k nk hk t (by omega) (by omega) (fun p hp => by have := htx (abp p) (List.mem_map.2 ⟨p, hp, rfl⟩); have e : (abp p).2 = p.tx := rfl; rw [e] at this; omega)).mono ?_
    rintro e w' ⟨rfl, inn, vi, c1, c2, c3⟩
    refine ⟨rfl, _, _, c1, ?_, c2⟩
    rw [List.map_set]
    congr 1
    show MN.mk _ _ _ _ = MN.mk _ _ _ _
    rw [c3]
    rfl
end Go.Proofs.Ytpnjjpbgbdicoaa

/- Both arenas in one memory: what is kept when one of them is written. -/
namespace Go.Proofs.Ytpnjjpbgbdicoaa
open Go.RowKit Go.Lib
open At (Str cellsA cellsA_len Sl alike below_drewN)

theorem Rw.chg {Bc B e k n : Nat} {v : Value} {xs : List Value} {w w' : World} (h : Rw B e k v n xs w) (hc : Chg Bc w w') (h1 : e ≠ 76) (h2 : e ≠ 93) (h3 : e ≠ 5) (h4 : e ≠ 79) : Rw B e k v n xs w' := by
  refine h.same fun g hg => ?_
  rcases h.2 with ⟨hv, -⟩ | ⟨g', c, hv, -, hT, -⟩
  · rw [hv] at hg; cases hg
  · rw [hv] at hg
    injection hg with hg
    subst hg
    exact hc.ty _ e hT h1 h2 h3 h4
theorem Bx.chg {B g : Nat} {cs : Array Value} {t : TypeId} {w w' : World} (h : Bx g cs t w) (hc : Chg B w w') (h1 : t ≠ 76) (h2 : t ≠ 93) (h3 : t ≠ 5) (h4 : t ≠ 79) : Bx g cs t w' := (hc.ty g t h.ty h1 h2 h3 h4).trans h
theorem RA.chg {b0 B : Nat} {w w' : World} {v0 v1 v2 v3 : Value} {M : List MN} (h : RA b0 w v0 v1 v2 v3 M) (hc : Chg B w w') (hB : b0 ≤ B) : RA b0 w' v0 v1 v2 v3 M := by
  refine ⟨h.nms.chg hc (by decide) (by decide) (by decide) (by decide), ?_, ?_, h.par.chg hc (by decide) (by decide) (by decide) (by decide)⟩
  · obtain ⟨xa, h1, h2⟩ := h.ats
    refine ⟨xa, h1.chg hc (by decide) (by decide) (by decide) (by decide), fun j n hn => ?_⟩
    obtain ⟨a, c, h3, h4, h5⟩ := h2 j n hn
    exact ⟨a, c, h3, sl_kept h4 (fun hL ad had => hc.below.block _ (Nat.lt_of_lt_of_le (h5 hL ad had) hB)), h5⟩
  · obtain ⟨xi, h1, h2⟩ := h.inn
    refine ⟨xi, h1.chg hc (by decide) (by decide) (by decide) (by decide), fun j n hn => ?_⟩
    obtain ⟨v, h3, h4⟩ := h2 j n hn
    exact ⟨v, h3, Rw.chg h4 hc (by decide) (by decide) (by decide) (by decide)⟩

/-- five cells of a box -/
abbrev put5 (w : World) (g : Nat) (y0 y1 y2 y3 y4 : Value) : World := ((((w.setCell ⟨g, 0, none⟩ y0).setCell ⟨g, 1, none⟩ y1).setCell ⟨g, 2, none⟩ y2).setCell ⟨g, 3, none⟩ y3).setCell ⟨g, 4, none⟩ y4

theorem AR.setBox {B R cp : Nat} {L : List QN} {vn : Value} {w : World} (h : AR B w R L cp vn) {g : Nat} (hT : Ty w g 31) (j : Nat) (u : Value) : AR B (w.setCell ⟨g, j, none⟩ u) R L cp vn := by
  have hR : R ≠ g := by
    rintro rfl
    have := hT.uniq h.ty
    cases this
  exact ⟨h.hB, (Below.heap_setCell _ _ _ _ hR).trans h.blk, h.nodes.setBox hT (by decide) j u, fun n hn => (h.attrs n hn).setBox hT (by decide) j u, fun n hn => (h.inner n hn).setBox hT (by decide) j u, fun n hn p hp => (h.texts n hn p hp).setBox hT (by decide) j u, h.apI, h.apT⟩
theorem AR.put5 {B R cp : Nat} {L : List QN} {vn : Value} {w : World} (h : AR B w R L cp vn) {g : Nat} (hT : Ty w g 31) (y0 y1 y2 y3 y4 : Value) : AR B (put5 w g y0 y1 y2 y3 y4) R L cp vn :=
  ((((h.setBox hT 0 _).setBox (hT.setCell _ _ rfl) 1 _).setBox ((hT.setCell _ _ rfl).setCell _ _ rfl) 2 _).setBox (((hT.setCell _ _ rfl).setCell _ _ rfl).setCell _ _ rfl) 3 _).setBox ((((hT.setCell _ _ rfl).setCell _ _ rfl).setCell _ _ rfl).setCell _ _ rfl) 4 _
theorem Bx.put5 {g g' : Nat} {cs : Array Value} {t : TypeId} {w : World} (h : Bx g cs t w) (hg : g ≠ g') (y0 y1 y2 y3 y4 : Value) : Bx g cs t (put5 w g' y0 y1 y2 y3 y4) :=
  ((((h.other hg 0 _).other hg 1 _).other hg 2 _).other hg 3 _).other hg 4 _

/-- where the two arenas stand behind so many acts -/
structure St (b0 B : Nat) (w wr : World) (R g3 s X cp : Nat) (L : List QN) (vn v0 v1 v2 v3 : Value) : Prop where
  ar : AR B wr R L cp vn
  ra : RA b0 wr v0 v1 v2 v3 (L.map ab)
  bx : Bx g3 #[v0, v1, v2, v3, .int .i64 (cp : Int)] 31 wr
  wf : WF (L.map ab)
  bq : Bq s X (L.map ab)
  hb : Below b0 w wr
  cps : cp ≤ s
  hB : b0 ≤ B
  hg : b0 ≤ g3
  h0 : b0 ≤ w.heap.size

theorem St.hw {b0 B : Nat} {w wr : World} {R g3 s X cp : Nat} {L : List QN} {vn v0 v1 v2 v3 : Value} (h : St b0 B w wr R g3 s X cp L vn v0 v1 v2 v3) : b0 ≤ wr.heap.size := Nat.le_trans h.h0 h.hb.size

theorem St.below {b0 B : Nat} {w wr w' : World} {R g3 s X cp : Nat} {L : List QN} {vn v0 v1 v2 v3 : Value} (h : St b0 B w wr R g3 s X cp L vn v0 v1 v2 v3) (hb : Below wr.heap.size wr w') : St b0 B w w' R g3 s X cp L vn v0 v1 v2 v3 :=
  ⟨h.ar.below hb, h.ra.below hb, h.bx.below hb, h.wf, h.bq, h.hb.trans (hb.mono h.hw), h.cps, h.hB, h.hg, h.h0⟩
theorem St.more {b0 B : Nat} {w wr : World} {R g3 s X s' X' cp : Nat} {L : List QN} {vn v0 v1 v2 v3 : Value} (h : St b0 B w wr R g3 s X cp L vn v0 v1 v2 v3) (hs : s ≤ s') (hX : X ≤ X') : St b0 B w wr R g3 s' X' cp L vn v0 v1 v2 v3 :=
  ⟨h.ar, h.ra, h.bx, h.wf, h.bq.mono hs hX, h.hb, Nat.le_trans h.cps hs, h.hB, h.hg, h.h0⟩

/-- the values are slices -/
theorem St.vals {b0 B : Nat} {w wr : World} {R g3 s X cp : Nat} {L : List QN} {vn v0 v1 v2 v3 : Value} (h : St b0 B w wr R g3 s X cp L vn v0 v1 v2 v3) :
    ∃ a0 c0 a1 c1 a2 c2 a3 c3, v0 = .slice a0 L.length c0 ∧ v1 = .slice a1 L.length c1 ∧ v2 = .slice a2 L.length c2 ∧ v3 = .slice a3 L.length c3 := by
  obtain ⟨a0, c0, e0, -⟩ := h.ra.nms.slice
  obtain ⟨a1, c1, e1, -⟩ := h.ra.ats.choose_spec.1.slice
  obtain ⟨a2, c2, e2, -⟩ := h.ra.inn.choose_spec.1.slice
  obtain ⟨a3, c3, e3, -⟩ := h.ra.par.slice
  rw [List.length_map] at e0 e1 e2 e3
  exact ⟨a0, c0, a1, c1, a2, c2, a3, c3, e0, e1, e2, e3⟩
theorem RA.vals {b0 : Nat} {w : World} {v0 v1 v2 v3 : Value} {M : List MN} {n : Nat} (h : RA b0 w v0 v1 v2 v3 M) (hn : M.length = n) :
    ∃ a0 c0 a1 c1 a2 c2 a3 c3, v0 = .slice a0 n c0 ∧ v1 = .slice a1 n c1 ∧ v2 = .slice a2 n c2 ∧ v3 = .slice a3 n c3 := by
  obtain ⟨a0, c0, e0, -⟩ := h.nms.slice
  obtain ⟨a1, c1, e1, -⟩ := h.ats.choose_spec.1.slice
  obtain ⟨a2, c2, e2, -⟩ := h.inn.choose_spec.1.slice
  obtain ⟨a3, c3, e3, -⟩ := h.par.slice
  rw [hn] at e0 e1 e2 e3
  exact ⟨a0, c0, a1, c1, a2, c2, a3, c3, e0, e1, e2, e3⟩

/-- between the two acts: the document's arena has been written, the program's not yet -/
structure Mid (b0 B : Nat) (w wr : World) (R g3 cp cp' : Nat) (L : List QN) (M' : List MN) (vn v0 v1 v2 v3 : Value) : Prop where
  ar : AR B wr R L cp vn
  ra : RA b0 wr v0 v1 v2 v3 M'
  bx : Bx g3 #[v0, v1, v2, v3, .int .i64 (cp' : Int)] 31 wr
  hb : Below b0 w wr
  hB : b0 ≤ B
  hg : b0 ≤ g3
  h0 : b0 ≤ w.heap.size

theorem St.mid {b0 B : Nat} {w wr w2 : World} {R g3 s X cp cp' : Nat} {L : List QN} {M' : List MN} {vn v0 v1 v2 v3 u0 u1 u2 u3 : Value} (h : St b0 B w wr R g3 s X cp L vn v0 v1 v2 v3) (hb : Below wr.heap.size wr w2) (hr : RA b0 w2 u0 u1 u2 u3 M') :
    Mid b0 B w (put5 w2 g3 u0 u1 u2 u3 (.int .i64 (cp' : Int))) R g3 cp cp' L M' vn u0 u1 u2 u3 := by
  have h2 := h.below hb
  exact ⟨h2.ar.put5 h2.bx.ty _ _ _ _ _, hr.set5 h2.bx.ty h.hg _ _ _ _ _, h2.bx.set5 _ _ _ _ _, below_set5 h2.hb h.hg _ _ _ _ _, h.hB, h.hg, h.h0⟩
theorem Mid.below {b0 B : Nat} {w wr w' : World} {R g3 cp cp' : Nat} {L : List QN} {M' : List MN} {vn v0 v1 v2 v3 : Value} (h : Mid b0 B w wr R g3 cp cp' L M' vn v0 v1 v2 v3) (hb : Below wr.heap.size wr w') : Mid b0 B w w' R g3 cp cp' L M' vn v0 v1 v2 v3 :=
  ⟨h.ar.below hb, h.ra.below hb, h.bx.below hb, h.hb.trans (hb.mono (Nat.le_trans h.h0 h.hb.size)), h.hB, h.hg, h.h0⟩
theorem Mid.st {b0 B : Nat} {w wr w' : World} {R g3 s X cp cp' : Nat} {L L' : List QN} {M' : List MN} {vn vn' v0 v1 v2 v3 : Value} (h : Mid b0 B w wr R g3 cp cp' L M' vn v0 v1 v2 v3) (hc : Chg B wr w') (ha : AR B w' R L' cp' vn') (hm : L'.map ab = M') (hW : WF M') (hq : Bq s X M') (hcp : cp' ≤ s) : St b0 B w w' R g3 s X cp' L' vn' v0 v1 v2 v3 := by
  subst hm
  exact ⟨ha, h.ra.chg hc h.hB, h.bx.chg hc (by decide) (by decide) (by decide) (by decide), hW, hq, h.hb.trans (hc.below.mono h.hB), hcp, h.hB, h.hg, h.h0⟩

/-- a new element's answers -/
def TwoPost (b0 n cp : Nat) (M : List MN) (w : World) (e : Ending) (w' : World) : Prop :=
  ∃ v0 v1 v2 v3, e = .returned (.tuple #[rv v0 v1 v2 v3 cp, .int .i64 (n : Int)]) ∧ RA b0 w' v0 v1 v2 v3 M ∧ Below w.heap.size w w'
def TwoAct (B R n cp : Nat) (M : List MN) (w : World) (e : Ending) (w' : World) : Prop :=
  e = .returned (.int .i64 (n : Int)) ∧ ∃ L' vn', AR B w' R L' cp vn' ∧ L'.map ab = M ∧ Chg B w w'

theorem elem_two {s X : Nat} {L : List QN} (hW : WF (L.map ab)) (hb : Bq s X (L.map ab)) (hs : s ≤ 1000) (nm : List UInt8) (ats : List At.At) (hal : ats.length ≤ 10) :
    ∃ M', WF M' ∧ Bq (s + 1) X M' ∧
      (∀ (b0 : Nat) (w : World) (v0 v1 v2 v3 : Value) (cp : Nat) (a : Option Addr) (c : Nat), RA b0 w v0 v1 v2 v3 (L.map ab) → b0 ≤ w.heap.size → Sl ats a c w → (ats ≠ [] → ∀ ad, a = some ad → ad.block < b0) → Calls Try.prog 12 #[rv v0 v1 v2 v3 cp, .string ⟨nm.toArray⟩, .slice a ats.length c] w (TwoPost b0 L.length cp M' w)) ∧
      (∀ (B : Nat) (w : World) (R cp : Nat) (vn : Value) (a : Option Addr) (c : Nat), AR B w R L cp vn → Sl ats a c w → Calls Try.prog 13 #[.pointer (some ⟨R, 0, none⟩), .string ⟨nm.toArray⟩, .slice a ats.length c] w (TwoAct B R L.length cp M' w)) := by
  have hlen : (L.map ab).length = L.length := List.length_map ..
  have hll := hb.len
  refine ⟨_, hW.elem nm ats, hb.elem nm ats hal, fun b0 w v0 v1 v2 v3 cp a c hr hb0 hsl hsb => ?_, fun B w R cp vn a c hr hsl => ?_⟩
  · have := relem_any hr hb0 nm ats a c cp hsl hsb (by omega)
    unfold RElemPost at this
    rw [hlen] at this
    exact this
  · refine (element_any hr nm ats a c hsl (by omega) (by omega)).mono ?_
    rintro e w' ⟨rfl, sa, vn', h1, h2⟩
    exact ⟨rfl, _, _, h1, by rw [List.map_append]; rfl, h2⟩

theorem copy_two {s X : Nat} {L : List QN} (hW : WF (L.map ab)) (hb : Bq s X (L.map ab)) (hs : s ≤ 1000) {i : Nat} (hi0 : i ≠ 0) (hil : i < L.length) :
    ∃ M', WF M' ∧ Bq (s + 1) X M' ∧
      (∀ (b0 : Nat) (w : World) (v0 v1 v2 v3 : Value) (cp : Nat), cp ≤ 1000000 → RA b0 w v0 v1 v2 v3 (L.map ab) → b0 ≤ w.heap.size → Calls Try.prog 15 #[rv v0 v1 v2 v3 cp, .int .i64 (i : Int)] w (TwoPost b0 L.length (cp + 1) M' w)) ∧
      (∀ (B : Nat) (w : World) (R cp : Nat) (vn : Value), cp ≤ 1000000 → AR B w R L cp vn → Calls Try.prog 16 #[.pointer (some ⟨R, 0, none⟩), .int .i64 (i : Int)] w (TwoAct B R L.length (cp + 1) M' w)) := by
  obtain ⟨n, hn⟩ : ∃ n, L[i]? = some n := ⟨_, List.getElem?_eq_getElem hil⟩
  have hlen : (L.map ab).length = L.length := List.length_map ..
  have hll := hb.len
  have hal := hb.ats (ab n) (mem_of_at (ab_at hn))
  have hal' : n.ats.length ≤ 10 := hal
  refine ⟨_, hW.elem n.nm n.ats, hb.elem n.nm n.ats hal, fun b0 w v0 v1 v2 v3 cp hcp hr hb0 => ?_, fun B w R cp vn hcp hr => ?_⟩
  · have := rcopy_any hr hb0 cp i (ab n) (ab_at hn) (by omega) hcp
    unfold RCopyPost at this
    rw [hlen] at this
    exact this
  · refine (copy_any hr i hi0 n hn (by omega) (by omega) hcp).mono ?_
    rintro e w' ⟨rfl, sa, vn', h1, h2⟩
    exact ⟨rfl, _, _, h1, by rw [List.map_append]; rfl, h2⟩
end Go.Proofs.Ytpnjjpbgbdicoaa
