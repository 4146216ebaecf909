/- What stays true of an arena, whatever becomes of it: all stands in trees. -/
import Derived.Test.YtpnjjpbgbdicoaaRm
namespace Go.Proofs.Ytpnjjpbgbdicoaa
open Go.RowKit Go.Lib

/-- all stands in trees -/
structure WF (M : List MN) : Prop where
  root : ∃ n, M[0]? = some n ∧ n.nm = [] ∧ n.ats = [] ∧ n.par = -1
  up : ∀ i, i < M.length → ∃ m, Up M m (i : Int)
  els : ∀ (k : Nat) (n : MN), M[k]? = some n → ∀ p ∈ n.inn, p.1 ≠ 0 → p.2 = [] ∧ ∃ c, M[p.1]? = some c ∧ c.par = (k : Int)
  one : ∀ (k : Nat) (n : MN), M[k]? = some n → (n.inn.filter fun p => decide (p.1 ≠ 0)).Pairwise fun p q => p.1 ≠ q.1
  mem : ∀ (i : Nat) (n : MN) (p : Nat), M[i]? = some n → n.par = (p : Int) → ∃ np, M[p]? = some np ∧ ∃ q ∈ np.inn, q.1 = i

theorem Up.uniq {M : List MN} : ∀ {m m' : Nat} {i : Int}, Up M m i → Up M m' i → m = m'
  | 0, 0, _, _, _ => rfl
  | 0, m' + 1, i, h, h' => by
    obtain ⟨j, n, h1, -⟩ := h'
    have h0 : i = -1 := h
    omega
  | m + 1, 0, i, h, h' => by
    obtain ⟨j, n, h1, -⟩ := h
    have h0 : i = -1 := h'
    omega
  | m + 1, m' + 1, i, h, h' => by
    obtain ⟨j, n, h1, h2, h3⟩ := h
    obtain ⟨j', n', h1', h2', h3'⟩ := h'
    have hj : j = j' := by omega
    subst hj
    rw [h2] at h2'
    injection h2' with h2'
    subst h2'
    rw [Up.uniq h3 h3']

theorem Up.congr {M M' : List MN} (h : ∀ (j : Nat) (n : MN), M[j]? = some n → ∃ n', M'[j]? = some n' ∧ n'.par = n.par) : ∀ {m : Nat} {i : Int}, Up M m i → Up M' m i
  | 0, _, hu => hu
  | m + 1, i, hu => by
    obtain ⟨j, n, h1, h2, h3⟩ := hu
    obtain ⟨n', e1, e2⟩ := h j n h2
    exact ⟨j, n', h1, e1, by rw [e2]; exact Up.congr h h3⟩

/-- there is a greatest depth -/
theorem up_max (M : List MN) : ∀ N : Nat, ∃ D, ∀ i, i < N → ∀ m, Up M m (i : Int) → m ≤ D
  | 0 => ⟨0, fun i hi => absurd hi (Nat.not_lt_zero _)⟩
  | N + 1 => by
    obtain ⟨D, hD⟩ := up_max M N
    by_cases h : ∃ m, Up M m (N : Int)
    · obtain ⟨m0, hm0⟩ := h
      refine ⟨max D m0, fun i hi m hm => ?_⟩
      by_cases hiN : i = N
      · subst hiN
        rw [hm.uniq hm0]
        exact Nat.le_max_right _ _
      · exact Nat.le_trans (hD i (by omega) m hm) (Nat.le_max_left _ _)
    · refine ⟨D, fun i hi m hm => ?_⟩
      by_cases hiN : i = N
      · subst hiN
        exact absurd ⟨m, hm⟩ h
      · exact hD i (by omega) m hm

/-- what stands in a node, as nodes -/
theorem WF.tree {M : List MN} (h : WF M) : ∀ (k : Nat) (n : MN), M[k]? = some n → ∃ f, T M n.inn f := by
  obtain ⟨D, hD⟩ := up_max M M.length
  have main : ∀ (t m k : Nat) (n : MN), m + t = D + 1 → Up M m (k : Int) → M[k]? = some n → ∃ f, T M n.inn f := by
    intro t
    induction t with
    | zero =>
      intro m k n hm hu hk
      have := hD k (List.getElem?_eq_some_iff.1 hk).1 m hu
      omega
    | succ t ih =>
      intro m k n hm hu hk
      have sub : ∀ l : List (Nat × List UInt8), (∀ p ∈ l, p ∈ n.inn) → ∃ f, T M l f := by
        intro l
        induction l with
        | nil => intro _; exact ⟨.nil, rfl⟩
        | cons p r ihl =>
          intro hl
          obtain ⟨g, hg⟩ := ihl (fun q hq => hl q (List.mem_cons_of_mem _ hq))
          by_cases hp : p.1 = 0
          · exact ⟨.cons [] [] p.2 .nil g, p, r, rfl, hg, Or.inl ⟨hp, rfl, rfl, rfl, rfl⟩⟩
          · obtain ⟨h2, c, hc, hpar⟩ := h.els k n hk p (hl p List.mem_cons_self) hp
            obtain ⟨f, hf⟩ := ih (m + 1) p.1 c (by omega) ⟨p.1, c, rfl, hc, by rw [hpar]; exact hu⟩ hc
            exact ⟨.cons c.nm c.ats [] f g, p, r, rfl, hg, Or.inr ⟨hp, rfl, c, hc, rfl, rfl, hf⟩⟩
      exact sub n.inn (fun _ hp => hp)
  intro k n hk
  obtain ⟨m, hm⟩ := h.up k (List.getElem?_eq_some_iff.1 hk).1
  have := hD k (List.getElem?_eq_some_iff.1 hk).1 m hm
  exact main (D + 1 - m) m k n (by omega) hm hk

/-- no list in it is too long, if none in the arena is -/
theorem T.small {M : List MN} {N : Nat} (hM : ∀ n ∈ M, n.ats.length ≤ N ∧ n.inn.length ≤ N) : ∀ {f : F} {l : List (Nat × List UInt8)}, T M l f → f.small N
  | .nil, _, _ => trivial
  | .cons nm ats tx inn rest, l, h => by
    rw [T] at h
    obtain ⟨p, r, rfl, hr, hp⟩ := h
    refine ⟨?_, ?_, ?_, T.small hM hr⟩
    · rcases hp with ⟨-, -, rfl, -⟩ | ⟨-, -, n, hn, -, rfl, -⟩
      · exact Nat.zero_le _
      · exact (hM n (mem_of_at hn)).1
    · rcases hp with ⟨-, -, -, -, rfl⟩ | ⟨-, -, n, hn, -, -, ht⟩
      · exact Nat.zero_le _
      · rw [← ht.len]; exact (hM n (mem_of_at hn)).2
    · rcases hp with ⟨-, -, -, -, rfl⟩ | ⟨-, -, n, hn, -, -, ht⟩
      · trivial
      · exact T.small hM ht

theorem wf_new : WF M0 := by
  have h0 : ∀ (k : Nat) (n : MN), M0[k]? = some n → k = 0 ∧ n = ⟨[], [], -1, []⟩ := by
    intro k n hk
    match k, hk with
    | 0, hk => cases hk; exact ⟨rfl, rfl⟩
    | k + 1, hk => simp [M0] at hk
  refine ⟨⟨_, rfl, rfl, rfl, rfl⟩, fun i hi => ?_, fun k n hk p hp => ?_, fun k n hk => ?_, fun i n p hi hp => ?_⟩
  · have : i = 0 := by simp [M0] at hi; omega
    subst this
    exact ⟨1, 0, _, rfl, rfl, rfl⟩
  · obtain ⟨-, rfl⟩ := h0 k n hk; cases hp
  · obtain ⟨-, rfl⟩ := h0 k n hk; exact List.Pairwise.nil
  · obtain ⟨-, rfl⟩ := h0 i n hi
    have : ((-1 : Int)) = (p : Int) := hp
    omega

/-- one element more -/
theorem WF.elem {M : List MN} (h : WF M) (nm : List UInt8) (ats : List At.At) : WF (M ++ [⟨nm, ats, -1, []⟩]) := by
  have old : ∀ (j : Nat) (n : MN), M[j]? = some n → (M ++ [(⟨nm, ats, -1, []⟩ : MN)])[j]? = some n := fun j n hj => by
    rw [List.getElem?_append_left (List.getElem?_eq_some_iff.1 hj).1]; exact hj
  have inv : ∀ (j : Nat) (n : MN), (M ++ [(⟨nm, ats, -1, []⟩ : MN)])[j]? = some n → M[j]? = some n ∨ (j = M.length ∧ n = ⟨nm, ats, -1, []⟩) := by
    intro j n hj
    by_cases hl : j < M.length
    · rw [List.getElem?_append_left hl] at hj; exact Or.inl hj
    · rw [List.getElem?_append_right (by omega)] at hj
      have h1 := (List.getElem?_eq_some_iff.1 hj).1
      simp only [List.length_singleton] at h1
      have h0 : j - M.length = 0 := by omega
      rw [h0] at hj
      injection hj with hj
      exact Or.inr ⟨by omega, hj.symm⟩
  obtain ⟨r, hr, hr2⟩ := h.root
  refine ⟨⟨r, old 0 r hr, hr2⟩, fun i hi => ?_, fun k n hk p hp hp0 => ?_, fun k n hk => ?_, fun i n p hi hp => ?_⟩
  · rw [List.length_append, List.length_singleton] at hi
    by_cases hl : i < M.length
    · obtain ⟨m, hm⟩ := h.up i hl
      exact ⟨m, hm.congr fun j n hj => ⟨n, old j n hj, rfl⟩⟩
    · have : i = M.length := by omega
      subst this
      exact ⟨1, M.length, ⟨nm, ats, -1, []⟩, rfl, by rw [List.getElem?_append_right (Nat.le_refl _), Nat.sub_self]; rfl, rfl⟩
  · rcases inv k n hk with hk | ⟨rfl, rfl⟩
    · obtain ⟨e, c, hc, hpar⟩ := h.els k n hk p hp hp0
      exact ⟨e, c, old _ _ hc, hpar⟩
    · cases hp
  · rcases inv k n hk with hk | ⟨rfl, rfl⟩
    · exact h.one k n hk
    · exact List.Pairwise.nil
  · rcases inv i n hi with hi | ⟨rfl, rfl⟩
    · obtain ⟨np, h1, h2⟩ := h.mem i n p hi hp
      exact ⟨np, old _ _ h1, h2⟩
    · have : ((-1 : Int)) = (p : Int) := hp
      omega

/-- the elements among parts -/
abbrev elx (l : List (Nat × List UInt8)) : List (Nat × List UInt8) := l.filter fun p => decide (p.1 ≠ 0)
theorem mem_elx {l : List (Nat × List UInt8)} {p : Nat × List UInt8} : p ∈ elx l ↔ p ∈ l ∧ p.1 ≠ 0 := by simp [elx, List.mem_filter]

/-- parts changed, the elements among them as they were -/
theorem WF.setInn {M : List MN} (h : WF M) {k : Nat} {n : MN} (hk : M[k]? = some n) {l' : List (Nat × List UInt8)} (he : elx l' = elx n.inn) : WF (M.set k { n with inn := l' }) := by
  have hkl := (List.getElem?_eq_some_iff.1 hk).1
  have old : ∀ (j : Nat) (m : MN), M[j]? = some m → ∃ m', (M.set k { n with inn := l' })[j]? = some m' ∧ m'.par = m.par ∧ m'.nm = m.nm ∧ m'.ats = m.ats ∧ elx m'.inn = elx m.inn := by
    intro j m hj
    by_cases hjk : j = k
    · subst hjk
      rw [hk] at hj
      injection hj with hj
      subst hj
      exact ⟨_, List.getElem?_set_self hkl, rfl, rfl, rfl, he⟩
    · exact ⟨m, by rw [List.getElem?_set_ne (fun e => hjk e.symm)]; exact hj, rfl, rfl, rfl, rfl⟩
  have inv : ∀ (j : Nat) (m' : MN), (M.set k { n with inn := l' })[j]? = some m' → ∃ m, M[j]? = some m ∧ m'.par = m.par ∧ elx m'.inn = elx m.inn := by
    intro j m' hj
    have hjl := (List.getElem?_eq_some_iff.1 hj).1
    rw [List.length_set] at hjl
    obtain ⟨m2, e1, e2, -, -, e3⟩ := old j _ (List.getElem?_eq_getElem hjl)
    rw [hj] at e1
    injection e1 with e1
    subst e1
    exact ⟨_, List.getElem?_eq_getElem hjl, e2, e3⟩
  obtain ⟨r, hr, h1, h2, h3⟩ := h.root
  obtain ⟨r', e0, e1, e2, e3, -⟩ := old 0 r hr
  refine ⟨⟨r', e0, e2.trans h1, e3.trans h2, e1.trans h3⟩, fun i hi => ?_, fun j m hj p hp hp0 => ?_, fun j m hj => ?_, fun i m p hi hp => ?_⟩
  · rw [List.length_set] at hi
    obtain ⟨m, hm⟩ := h.up i hi
    exact ⟨m, hm.congr fun j x hj => by obtain ⟨x', a, b, -⟩ := old j x hj; exact ⟨x', a, b⟩⟩
  · obtain ⟨m0, a1, a2, a3⟩ := inv j m hj
    have hp' : p ∈ m0.inn := (mem_elx.1 (by rw [← a3]; exact mem_elx.2 ⟨hp, hp0⟩)).1
    obtain ⟨b1, c, b2, b3⟩ := h.els j m0 a1 p hp' hp0
    obtain ⟨c', d1, d2, -⟩ := old _ c b2
    exact ⟨b1, c', d1, d2.trans b3⟩
  · obtain ⟨m0, a1, a2, a3⟩ := inv j m hj
    show (elx m.inn).Pairwise _
    rw [a3]
    exact h.one j m0 a1
  · obtain ⟨m0, a1, a2, -⟩ := inv i m hi
    obtain ⟨np, b1, q, b2, b3⟩ := h.mem i m0 p a1 (by rw [← a2]; exact hp)
    obtain ⟨np', c1, -, -, -, c2⟩ := old p np b1
    by_cases hi0 : i = 0
    · obtain ⟨r, hr, -, -, hrp⟩ := h.root
      rw [hi0, hr] at a1
      injection a1 with a1
      subst a1
      rw [a2, hrp] at hp
      omega
    · exact ⟨np', c1, q, (mem_elx.1 (by rw [c2]; exact mem_elx.2 ⟨b2, by omega⟩)).1, b3⟩

theorem elx_append (l m : List (Nat × List UInt8)) : elx (l ++ m) = elx l ++ elx m := List.filter_append ..
theorem mtext_elx (l : List (Nat × List UInt8)) (s : List UInt8) : elx (mtext l s) = elx l := by
  unfold mtext
  split
  · rfl
  · split
    · rename_i t ht
      rw [elx_append]
      rcases List.eq_nil_or_concat l with rfl | ⟨r, b, rfl⟩
      · cases ht
      · rw [List.concat_eq_append, List.getLast?_concat] at ht
        injection ht with ht
        subst ht
        rw [List.concat_eq_append, List.dropLast_concat, elx_append]
        rfl
    · rw [elx_append]
      simp [elx]

theorem WF.text {M : List MN} (h : WF M) {k : Nat} {n : MN} (hk : M[k]? = some n) (s : List UInt8) : WF (M.set k { n with inn := mtext n.inn s }) := h.setInn hk (mtext_elx _ _)

/-- where a node's place changes alone, chains that don't meet it stay -/
theorem num_congr {M M' : List MN} {i : Nat} (h : ∀ (j : Nat) (n : MN), j ≠ i → M[j]? = some n → ∃ n', M'[j]? = some n' ∧ n'.par = n.par) : ∀ {q : Nat} {x : Int}, NUM M i q x → Up M' q x
  | 0, _, hu => hu
  | q + 1, x, hu => by
    obtain ⟨j, n, h1, h2, h3, h4⟩ := hu
    obtain ⟨n', e1, e2⟩ := h j n h2 h3
    exact ⟨j, n', h1, e1, by rw [e2]; exact num_congr h h4⟩
theorem up_moved {M M' : List MN} {i : Nat} {Q : Nat} (h : ∀ (j : Nat) (n : MN), j ≠ i → M[j]? = some n → ∃ n', M'[j]? = some n' ∧ n'.par = n.par) (hi : Up M' Q (i : Int)) : ∀ {m : Nat} {x : Int}, Up M m x → ∃ m', Up M' m' x
  | 0, _, hu => ⟨0, hu⟩
  | m + 1, x, hu => by
    obtain ⟨j, n, h1, h2, h3⟩ := hu
    by_cases hj : j = i
    · subst hj
      exact ⟨Q, by rw [h1]; exact hi⟩
    · obtain ⟨n', e1, e2⟩ := h j n hj h2
      obtain ⟨m', hm'⟩ := up_moved h hi h3
      exact ⟨m' + 1, j, n', h1, e1, by rw [e2]; exact hm'⟩

/-- an element that stands in none, put into a node -/
theorem WF.put {M : List MN} (h : WF M) {k i q : Nat} {nk ni : MN} (hk : M[k]? = some nk) (hi : M[i]? = some ni) (hpar : ni.par = -1) (hi0 : i ≠ 0) (hnu : NUM M i q (k : Int)) :
    WF ((M.set i { ni with par := (k : Int) }).set k { nk with inn := nk.inn ++ [(i, [])] }) := by
  have hki : k ≠ i := by
    cases q with
    | zero => have : (k : Int) = -1 := hnu; omega
    | succ q => obtain ⟨j, n, h1, h2, -⟩ := hnu; omega
  have hkl := (List.getElem?_eq_some_iff.1 hk).1
  have hil := (List.getElem?_eq_some_iff.1 hi).1
  obtain ⟨M', hM'⟩ : ∃ M', (M.set i { ni with par := (k : Int) }).set k { nk with inn := nk.inn ++ [(i, [])] } = M' := ⟨_, rfl⟩
  have gi : M'[i]? = some { ni with par := (k : Int) } := by rw [← hM', List.getElem?_set_ne hki, List.getElem?_set_self hil]
  have gk : M'[k]? = some { nk with inn := nk.inn ++ [(i, [])] } := by rw [← hM', List.getElem?_set_self (by rw [List.length_set]; exact hkl)]
  have go : ∀ j, j ≠ i → j ≠ k → M'[j]? = M[j]? := fun j h1 h2 => by rw [← hM', List.getElem?_set_ne (fun e => h2 e.symm), List.getElem?_set_ne (fun e => h1 e.symm)]
  rw [hM']
  have old : ∀ (j : Nat) (n : MN), j ≠ i → M[j]? = some n → ∃ n', M'[j]? = some n' ∧ n'.par = n.par ∧ n'.nm = n.nm ∧ n'.ats = n.ats ∧ ∀ p ∈ n.inn, p ∈ n'.inn := by
    intro j n hj hn
    by_cases hjk : j = k
    · subst hjk
      rw [hk] at hn
      injection hn with hn
      subst hn
      exact ⟨_, gk, rfl, rfl, rfl, fun p hp => List.mem_append_left _ hp⟩
    · exact ⟨n, by rw [go j hj hjk]; exact hn, rfl, rfl, rfl, fun p hp => hp⟩
  have inv : ∀ (j : Nat) (n' : MN), M'[j]? = some n' → (j = i ∧ n' = { ni with par := (k : Int) }) ∨ (j ≠ i ∧ ∃ n, M[j]? = some n ∧ n'.par = n.par ∧ (n'.inn = n.inn ∨ (j = k ∧ n'.inn = n.inn ++ [(i, [])]))) := by
    intro j n' hj
    by_cases hji : j = i
    · subst hji
      rw [gi] at hj
      injection hj with hj
      exact Or.inl ⟨rfl, hj.symm⟩
    · by_cases hjk : j = k
      · subst hjk
        rw [gk] at hj
        injection hj with hj
        subst hj
        exact Or.inr ⟨hji, nk, hk, rfl, Or.inr ⟨rfl, rfl⟩⟩
      · rw [go j hji hjk] at hj
        exact Or.inr ⟨hji, n', hj, rfl, Or.inl rfl⟩
  -- no node has i among its parts
  have free : ∀ (j : Nat) (n : MN), M[j]? = some n → ∀ p ∈ n.inn, p.1 ≠ i := by
    intro j n hn p hp e
    obtain ⟨-, c, hc, hcp⟩ := h.els j n hn p hp (by omega)
    rw [e, hi] at hc
    injection hc with hc
    subst hc
    rw [hpar] at hcp
    omega
  have upk : Up M' q (k : Int) := num_congr (fun j n hj hn => by obtain ⟨n', a, b, -⟩ := old j n hj hn; exact ⟨n', a, b⟩) hnu
  have upi : Up M' (q + 1) (i : Int) := ⟨i, _, rfl, gi, upk⟩
  obtain ⟨r, hr, h1, h2, h3⟩ := h.root
  obtain ⟨r', e0, e1, e2, e3, -⟩ := old 0 r (fun e => hi0 e.symm) hr
  refine ⟨⟨r', e0, e2.trans h1, e3.trans h2, e1.trans h3⟩, fun j hj => ?_, fun j n' hj p hp hp0 => ?_, fun j n' hj => ?_, fun j n' p hj hp => ?_⟩
  · have hjl : j < M.length := by rw [← hM', List.length_set, List.length_set] at hj; exact hj
    obtain ⟨m, hm⟩ := h.up j hjl
    exact up_moved (fun j n hj hn => by obtain ⟨n', a, b, -⟩ := old j n hj hn; exact ⟨n', a, b⟩) upi hm
  · have base : ∀ (n : MN), M[j]? = some n → p ∈ n.inn → p.2 = [] ∧ ∃ c, M'[p.1]? = some c ∧ c.par = (j : Int) := by
      intro n hn hp
      obtain ⟨b1, c, b2, b3⟩ := h.els j n hn p hp hp0
      obtain ⟨c', d1, d2, -⟩ := old _ c (free j n hn p hp) b2
      exact ⟨b1, c', d1, d2.trans b3⟩
    rcases inv j n' hj with ⟨rfl, rfl⟩ | ⟨hji, n, hn, hpa, hin⟩
    · exact base ni hi hp
    · rcases hin with hin | ⟨rfl, hin⟩
      · rw [hin] at hp
        exact base n hn hp
      · rw [hin] at hp
        rcases List.mem_append.1 hp with hp | hp
        · exact base n hn hp
        · simp only [List.mem_singleton] at hp
          subst hp
          exact ⟨rfl, _, gi, rfl⟩
  · rcases inv j n' hj with ⟨rfl, rfl⟩ | ⟨hji, n, hn, hpa, hin⟩
    · exact h.one j ni hi
    · rcases hin with hin | ⟨rfl, hin⟩
      · rw [hin]; exact h.one j n hn
      · rw [hin, List.filter_append, List.pairwise_append]
        refine ⟨h.one j n hn, by simp [hi0], fun x hx y hy => ?_⟩
        have hy' : y = (i, []) := by
          have := (List.mem_filter.1 hy).1
          simpa using this
        subst hy'
        exact free j n hn x (List.mem_filter.1 hx).1
  · rcases inv j n' hj with ⟨rfl, rfl⟩ | ⟨hji, n, hn, hpa, hin⟩
    · have : p = k := by have : ((k : Int)) = (p : Int) := hp; omega
      subst this
      exact ⟨_, gk, (j, []), List.mem_append_right _ (List.mem_singleton.2 rfl), rfl⟩
    · obtain ⟨np, b1, x, b2, b3⟩ := h.mem j n p hn (by rw [← hpa]; exact hp)
      by_cases hpi : p = i
      · subst hpi
        rw [hi] at b1
        injection b1 with b1
        subst b1
        exact ⟨_, gi, x, b2, b3⟩
      · obtain ⟨np', c1, -, -, -, c2⟩ := old p np hpi b1
        exact ⟨np', c1, x, c2 x b2, b3⟩
end Go.Proofs.Ytpnjjpbgbdicoaa

/- What stays true of an arena when an element is taken out of its node, and when all is moved. -/
namespace Go.Proofs.Ytpnjjpbgbdicoaa
open Go.RowKit Go.Lib

theorem elx_wo {l : List (Nat × List UInt8)} {e : Nat} {p : Nat × List UInt8} : p ∈ wo e l ↔ p ∈ l ∧ p.1 ≠ e := by simp [wo, List.mem_filter]

/-- an element taken out of the node in which it stands -/
theorem WF.out {M : List MN} (h : WF M) {i p : Nat} {ni np : MN} (hi : M[i]? = some ni) (hpar : ni.par = (p : Int)) (hp : M[p]? = some np) :
    i ≠ p ∧ WF ((M.set p { np with inn := wo i np.inn }).set i { ni with par := -1 }) := by
  have hil := (List.getElem?_eq_some_iff.1 hi).1
  have hpl := (List.getElem?_eq_some_iff.1 hp).1
  have hip : i ≠ p := by
    rintro rfl
    obtain ⟨m, hm⟩ := h.up i hil
    have h2 : Up M (m + 1) (i : Int) := ⟨i, ni, rfl, hi, by rw [hpar]; exact hm⟩
    have := hm.uniq h2
    omega
  refine ⟨hip, ?_⟩
  have hi0 : i ≠ 0 := by
    rintro rfl
    obtain ⟨r, hr, -, -, hrp⟩ := h.root
    rw [hr] at hi
    injection hi with hi
    subst hi
    omega
  obtain ⟨M', hM'⟩ : ∃ M', (M.set p { np with inn := wo i np.inn }).set i { ni with par := -1 } = M' := ⟨_, rfl⟩
  have gi : M'[i]? = some { ni with par := -1 } := by rw [← hM', List.getElem?_set_self (by rw [List.length_set]; exact hil)]
  have gp : M'[p]? = some { np with inn := wo i np.inn } := by rw [← hM', List.getElem?_set_ne hip, List.getElem?_set_self hpl]
  have go : ∀ j, j ≠ i → j ≠ p → M'[j]? = M[j]? := fun j h1 h2 => by rw [← hM', List.getElem?_set_ne (fun e => h1 e.symm), List.getElem?_set_ne (fun e => h2 e.symm)]
  rw [hM']
  have old : ∀ (j : Nat) (n : MN), j ≠ i → M[j]? = some n → ∃ n', M'[j]? = some n' ∧ n'.par = n.par ∧ n'.nm = n.nm ∧ n'.ats = n.ats ∧ (n'.inn = n.inn ∨ n'.inn = wo i n.inn) := by
    intro j n hj hn
    by_cases hjp : j = p
    · subst hjp
      rw [hp] at hn
      injection hn with hn
      subst hn
      exact ⟨_, gp, rfl, rfl, rfl, Or.inr rfl⟩
    · exact ⟨n, by rw [go j hj hjp]; exact hn, rfl, rfl, rfl, Or.inl rfl⟩
  have inv : ∀ (j : Nat) (n' : MN), M'[j]? = some n' → (j = i ∧ n' = { ni with par := -1 }) ∨ (j ≠ i ∧ ∃ n, M[j]? = some n ∧ n'.par = n.par ∧ ((j ≠ p ∧ n'.inn = n.inn) ∨ n'.inn = wo i n.inn)) := by
    intro j n' hj
    by_cases hji : j = i
    · subst hji
      rw [gi] at hj
      injection hj with hj
      exact Or.inl ⟨rfl, hj.symm⟩
    · by_cases hjp : j = p
      · subst hjp
        rw [gp] at hj
        injection hj with hj
        subst hj
        exact Or.inr ⟨hji, np, hp, rfl, Or.inr rfl⟩
      · rw [go j hji hjp] at hj
        exact Or.inr ⟨hji, n', hj, rfl, Or.inl ⟨hjp, rfl⟩⟩
  -- i stands in p alone
  have alone : ∀ (j : Nat) (n : MN), M[j]? = some n → ∀ x ∈ n.inn, x.1 = i → j = p := by
    intro j n hn x hx e
    obtain ⟨-, c, hc, hcp⟩ := h.els j n hn x hx (by omega)
    rw [e, hi] at hc
    injection hc with hc
    subst hc
    rw [hpar] at hcp
    omega
  have upi : Up M' 1 (i : Int) := ⟨i, _, rfl, gi, rfl⟩
  obtain ⟨r, hr, h1, h2, h3⟩ := h.root
  obtain ⟨r', e0, e1, e2, e3, -⟩ := old 0 r (fun e => hi0 e.symm) hr
  refine ⟨⟨r', e0, e2.trans h1, e3.trans h2, e1.trans h3⟩, fun j hj => ?_, fun j n' hj x hx hx0 => ?_, fun j n' hj => ?_, fun j n' q hj hq => ?_⟩
  · have hjl : j < M.length := by rw [← hM', List.length_set, List.length_set] at hj; exact hj
    obtain ⟨m, hm⟩ := h.up j hjl
    exact up_moved (fun j n hj hn => by obtain ⟨n', a, b, -⟩ := old j n hj hn; exact ⟨n', a, b⟩) upi hm
  · have base : ∀ (n : MN), M[j]? = some n → x ∈ n.inn → x.1 ≠ i → x.2 = [] ∧ ∃ c, M'[x.1]? = some c ∧ c.par = (j : Int) := by
      intro n hn hx hxi
      obtain ⟨b1, c, b2, b3⟩ := h.els j n hn x hx hx0
      obtain ⟨c', d1, d2, -⟩ := old _ c hxi b2
      exact ⟨b1, c', d1, d2.trans b3⟩
    rcases inv j n' hj with ⟨rfl, rfl⟩ | ⟨hji, n, hn, hpa, hin⟩
    · exact base ni hi hx (fun e => hip (alone j ni hi x hx e))
    · rcases hin with ⟨hjp, hin⟩ | hin
      · rw [hin] at hx
        exact base n hn hx (fun e => hjp (alone j n hn x hx e))
      · rw [hin] at hx
        exact base n hn (elx_wo.1 hx).1 (elx_wo.1 hx).2
  · rcases inv j n' hj with ⟨rfl, rfl⟩ | ⟨hji, n, hn, hpa, hin⟩
    · exact h.one j ni hi
    · rcases hin with ⟨-, hin⟩ | hin
      · rw [hin]; exact h.one j n hn
      · rw [hin]
        exact List.Pairwise.sublist ((List.filter_sublist).filter _) (h.one j n hn)
  · rcases inv j n' hj with ⟨rfl, rfl⟩ | ⟨hji, n, hn, hpa, hin⟩
    · have : ((-1 : Int)) = (q : Int) := hq
      omega
    · obtain ⟨nq, b1, x, b2, b3⟩ := h.mem j n q hn (by rw [← hpa]; exact hq)
      by_cases hqi : q = i
      · subst hqi
        rw [hi] at b1
        injection b1 with b1
        subst b1
        exact ⟨_, gi, x, b2, b3⟩
      · obtain ⟨np', c1, -, -, -, c2⟩ := old q nq hqi b1
        refine ⟨np', c1, x, ?_, b3⟩
        rcases c2 with c2 | c2
        · rw [c2]; exact b2
        · rw [c2]; exact elx_wo.2 ⟨b2, by omega⟩

theorem num_self {M : List MN} {i q : Nat} (h : NUM M i q (i : Int)) : False := by
  cases q with
  | zero => have : (i : Int) = -1 := h; omega
  | succ q => obtain ⟨j, n, h1, h2, -⟩ := h; omega

/-- all that stands in a node, moved into another one -/
theorem WF.move {M : List MN} (h : WF M) {k i q : Nat} {nk ni : MN} (hk : M[k]? = some nk) (hi : M[i]? = some ni) (hnu : NUM M i q (k : Int)) :
    k ≠ i ∧ WF (repM k ni.inn ((M.set i { ni with inn := [] }).set k { nk with inn := nk.inn ++ ni.inn })) := by
  have hki : k ≠ i := by rintro rfl; exact num_self hnu
  refine ⟨hki, ?_⟩
  have hkl := (List.getElem?_eq_some_iff.1 hk).1
  have hil := (List.getElem?_eq_some_iff.1 hi).1
  obtain ⟨E, hE⟩ : ∃ E : Nat → Prop, ∀ j, E j ↔ (j ≠ 0 ∧ j ∈ ni.inn.map Prod.fst) := ⟨_, fun _ => Iff.rfl⟩
  -- the elements in i have i as their node
  have epar : ∀ j, E j → ∃ c, M[j]? = some c ∧ c.par = (i : Int) := by
    intro j hj
    obtain ⟨hj0, hj1⟩ := (hE j).1 hj
    obtain ⟨p, hp, rfl⟩ := List.mem_map.1 hj1
    exact (h.els i ni hi p hp hj0).2
  have ei : ¬ E i := by
    intro he
    obtain ⟨c, hc, hcp⟩ := epar i he
    obtain ⟨m, hm⟩ := h.up i hil
    have h2 : Up M (m + 1) (i : Int) := ⟨i, c, rfl, hc, by rw [hcp]; exact hm⟩
    have := hm.uniq h2
    omega
  have ek : ¬ E k := by
    intro he
    obtain ⟨c, hc, hcp⟩ := epar k he
    cases q with
    | zero => have : (k : Int) = -1 := hnu; omega
    | succ q =>
      obtain ⟨j, n, h1, h2, h3, h4⟩ := hnu
      have hj : j = k := by omega
      subst hj
      rw [hc] at h3
      injection h3 with h3
      subst h3
      rw [hcp] at h4
      exact num_self h4
  obtain ⟨B, hB⟩ : ∃ B, (M.set i { ni with inn := [] }).set k { nk with inn := nk.inn ++ ni.inn } = B := ⟨_, rfl⟩
  have bi : B[i]? = some { ni with inn := [] } := by rw [← hB, List.getElem?_set_ne hki, List.getElem?_set_self hil]
  have bk : B[k]? = some { nk with inn := nk.inn ++ ni.inn } := by rw [← hB, List.getElem?_set_self (by rw [List.length_set]; exact hkl)]
  have bo : ∀ j, j ≠ i → j ≠ k → B[j]? = M[j]? := fun j h1 h2 => by rw [← hB, List.getElem?_set_ne (fun e => h2 e.symm), List.getElem?_set_ne (fun e => h1 e.symm)]
  have hBl : B.length = M.length := by rw [← hB, List.length_set, List.length_set]
  obtain ⟨M', hM'⟩ : ∃ M', repM k ni.inn B = M' := ⟨_, rfl⟩
  rw [hB, hM']
  have at1 : ∀ (j : Nat) (n : MN), E j → B[j]? = some n → M'[j]? = some { n with par := (k : Int) } := by
    intro j n he hn
    rw [← hM', repM_at k ni.inn hn, if_pos ((hE j).1 he)]
  have at0 : ∀ (j : Nat) (n : MN), ¬ E j → B[j]? = some n → M'[j]? = some n := by
    intro j n he hn
    rw [← hM', repM_at k ni.inn hn, if_neg (fun e => he ((hE j).2 e))]
  have gi := at0 i _ ei bi
  have gk := at0 k _ ek bk
  -- what each node is, in both
  have old : ∀ (j : Nat) (n : MN), M[j]? = some n → ∃ n', M'[j]? = some n' ∧ n'.nm = n.nm ∧ n'.ats = n.ats ∧ (¬ E j → n'.par = n.par) ∧ (E j → n'.par = (k : Int)) ∧ (j ≠ i → j ≠ k → n'.inn = n.inn) := by
    intro j n hn
    by_cases hji : j = i
    · subst hji
      rw [hi] at hn
      injection hn with hn
      subst hn
      exact ⟨_, gi, rfl, rfl, fun _ => rfl, fun e => absurd e ei, fun e => absurd rfl e⟩
    · by_cases hjk : j = k
      · subst hjk
        rw [hk] at hn
        injection hn with hn
        subst hn
        exact ⟨_, gk, rfl, rfl, fun _ => rfl, fun e => absurd e ek, fun _ e => absurd rfl e⟩
      · have hb : B[j]? = some n := by rw [bo j hji hjk]; exact hn
        by_cases he : E j
        · exact ⟨_, at1 j n he hb, rfl, rfl, fun e => absurd he e, fun _ => rfl, fun _ _ => rfl⟩
        · exact ⟨_, at0 j n he hb, rfl, rfl, fun _ => rfl, fun e => absurd e he, fun _ _ => rfl⟩
  have inv : ∀ (j : Nat) (n' : MN), M'[j]? = some n' → ∃ n, M[j]? = some n ∧ (¬ E j → n'.par = n.par) ∧ (E j → n'.par = (k : Int)) ∧ ((j = i ∧ n'.inn = []) ∨ (j = k ∧ n = nk ∧ n'.inn = nk.inn ++ ni.inn) ∨ (j ≠ i ∧ j ≠ k ∧ n'.inn = n.inn)) := by
    intro j n' hj
    have hjl : j < M.length := by
      have := (List.getElem?_eq_some_iff.1 hj).1
      rw [← hM', repM_len, hBl] at this
      exact this
    obtain ⟨n2, e1, -, -, e2, e3, e4⟩ := old j _ (List.getElem?_eq_getElem hjl)
    rw [hj] at e1
    injection e1 with e1
    subst e1
    refine ⟨_, List.getElem?_eq_getElem hjl, e2, e3, ?_⟩
    by_cases hji : j = i
    · subst hji
      rw [gi] at hj
      injection hj with hj
      subst hj
      exact Or.inl ⟨rfl, rfl⟩
    · by_cases hjk : j = k
      · subst hjk
        rw [gk] at hj
        injection hj with hj
        subst hj
        refine Or.inr (Or.inl ⟨rfl, ?_, rfl⟩)
        have := List.getElem?_eq_getElem hjl
        rw [hk] at this
        injection this with this
        exact this.symm
      · exact Or.inr (Or.inr ⟨hji, hjk, e4 hji hjk⟩)
  have upk : Up M' q (k : Int) := by
    have : ∀ (q : Nat) (x : Int), NUM M i q x → Up M' q x := by
      intro q
      induction q with
      | zero => intro x hx; exact hx
      | succ q ih =>
        intro x hx
        obtain ⟨j, n, h1, h2, h3, h4⟩ := hx
        have he : ¬ E j := by
          intro he
          obtain ⟨c, hc, hcp⟩ := epar j he
          rw [h3] at hc
          injection hc with hc
          subst hc
          rw [hcp] at h4
          exact num_self h4
        obtain ⟨n', e1, -, -, e2, -⟩ := old j n h3
        exact ⟨j, n', h1, e1, by rw [e2 he]; exact ih _ h4⟩
    exact this q _ hnu
  have upall : ∀ (m : Nat) (x : Int), Up M m x → ∃ m', Up M' m' x := by
    intro m
    induction m with
    | zero => intro x hx; exact ⟨0, hx⟩
    | succ m ih =>
      intro x hx
      obtain ⟨j, n, h1, h2, h3⟩ := hx
      obtain ⟨n', e1, -, -, e2, e3, -⟩ := old j n h2
      by_cases he : E j
      · exact ⟨q + 1, j, n', h1, e1, by rw [e3 he]; exact upk⟩
      · obtain ⟨m', hm'⟩ := ih _ h3
        exact ⟨m' + 1, j, n', h1, e1, by rw [e2 he]; exact hm'⟩
  have inE : ∀ p ∈ ni.inn, p.1 ≠ 0 → E p.1 := fun p hp hp0 => (hE _).2 ⟨hp0, List.mem_map.2 ⟨p, hp, rfl⟩⟩
  have e00 : ¬ E 0 := fun e => ((hE 0).1 e).1 rfl
  obtain ⟨r, hr, h1, h2, h3⟩ := h.root
  obtain ⟨r', e0, e1, e2, e3, -, -⟩ := old 0 r hr
  refine ⟨⟨r', e0, e1.trans h1, e2.trans h2, (e3 e00).trans h3⟩, fun j hj => ?_, fun j n' hj p hp hp0 => ?_, fun j n' hj => ?_, fun j n' p hj hp => ?_⟩
  · have hjl : j < M.length := by rw [← hM', repM_len, hBl] at hj; exact hj
    obtain ⟨m, hm⟩ := h.up j hjl
    exact upall m _ hm
  · obtain ⟨n, hn, -, -, hin⟩ := inv j n' hj
    have base : ∀ p ∈ n.inn, p.1 ≠ 0 → j ≠ i → p.2 = [] ∧ ∃ c, M'[p.1]? = some c ∧ c.par = (j : Int) := by
      intro p hp hp0 hji
      obtain ⟨b1, c, b2, b3⟩ := h.els j n hn p hp hp0
      obtain ⟨c', d1, -, -, d2, -⟩ := old _ c b2
      refine ⟨b1, c', d1, (d2 fun he => ?_).trans b3⟩
      obtain ⟨c2, f1, f2⟩ := epar _ he
      rw [b2] at f1
      injection f1 with f1
      subst f1
      rw [b3] at f2
      omega
    rcases hin with ⟨rfl, hin⟩ | ⟨rfl, rfl, hin⟩ | ⟨hji, hjk, hin⟩
    · rw [hin] at hp; cases hp
    · rw [hin] at hp
      rcases List.mem_append.1 hp with hp | hp
      · exact base p hp hp0 hki
      · obtain ⟨b1, c, b2, b3⟩ := h.els i ni hi p hp hp0
        obtain ⟨c', d1, -, -, -, d2, -⟩ := old _ c b2
        exact ⟨b1, c', d1, d2 (inE p hp hp0)⟩
    · rw [hin] at hp
      exact base p hp hp0 hji
  · obtain ⟨n, hn, -, -, hin⟩ := inv j n' hj
    rcases hin with ⟨rfl, hin⟩ | ⟨rfl, rfl, hin⟩ | ⟨hji, hjk, hin⟩
    · rw [hin]; exact List.Pairwise.nil
    · rw [hin, List.filter_append, List.pairwise_append]
      refine ⟨h.one j n hn, h.one i ni hi, fun x hx y hy e => ?_⟩
      have hx' := mem_elx.1 hx
      have hy' := mem_elx.1 hy
      obtain ⟨-, c, c1, c2⟩ := h.els j n hn x hx'.1 hx'.2
      obtain ⟨-, d, d1, d2⟩ := h.els i ni hi y hy'.1 hy'.2
      rw [e, d1] at c1
      injection c1 with c1
      subst c1
      rw [d2] at c2
      omega
    · rw [hin]; exact h.one j n hn
  · obtain ⟨n, hn, hp1, hp2, hin⟩ := inv j n' hj
    by_cases he : E j
    · have hpk : p = k := by rw [hp2 he] at hp; omega
      subst hpk
      obtain ⟨hj0, hj1⟩ := (hE j).1 he
      obtain ⟨x, hx, hxj⟩ := List.mem_map.1 hj1
      exact ⟨_, gk, x, List.mem_append_right _ hx, hxj⟩
    · rw [hp1 he] at hp
      obtain ⟨np, b1, x, b2, b3⟩ := h.mem j n p hn hp
      by_cases hpi : p = i
      · subst hpi
        rw [hi] at b1
        injection b1 with b1
        subst b1
        exfalso
        by_cases hj0 : j = 0
        · subst hj0
          rw [hr] at hn
          injection hn with hn
          subst hn
          rw [h3] at hp
          omega
        · exact he ((hE j).2 ⟨hj0, List.mem_map.2 ⟨x, b2, b3⟩⟩)
      · by_cases hpk : p = k
        · subst hpk
          rw [hk] at b1
          injection b1 with b1
          subst b1
          exact ⟨_, gk, x, List.mem_append_left _ b2, b3⟩
        · obtain ⟨np', c1, -, -, -, -, c2⟩ := old p np b1
          exact ⟨np', c1, x, by rw [c2 hpi hpk]; exact b2, b3⟩
end Go.Proofs.Ytpnjjpbgbdicoaa
