/- What is added one by one: each name once, with its first value. No program here. -/
import Derived.Test.YtndcmapifihgeaaGreatDoorAtLGets
namespace Go.Proofs.YtndcmapifihgeaaGreatDoor.At

def names (L : List At) : List Str := L.map (·.1)
theorem names_append (L M : List At) : names (L ++ M) = names L ++ names M := List.map_append

theorem get_none_iff : ∀ (L : List At) (n : Str), get L n = none ↔ n ∉ names L
  | [], n => by simp [get, names]
  | a :: r, n => by
    have ih := get_none_iff r n
    by_cases h : a.1 = n
    · rw [get_hit h]
      simp [names, h]
    · rw [get_miss h, ih]
      unfold names
      simp only [List.map_cons, List.mem_cons, not_or]
      constructor
      · exact fun k => ⟨fun e => h e.symm, k⟩
      · exact fun k => k.2

theorem add_in {L : List At} {x : At} (h : x.1 ∈ names L) : add L x = L := by
  cases hg : get L x.1 with
  | none => exact absurd h ((get_none_iff L x.1).1 hg)
  | some v => exact add_some hg
theorem add_out {L : List At} {x : At} (h : x.1 ∉ names L) : add L x = L ++ [x] := add_none ((get_none_iff L x.1).2 h)

theorem add_nodup {L : List At} (x : At) (h : (names L).Nodup) : (names (add L x)).Nodup := by
  by_cases hx : x.1 ∈ names L
  · rw [add_in hx]; exact h
  · rw [add_out hx, names_append, List.nodup_append]
    refine ⟨h, by simp [names], ?_⟩
    intro a ha b hb e
    simp [names] at hb
    subst hb
    rw [e] at ha
    exact hx ha

theorem add_mem (L : List At) (x : At) (n : Str) : n ∈ names (add L x) ↔ n ∈ names L ∨ n = x.1 := by
  by_cases hx : x.1 ∈ names L
  · rw [add_in hx]
    exact ⟨Or.inl, fun h => h.elim id (fun e => e ▸ hx)⟩
  · rw [add_out hx, names_append, List.mem_append]
    simp [names]

def ads (L : List At) : List At := L.foldl add []

theorem fold_nodup : ∀ (L acc : List At), (names acc).Nodup → (names (L.foldl add acc)).Nodup
  | [], _, h => h
  | x :: r, acc, h => fold_nodup r (add acc x) (add_nodup x h)
theorem ads_nodup (L : List At) : (names (ads L)).Nodup := fold_nodup L [] (by simp [names])

theorem fold_mem : ∀ (L acc : List At) (n : Str), n ∈ names (L.foldl add acc) ↔ n ∈ names acc ∨ n ∈ names L
  | [], acc, n => by simp [names]
  | x :: r, acc, n => by
    rw [List.foldl_cons, fold_mem r (add acc x) n, add_mem]
    simp [names, or_assoc]
theorem ads_mem (L : List At) (n : Str) : n ∈ names (ads L) ↔ n ∈ names L := by
  unfold ads
  rw [fold_mem]
  simp [names]

theorem get_add (L : List At) (x : At) (n : Str) : get (add L x) n = (match get L n with | some v => some v | none => if x.1 = n then some x.2 else none) := by
  by_cases h : x.1 = n
  · subst h
    cases hg : get L x.1 with
    | some v => rw [get_add_some hg]
    | none => rw [get_add_none hg]; simp
  · rw [get_add_other h]
    cases get L n with
    | some v => rfl
    | none => simp [h]
theorem fold_get : ∀ (L acc : List At) (n : Str), get (L.foldl add acc) n = (match get acc n with | some v => some v | none => get L n)
  | [], acc, n => by
    show get acc n = _
    cases get acc n <;> rfl
  | x :: r, acc, n => by
    rw [List.foldl_cons, fold_get r (add acc x) n, get_add]
    cases get acc n with
    | some v => rfl
    | none =>
      by_cases h : x.1 = n
      · rw [if_pos h, get_hit h]
      · rw [if_neg h, get_miss h]
theorem ads_get (L : List At) (n : Str) : get (ads L) n = get L n := by
  unfold ads
  rw [fold_get]
  rfl

theorem nodup_get : ∀ {M : List At} {x : At}, (names M).Nodup → x ∈ M → get M x.1 = some x.2
  | [], _, _, h => absurd h (by simp)
  | a :: r, x, hn, h => by
    have hn' : a.1 ∉ names r ∧ (names r).Nodup := List.nodup_cons.1 hn
    rcases List.mem_cons.1 h with rfl | hr
    · exact get_hit rfl
    · have hne : a.1 ≠ x.1 := by
        intro e
        apply hn'.1
        rw [e]
        exact List.mem_map_of_mem hr
      rw [get_miss hne]
      exact nodup_get hn'.2 hr

theorem ads_first {L : List At} {x : At} (h : x ∈ ads L) : get L x.1 = some x.2 := by
  rw [← ads_get]
  exact nodup_get (ads_nodup L) h

theorem within_of {L M : List At} (h : ∀ x, x ∈ L → get M x.1 = some x.2) : within L M = true := by
  unfold within
  rw [List.all_eq_true]
  intro x hx
  unfold has
  rw [h x hx]
  simp
theorem same_self {M : List At} (h : (names M).Nodup) : same M M = true := by
  rw [same_in rfl, within_of fun x hx => nodup_get h hx]
  rfl

theorem nodup_len : ∀ {A B : List Str}, A.Nodup → (∀ a, a ∈ A → a ∈ B) → A.length ≤ B.length
  | [], _, _, _ => Nat.zero_le _
  | a :: r, B, hn, h => by
    have hn' := List.nodup_cons.1 hn
    have ha : a ∈ B := h a (by simp)
    have hlen := List.length_erase_of_mem ha
    have hpos : 0 < B.length := List.length_pos_of_mem ha
    have := nodup_len (A := r) (B := B.erase a) hn'.2 (fun c hc => (List.mem_erase_of_ne (a := c) (b := a) (fun e => hn'.1 (by rw [← e]; exact hc))).2 (h c (by simp [hc])))
    simp only [List.length_cons]
    omega

theorem names_len (L : List At) : (names L).length = L.length := by simp [names]

theorem ads_len_le (L M : List At) (h : ∀ n, n ∈ names L → n ∈ names M) : (ads L).length ≤ (ads M).length := by
  rw [← names_len (ads L), ← names_len (ads M)]
  exact nodup_len (ads_nodup L) (fun a ha => (ads_mem M a).2 (h a ((ads_mem L a).1 ha)))
theorem ads_rev (L : List At) : (ads L).length = (ads L.reverse).length := by
  have e : ∀ n, n ∈ names L ↔ n ∈ names L.reverse := by intro n; simp [names]
  exact Nat.le_antisymm (ads_len_le _ _ fun n => (e n).1) (ads_len_le _ _ fun n => (e n).2)

theorem fold_len : ∀ (L acc : List At), (L.foldl add acc).length ≤ acc.length + L.length
  | [], acc => by simp
  | x :: r, acc => by
    have := fold_len r (add acc x)
    have := (add_len acc x).2
    simp only [List.foldl_cons, List.length_cons]
    omega
theorem ads_le (L : List At) : (ads L).length ≤ L.length := by have := fold_len L []; simpa [ads] using this

theorem fold_all : ∀ (L acc : List At), (L.foldl add acc).length = acc.length + L.length → L.foldl add acc = acc ++ L
  | [], acc, _ => by simp
  | x :: r, acc, h => by
    have h1 := fold_len r (add acc x)
    have h2 := (add_len acc x).2
    simp only [List.foldl_cons, List.length_cons] at h ⊢
    have h3 : (add acc x).length = acc.length + 1 := by omega
    have h4 : add acc x = acc ++ [x] := by
      by_cases hx : x.1 ∈ names acc
      · rw [add_in hx] at h3; omega
      · exact add_out hx
    have ih := fold_all r (add acc x) (by omega)
    rw [ih, h4]
    simp
theorem fold_nodup_all : ∀ (L acc : List At), (names (acc ++ L)).Nodup → L.foldl add acc = acc ++ L
  | [], acc, _ => by simp
  | x :: r, acc, h => by
    have hx : x.1 ∉ names acc := by
      rw [names_append, List.nodup_append] at h
      intro hm
      exact h.2.2 _ hm x.1 (by simp [names]) rfl
    rw [List.foldl_cons, add_out hx]
    have e : acc ++ x :: r = (acc ++ [x]) ++ r := by simp
    rw [e] at h ⊢
    exact fold_nodup_all r (acc ++ [x]) h

theorem names_rev_nodup {L : List At} (h : (names L).Nodup) : (names L.reverse).Nodup := by
  unfold names at *
  rw [List.map_reverse]
  unfold List.Nodup at *
  rw [List.pairwise_reverse]
  exact h.imp fun k e => k e.symm

theorem ads_same {L : List At} (h : (ads L).length = L.length) : same (ads L) (ads L.reverse) = true := by
  have h1 : ads L = L := by
    have := fold_all L [] (by simpa [ads] using h)
    simpa [ads] using this
  have hn : (names L).Nodup := by have := ads_nodup L; rwa [h1] at this
  have hr := names_rev_nodup hn
  have h2 : ads L.reverse = L.reverse := by
    have := fold_nodup_all L.reverse [] (by simpa using hr)
    simpa [ads] using this
  rw [h1, h2, same_in (by simp), within_of (fun x hx => nodup_get hr (List.mem_reverse.2 hx)), within_of (fun x hx => nodup_get hn (List.mem_reverse.1 hx))]
  rfl

theorem ads_snoc (L : List At) (x : At) : ads (L ++ [x]) = add (ads L) x := by unfold ads; rw [List.foldl_append]; rfl
theorem ads_take {L : List At} {k : Nat} (h : k < L.length) : ads (L.take (k + 1)) = add (ads (L.take k)) (at0 L k) := by rw [take_snoc h, ads_snoc]
theorem at0_rev {L : List At} {k : Nat} (h : k < L.length) : at0 L.reverse k = at0 L (L.length - 1 - k) := by
  unfold at0
  rw [List.getD_eq_getElem?_getD, List.getD_eq_getElem?_getD, List.getElem?_reverse h]
theorem ads_take_rev {L : List At} {k : Nat} (h : k < L.length) : ads (L.reverse.take (k + 1)) = add (ads (L.reverse.take k)) (at0 L (L.length - 1 - k)) := by
  rw [ads_take (by simpa using h), at0_rev h]
theorem ads_take_le {L : List At} {k : Nat} (h : k ≤ L.length) : (ads (L.take k)).length ≤ k := by
  have := ads_le (L.take k)
  simp at this
  omega
theorem ads_take_rev_le {L : List At} {k : Nat} (h : k ≤ L.length) : (ads (L.reverse.take k)).length ≤ k := ads_take_le (by simpa using h)
end Go.Proofs.YtndcmapifihgeaaGreatDoor.At
