/- Names of characters, as lists of bytes: the document's table, looked through from its front, and the longest front of a text that is a name: both give the same. Nothing here is of the program. -/
import Derived.Lib.Strings
namespace Go.Proofs.YtndcmapifihgeaaGreatDoor.En

/-- the document's table: a name without its semicolon, whether it stands alone, its characters -/
def tabL : List (List UInt8 × Bool × List Nat) := [
  ([65, 77, 80], true, [38]),
  ([71, 84], true, [62]),
  ([76, 84], true, [60]),
  ([81, 85, 79, 84], true, [34]),
  ([97, 109, 112], true, [38]),
  ([99, 111, 112, 121], true, [169]),
  ([100, 101, 103], true, [176]),
  ([100, 105, 118, 105, 100, 101], true, [247]),
  ([103, 116], true, [62]),
  ([108, 116], true, [60]),
  ([110, 98, 115, 112], true, [160]),
  ([110, 111, 116], true, [172]),
  ([112, 97, 114, 97], true, [182]),
  ([113, 117, 111, 116], true, [34]),
  ([114, 101, 103], true, [174]),
  ([115, 101, 99, 116], true, [167]),
  ([116, 105, 109, 101, 115], true, [215]),
  ([121, 101, 110], true, [165]),
  ([78, 101, 119, 76, 105, 110, 101], false, [10]),
  ([84, 97, 98], false, [9]),
  ([97, 99, 69], false, [8766, 819]),
  ([97, 108, 112, 104, 97], false, [945]),
  ([97, 112, 111, 115], false, [39]),
  ([98, 101, 116, 97], false, [946]),
  ([98, 117, 108, 108], false, [8226]),
  ([99, 111, 108, 111, 110], false, [58]),
  ([101, 117, 114, 111], false, [8364]),
  ([103, 101], false, [8805]),
  ([104, 101, 108, 108, 105, 112], false, [8230]),
  ([105, 110, 102, 105, 110], false, [8734]),
  ([108, 100, 113, 117, 111], false, [8220]),
  ([108, 101], false, [8804]),
  ([108, 112, 97, 114], false, [40]),
  ([108, 115, 113, 117, 111], false, [8216]),
  ([109, 100, 97, 115, 104], false, [8212]),
  ([110, 100, 97, 115, 104], false, [8211]),
  ([110, 111, 116, 105, 110], false, [8713]),
  ([110, 118, 108, 116], false, [60, 8402]),
  ([114, 100, 113, 117, 111], false, [8221]),
  ([114, 112, 97, 114], false, [41]),
  ([114, 115, 113, 117, 111], false, [8217]),
  ([115, 111, 108], false, [47]),
  ([116, 114, 97, 100, 101], false, [8482])]

/-- names that stand alone, and what they stand for -/
def mkL : List (List UInt8 × List UInt8) := [
  ([65, 77, 80], [38]),
  ([97, 109, 112], [38]),
  ([71, 84], [62]),
  ([103, 116], [62]),
  ([76, 84], [60]),
  ([108, 116], [60]),
  ([81, 85, 79, 84], [34]),
  ([113, 117, 111, 116], [34]),
  ([99, 111, 112, 121], [194, 169]),
  ([100, 101, 103], [194, 176]),
  ([100, 105, 118, 105, 100, 101], [195, 183]),
  ([110, 98, 115, 112], [194, 160]),
  ([110, 111, 116], [194, 172]),
  ([112, 97, 114, 97], [194, 182]),
  ([114, 101, 103], [194, 174]),
  ([115, 101, 99, 116], [194, 167]),
  ([116, 105, 109, 101, 115], [195, 151]),
  ([121, 101, 110], [194, 165])]

/-- the others -/
def otL : List (List UInt8 × List UInt8) := [
  ([78, 101, 119, 76, 105, 110, 101], [10]),
  ([84, 97, 98], [9]),
  ([97, 99, 69], [226, 136, 190, 204, 179]),
  ([97, 108, 112, 104, 97], [206, 177]),
  ([97, 112, 111, 115], [39]),
  ([98, 101, 116, 97], [206, 178]),
  ([98, 117, 108, 108], [226, 128, 162]),
  ([99, 111, 108, 111, 110], [58]),
  ([101, 117, 114, 111], [226, 130, 172]),
  ([103, 101], [226, 137, 165]),
  ([104, 101, 108, 108, 105, 112], [226, 128, 166]),
  ([105, 110, 102, 105, 110], [226, 136, 158]),
  ([108, 100, 113, 117, 111], [226, 128, 156]),
  ([108, 101], [226, 137, 164]),
  ([108, 112, 97, 114], [40]),
  ([108, 115, 113, 117, 111], [226, 128, 152]),
  ([109, 100, 97, 115, 104], [226, 128, 148]),
  ([110, 100, 97, 115, 104], [226, 128, 147]),
  ([110, 111, 116, 105, 110], [226, 136, 137]),
  ([110, 118, 108, 116], [60, 226, 131, 146]),
  ([114, 100, 113, 117, 111], [226, 128, 157]),
  ([114, 112, 97, 114], [41]),
  ([114, 115, 113, 117, 111], [226, 128, 153]),
  ([115, 111, 108], [47]),
  ([116, 114, 97, 100, 101], [226, 132, 162])]

/-- what a key has in a list of pairs, or nothing -/
def look : List (List UInt8 × List UInt8) → List UInt8 → List UInt8
  | [], _ => []
  | (a, t) :: r, l => if l = a then t else look r l

theorem look_mem {L : List (List UInt8 × List UInt8)} {l : List UInt8} (h : look L l ≠ []) : (l, look L l) ∈ L := by
  induction L with
  | nil => exact absurd rfl h
  | cons p r ih =>
    obtain ⟨a, t⟩ := p
    unfold look at h ⊢
    by_cases hl : l = a
    · simp [hl]
    · simp only [hl, if_false] at h ⊢
      exact List.mem_cons_of_mem _ (ih h)

/-- all names, each with its text -/
def nmL : List (List UInt8 × List UInt8) :=
  mkL.map (fun p => (p.1 ++ [59], p.2)) ++ mkL ++ otL.map (fun p => (p.1 ++ [59], p.2))

/-- has it a semicolon at its end? -/
def semi (l : List UInt8) : Bool := [(59 : UInt8)].isSuffixOf l

/-- .. without it -/
def bare (l : List UInt8) : List UInt8 := if semi l = true then l.take (l.length - 1) else l

/-- what a name stands for -/
def mean (l : List UInt8) : List UInt8 :=
  if look mkL (bare l) ≠ [] ∨ semi l = false then look mkL (bare l) else look otL (bare l)

theorem semi_bare {l : List UInt8} (h : semi l = true) : bare l ++ [59] = l := by
  unfold bare
  rw [if_pos h]
  unfold semi at h
  rw [List.isSuffixOf_iff_suffix] at h
  obtain ⟨t, rfl⟩ := h
  simp

theorem mean_mem {l : List UInt8} (h : mean l ≠ []) : (l, mean l) ∈ nmL := by
  unfold mean at h ⊢
  split at h
  · rename_i hc
    rw [if_pos hc]
    have hm := look_mem h
    cases hs : semi l with
    | true =>
      refine List.mem_append_left _ (List.mem_append_left _ (List.mem_map.2 ⟨_, hm, ?_⟩))
      simp only [semi_bare hs]
    | false =>
      refine List.mem_append_left _ (List.mem_append_right _ ?_)
      have hb : bare l = l := by unfold bare; rw [hs]; rfl
      rw [hb] at hm ⊢
      exact hm
  · rename_i hc
    rw [if_neg hc]
    have hs : semi l = true := by
      cases hs : semi l with
      | true => rfl
      | false => exact absurd (Or.inr hs) hc
    refine List.mem_append_right _ (List.mem_map.2 ⟨_, look_mem h, ?_⟩)
    simp only [semi_bare hs]

set_option maxRecDepth 100000 in
theorem nm_facts : ∀ p ∈ nmL, mean p.1 = p.2 ∧ p.2 ≠ [] ∧ 0 < p.1.length ∧ p.1.length ≤ 8 := by decide

/-- the longest front that is a name, from so many bytes down -/
def findGo (l : List UInt8) : Nat → Nat × List UInt8
  | 0 => (0, [])
  | n + 1 => if mean (l.take (n + 1)) ≠ [] then (n + 1, mean (l.take (n + 1))) else findGo l n

def findL (l : List UInt8) : Nat × List UInt8 := findGo l (min l.length 8)

/-- what is to be found -/
def IsF (l : List UInt8) (n : Nat) (t : List UInt8) : Prop :=
  (n = 0 ∧ t = [] ∧ ∀ p ∈ nmL, ¬ p.1 <+: l) ∨ ((l.take n, t) ∈ nmL ∧ n ≤ l.length ∧ ∀ p ∈ nmL, p.1 <+: l → p.1.length ≤ n)

theorem IsF.one {l : List UInt8} {n m : Nat} {t u : List UInt8} (h : IsF l n t) (k : IsF l m u) : (n, t) = (m, u) := by
  rcases h with ⟨rfl, rfl, h⟩ | ⟨h1, h2, h3⟩
  · rcases k with ⟨rfl, rfl, -⟩ | ⟨k1, -, -⟩
    · rfl
    · exact absurd (List.take_prefix m l) (h _ k1)
  · rcases k with ⟨-, -, k⟩ | ⟨k1, k2, k3⟩
    · exact absurd (List.take_prefix n l) (k _ h1)
    · have a := h3 _ k1 (List.take_prefix m l)
      have b := k3 _ h1 (List.take_prefix n l)
      simp only [List.length_take] at a b
      have : n = m := by omega
      subst this
      have e1 := (nm_facts _ h1).1
      have e2 := (nm_facts _ k1).1
      simp only at e1 e2
      rw [← e1, ← e2]

theorem findGo_is (l : List UInt8) : ∀ k, k ≤ l.length → (∀ p ∈ nmL, p.1 <+: l → p.1.length ≤ k) → IsF l (findGo l k).1 (findGo l k).2
  | 0, _, h => Or.inl ⟨rfl, rfl, fun p hp hl => by have := h p hp hl; have := (nm_facts p hp).2.2.1; omega⟩
  | k + 1, hk, h => by
    unfold findGo
    split
    · rename_i hm
      exact Or.inr ⟨mean_mem hm, hk, h⟩
    · rename_i hm
      refine findGo_is l k (by omega) fun p hp hl => ?_
      have h1 := h p hp hl
      rcases Nat.lt_or_ge p.1.length (k + 1) with h2 | h2
      · omega
      · exfalso
        have e : p.1.length = k + 1 := by omega
        have e1 : l.take (k + 1) = p.1 := by rw [← e]; exact (List.prefix_iff_eq_take.1 hl).symm
        apply hm
        rw [e1, (nm_facts p hp).1]
        exact (nm_facts p hp).2.1

theorem findL_is (l : List UInt8) : IsF l (findL l).1 (findL l).2 :=
  findGo_is l _ (by omega) fun p hp hl => by
    have := (nm_facts p hp).2.2.2
    have := hl.length_le
    omega

/-- does a text begin with another one? -/
def begs (l p : List UInt8) : Bool := decide (p.length ≤ l.length) && (l.take p.length == p)

theorem begs_iff (l p : List UInt8) : begs l p = true ↔ p <+: l := by
  unfold begs
  simp only [Bool.and_eq_true, decide_eq_true_eq, beq_iff_eq]
  constructor
  · rintro ⟨-, h⟩
    exact List.prefix_iff_eq_take.2 h.symm
  · intro h
    exact ⟨h.length_le, (List.prefix_iff_eq_take.1 h).symm⟩

/-- a character in UTF-8 -/
def utfN (c : Nat) : List UInt8 :=
  if c < 128 then [UInt8.ofNat c]
  else if c < 2048 then [UInt8.ofNat (192 + c / 64), UInt8.ofNat (128 + c % 64)]
  else if c < 65536 then [UInt8.ofNat (224 + c / 4096), UInt8.ofNat (128 + c / 64 % 64), UInt8.ofNat (128 + c % 64)]
  else [UInt8.ofNat (240 + c / 262144), UInt8.ofNat (128 + c / 4096 % 64), UInt8.ofNat (128 + c / 64 % 64), UInt8.ofNat (128 + c % 64)]

def textN (cs : List Nat) : List UInt8 := cs.flatMap utfN

/-- one entry of the table -/
def rstep (l : List UInt8) (s : Nat × List UInt8) (e : List UInt8 × Bool × List Nat) : Nat × List UInt8 :=
  if begs l (e.1 ++ [59]) = true ∧ s.1 < e.1.length + 1 then (e.1.length + 1, textN e.2.2)
  else if e.2.1 = true ∧ begs l e.1 = true ∧ s.1 < e.1.length then (e.1.length, textN e.2.2)
  else s

def refL (l : List UInt8) : Nat × List UInt8 := tabL.foldl (rstep l) (0, [])

set_option maxRecDepth 100000 in
theorem tab_facts : ∀ e ∈ tabL, (e.1 ++ [59], textN e.2.2) ∈ nmL ∧ (e.2.1 = true → (e.1, textN e.2.2) ∈ nmL) := by decide

set_option maxRecDepth 100000 in
theorem nm_tab : ∀ p ∈ nmL, ∃ e ∈ tabL, p.1 = e.1 ++ [59] ∨ (e.2.1 = true ∧ p.1 = e.1) := by decide

def Inv (l : List UInt8) (done : List (List UInt8 × Bool × List Nat)) (s : Nat × List UInt8) : Prop :=
  (s = (0, []) ∨ ((l.take s.1, s.2) ∈ nmL ∧ s.1 ≤ l.length)) ∧
  ∀ e ∈ done, (begs l (e.1 ++ [59]) = true → e.1.length + 1 ≤ s.1) ∧ (e.2.1 = true → begs l e.1 = true → e.1.length ≤ s.1)

theorem begs_take {l p : List UInt8} (h : begs l p = true) : l.take p.length = p ∧ p.length ≤ l.length := by
  have := (begs_iff l p).1 h
  exact ⟨(List.prefix_iff_eq_take.1 this).symm, this.length_le⟩

theorem Inv.step {l : List UInt8} {done : List (List UInt8 × Bool × List Nat)} {s : Nat × List UInt8} (h : Inv l done s) {e : List UInt8 × Bool × List Nat} (he : e ∈ tabL) : Inv l (done ++ [e]) (rstep l s e) := by
  obtain ⟨h1, h2⟩ := h
  obtain ⟨t1, t2⟩ := tab_facts e he
  unfold rstep
  split
  · rename_i hc
    obtain ⟨c1, c2⟩ := hc
    have hb := begs_take c1
    simp only [List.length_append, List.length_cons, List.length_nil] at hb
    refine ⟨Or.inr ⟨?_, ?_⟩, ?_⟩
    · simp only
      have := hb.1
      simp only [Nat.zero_add] at this
      rw [this]
      exact t1
    · simp only; omega
    · intro x hx
      rcases List.mem_append.1 hx with hx | hx
      · have := h2 x hx
        simp only
        exact ⟨fun a => by have := this.1 a; omega, fun a b => by have := this.2 a b; omega⟩
      · simp only [List.mem_singleton] at hx
        subst hx
        simp only
        exact ⟨fun _ => Nat.le_refl _, fun _ _ => by omega⟩
  · rename_i hc
    split
    · rename_i hd
      obtain ⟨d1, d2, d3⟩ := hd
      have hb := begs_take d2
      refine ⟨Or.inr ⟨?_, hb.2⟩, ?_⟩
      · simp only
        rw [hb.1]
        exact t2 d1
      · intro x hx
        rcases List.mem_append.1 hx with hx | hx
        · have := h2 x hx
          simp only
          exact ⟨fun a => by have := this.1 a; omega, fun a b => by have := this.2 a b; omega⟩
        · simp only [List.mem_singleton] at hx
          subst hx
          simp only
          refine ⟨fun a => ?_, fun _ _ => Nat.le_refl _⟩
          exfalso
          exact hc ⟨a, by omega⟩
    · rename_i hd
      refine ⟨h1, ?_⟩
      intro x hx
      rcases List.mem_append.1 hx with hx | hx
      · exact h2 x hx
      · simp only [List.mem_singleton] at hx
        subst hx
        refine ⟨fun a => ?_, fun a b => ?_⟩
        · rcases Nat.lt_or_ge s.1 (x.1.length + 1) with hlt | hge
          · exact absurd ⟨a, hlt⟩ hc
          · exact hge
        · rcases Nat.lt_or_ge s.1 x.1.length with hlt | hge
          · exact absurd ⟨a, b, hlt⟩ hd
          · exact hge

theorem Inv.fold {l : List UInt8} : ∀ (r done : List (List UInt8 × Bool × List Nat)) (s : Nat × List UInt8), Inv l done s → (∀ e ∈ r, e ∈ tabL) → Inv l (done ++ r) (r.foldl (rstep l) s)
  | [], done, s, h, _ => by simpa using h
  | e :: r, done, s, h, hr => by
    have := Inv.fold r (done ++ [e]) _ (h.step (hr e (List.mem_cons_self ..))) fun x hx => hr x (List.mem_cons_of_mem _ hx)
    simpa using this

theorem refL_is (l : List UInt8) : IsF l (refL l).1 (refL l).2 := by
  have h := Inv.fold (l := l) tabL [] (0, []) ⟨Or.inl rfl, by simp⟩ fun _ h => h
  rw [List.nil_append] at h
  change Inv l tabL (refL l) at h
  obtain ⟨h1, h2⟩ := h
  have hmax : ∀ p ∈ nmL, p.1 <+: l → p.1.length ≤ (refL l).1 := by
    intro p hp hl
    obtain ⟨e, he, hor⟩ := nm_tab p hp
    have hb := (begs_iff l p.1).2 hl
    rcases hor with hq | ⟨ha, hq⟩
    · rw [hq] at hb ⊢
      have := (h2 e he).1 hb
      simpa using this
    · rw [hq] at hb ⊢
      exact (h2 e he).2 ha hb
  rcases h1 with h1 | h1
  · refine Or.inl ⟨by rw [h1], by rw [h1], fun p hp hl => ?_⟩
    have a := hmax p hp hl
    have b := (nm_facts p hp).2.2.1
    rw [h1] at a
    simp only at a
    omega
  · exact Or.inr ⟨h1.1, h1.2, hmax⟩

/-- BOTH GIVE THE SAME. -/
theorem ref_find (l : List UInt8) : refL l = findL l := (refL_is l).one (findL_is l)

end Go.Proofs.YtndcmapifihgeaaGreatDoor.En
