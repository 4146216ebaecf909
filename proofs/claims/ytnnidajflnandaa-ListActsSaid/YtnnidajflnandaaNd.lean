/- Nodes as a forest: the mathematics of how many there are, and how deep; and how nodes lie in memory. -/
import Derived.Test.YtnnidajflnandaaAtApp
namespace Go.Proofs.Ytnnidajflnandaa
open Go.RowKit Go.Lib
open At (Str cellsA cellsA_len Sl)

/-- nodes one behind the other: the first one's name, attributes, text, what stands in it; and the others -/
inductive F : Type where
  | nil : F
  | cons (nm : List UInt8) (ats : List At.At) (tx : List UInt8) (inn rest : F) : F

namespace F
def len : F → Nat
  | nil => 0
  | cons _ _ _ _ rest => rest.len + 1
def many : F → Nat
  | nil => 0
  | cons _ _ _ inn rest => inn.many + rest.many + 1
def deep : F → Nat
  | nil => 0
  | cons _ _ _ inn rest => max (inn.deep + 1) rest.deep
/-- how much there is in all -/
def atw : List At.At → Nat
  | [] => 0
  | a :: l => a.1.length + a.2.length + 3 + atw l
def wt : F → Nat
  | nil => 0
  | cons nm ats tx inn rest => nm.length + atw ats + tx.length + inn.wt + rest.wt + 5
def app : F → F → F
  | nil, g => g
  | cons nm ats tx inn rest, g => cons nm ats tx inn (rest.app g)

theorem len_many (f : F) : f.len ≤ f.many := by
  induction f with
  | nil => exact Nat.le_refl _
  | cons nm ats tx inn rest h1 h2 => simp only [len, many]; omega
theorem deep_many (f : F) : f.deep ≤ f.many := by
  induction f with
  | nil => exact Nat.le_refl _
  | cons nm ats tx inn rest h1 h2 => simp only [deep, many]; omega
theorem many_wt (f : F) : f.many ≤ f.wt := by
  induction f with
  | nil => exact Nat.le_refl _
  | cons nm ats tx inn rest h1 h2 => simp only [wt, many]; omega
theorem len_wt (f : F) : f.len ≤ f.wt := Nat.le_trans f.len_many f.many_wt
theorem deep_wt (f : F) : f.deep ≤ f.wt := Nat.le_trans f.deep_many f.many_wt
theorem len5 (f : F) : f.len * 5 ≤ f.wt := by
  induction f with
  | nil => exact Nat.le_refl _
  | cons nm ats tx inn rest h1 h2 => simp only [wt, len]; omega
theorem atw_len (l : List At.At) : l.length * 3 ≤ atw l := by
  induction l with
  | nil => exact Nat.le_refl _
  | cons a l ih => simp only [atw, List.length_cons]; omega
theorem len_zero {f : F} (h : f.len = 0) : f = nil := by
  cases f with
  | nil => rfl
  | cons => simp [len] at h
theorem deep_zero {f : F} : f.deep = 0 ↔ f.len = 0 := by
  cases f with
  | nil => simp [len, deep]
  | cons => simp [len, deep]
theorem app_nil (f : F) : f.app nil = f := by
  induction f with
  | nil => rfl
  | cons nm ats tx inn rest h1 h2 => simp only [app, h2]
theorem app_assoc (f g h : F) : (f.app g).app h = f.app (g.app h) := by
  induction f with
  | nil => rfl
  | cons nm ats tx inn rest h1 h2 => simp only [app, h2]
theorem app_len (f g : F) : (f.app g).len = f.len + g.len := by
  induction f with
  | nil => simp [app, len]
  | cons nm ats tx inn rest h1 h2 => simp only [app, len, h2]; omega
theorem app_many (f g : F) : (f.app g).many = f.many + g.many := by
  induction f with
  | nil => simp [app, many]
  | cons nm ats tx inn rest h1 h2 => simp only [app, many, h2]; omega
theorem app_deep (f g : F) : (f.app g).deep = max f.deep g.deep := by
  induction f with
  | nil => simp [app, deep]
  | cons nm ats tx inn rest h1 h2 => simp only [app, deep, h2]; omega
theorem app_wt (f g : F) : (f.app g).wt = f.wt + g.wt := by
  induction f with
  | nil => simp [app, wt]
  | cons nm ats tx inn rest h1 h2 => simp only [app, wt, h2]; omega
end F

/-- no list in it is too long -/
def F.small (N : Nat) : F → Prop
  | .nil => True
  | .cons _ ats _ inn rest => ats.length ≤ N ∧ inn.len ≤ N ∧ inn.small N ∧ rest.small N


theorem F.small_app {N : Nat} : ∀ {d g : F}, (d.app g).small N → g.small N
  | .nil, _, h => h
  | .cons _ _ _ _ rest, _, h => F.small_app (d := rest) h.2.2.2

/-- a slice that may be nil: its address and its capacity fit its length -/
def Fits (n : Nat) (a : Option Addr) (c : Nat) : Prop := n ≤ c ∧ (a = none → n = 0 ∧ c = 0)

/-- what nodes' cells hold: names, texts, and slices whose blocks have P -/
def NV (w : World) (P : Nat → Prop) : F → List Value → Prop
  | .nil, us => us = []
  | .cons nm ats tx inn rest, us => ∃ a c a' c' vs us', us = .string ⟨nm.toArray⟩ :: .slice a ats.length c :: .string ⟨tx.toArray⟩ :: .slice a' inn.len c' :: us' ∧
      (Sl ats a c w ∧ (ats ≠ [] → ∀ ad, a = some ad → P ad.block)) ∧
      (Fits inn.len a' c' ∧ (inn = .nil ∨ ∃ b off, a' = some ⟨b, off, none⟩ ∧ P b ∧ ∀ (j : Nat) (u : Value), vs[j]? = some u → w.cell? ⟨b, off + j, none⟩ = some u)) ∧
      NV w P inn vs ∧ NV w P rest us'

/-- nodes in a slice -/
def NSl (w : World) (P : Nat → Prop) (f : F) (a : Option Addr) (c : Nat) : Prop :=
  Fits f.len a c ∧ (f = .nil ∨ ∃ b off us, a = some ⟨b, off, none⟩ ∧ P b ∧ (∀ (j : Nat) (u : Value), us[j]? = some u → w.cell? ⟨b, off + j, none⟩ = some u) ∧ NV w P f us)

theorem NV.len {w : World} {P : Nat → Prop} : ∀ {f : F} {us : List Value}, NV w P f us → us.length = f.len * 4
  | .nil, _, h => by simp only [NV] at h; subst h; rfl
  | .cons _ _ _ _ _, _, h => by
    simp only [NV] at h
    obtain ⟨a, c, a', c', vs, us', rfl, -, -, -, hr⟩ := h
    have := hr.len
    simp only [List.length_cons, F.len]
    omega

theorem NV.one {w : World} {P : Nat → Prop} : ∀ {f : F} {us : List Value}, NV w P f us → ∀ u ∈ us, u.oneCell' = true
  | .nil, _, h => by simp only [NV] at h; subst h; intro u hu; cases hu
  | .cons _ _ _ _ _, _, h => by
    simp only [NV] at h
    obtain ⟨a, c, a', c', vs, us', rfl, -, -, -, hr⟩ := h
    intro u hu
    simp only [List.mem_cons] at hu
    rcases hu with rfl | rfl | rfl | rfl | hu
    · rfl
    · rfl
    · rfl
    · rfl
    · exact hr.one u hu

/-- one node behind others -/
theorem NV.append {w : World} {P : Nat → Prop} {g : F} {vs : List Value} (hg : NV w P g vs) : ∀ {f : F} {us : List Value}, NV w P f us → NV w P (f.app g) (us ++ vs)
  | .nil, _, h => by simp only [NV] at h; subst h; exact hg
  | .cons _ _ _ _ _, _, h => by
    simp only [NV] at h
    obtain ⟨a, c, a', c', ws, us', rfl, h1, h2, h3, hr⟩ := h
    exact ⟨a, c, a', c', ws, us' ++ vs, rfl, h1, h2, h3, hg.append hr⟩

theorem sl_kept {L : List At.At} {a : Option Addr} {c : Nat} {w w' : World} (h : Sl L a c w) (hp : L ≠ [] → ∀ ad, a = some ad → w'.heap[ad.block]? = w.heap[ad.block]?) : Sl L a c w' := by
  obtain ⟨h1, h2, h3⟩ := h
  refine ⟨h1, h2, ?_⟩
  rcases h3 with h3 | ⟨b, off, rfl, hc⟩
  · exact Or.inl h3
  · by_cases hL : L = []
    · exact Or.inl hL
    · exact Or.inr ⟨b, off, rfl, hc.block (hp hL _ rfl)⟩

theorem NV.kept {w w' : World} {P : Nat → Prop} (hP : ∀ b, P b → w'.heap[b]? = w.heap[b]?) : ∀ {f : F} {us : List Value}, NV w P f us → NV w' P f us
  | .nil, _, h => h
  | .cons _ _ _ _ _, _, h => by
    simp only [NV] at h
    obtain ⟨a, c, a', c', vs, us', rfl, ⟨h1, h1'⟩, ⟨h2, h3⟩, hi, hr⟩ := h
    refine ⟨a, c, a', c', vs, us', rfl, ⟨sl_kept h1 fun hL ad ha => hP _ (h1' hL ad ha), h1'⟩, ⟨h2, ?_⟩, NV.kept hP hi, NV.kept hP hr⟩
    rcases h3 with h3 | ⟨b, off, rfl, hb, hc⟩
    · exact Or.inl h3
    · exact Or.inr ⟨b, off, rfl, hb, fun j u hj => (World.cell?_of_block (hP b hb)).trans (hc j u hj)⟩

theorem NV.mono {w : World} {P Q : Nat → Prop} (hPQ : ∀ b, P b → b < w.heap.size → Q b) : ∀ {f : F} {us : List Value}, NV w P f us → NV w Q f us
  | .nil, _, h => h
  | .cons _ ats _ inn _, _, h => by
    simp only [NV] at h
    obtain ⟨a, c, a', c', vs, us', rfl, ⟨h1, h1'⟩, ⟨h2, h3⟩, hi, hr⟩ := h
    refine ⟨a, c, a', c', vs, us', rfl, ⟨h1, fun hL ad ha => hPQ _ (h1' hL ad ha) ?_⟩, ⟨h2, ?_⟩, NV.mono hPQ hi, NV.mono hPQ hr⟩
    · obtain ⟨-, -, h | ⟨b, off, hb, hc⟩⟩ := h1
      · exact absurd h hL
      · obtain rfl : ad = ⟨b, off, none⟩ := by rw [ha] at hb; injection hb
        have hpos : 0 < ats.length := List.length_pos_iff.2 hL
        exact World.block_lt_of_cell? w _ (hc 0 hpos).1
    · rcases h3 with h3 | ⟨b, off, rfl, hb, hc⟩
      · exact Or.inl h3
      · by_cases hn : inn = .nil
        · exact Or.inl hn
        · refine Or.inr ⟨b, off, rfl, hPQ b hb ?_, hc⟩
          have hl := hi.len
          have hpos : 0 < inn.len := Nat.pos_of_ne_zero fun h => hn (F.len_zero h)
          obtain ⟨u, hu⟩ : ∃ u, vs[0]? = some u := ⟨vs[0]'(by omega), List.getElem?_eq_getElem (by omega)⟩
          exact World.block_lt_of_cell? w _ (hc 0 u hu)

theorem NV.lt {w : World} {P : Nat → Prop} {f : F} {us : List Value} (h : NV w P f us) : NV w (fun b => P b ∧ b < w.heap.size) f us := NV.mono (fun _ hb hl => ⟨hb, hl⟩) h

theorem NV.below {w w' : World} {P : Nat → Prop} {f : F} {us : List Value} (h : NV w P f us) (hb : Below w.heap.size w w') : NV w' P f us :=
  NV.mono (fun _ h _ => h.1) (NV.kept (fun b hb' => hb.block b hb'.2) h.lt)

theorem NSl.below {w w' : World} {P : Nat → Prop} {f : F} {a : Option Addr} {c : Nat} (h : NSl w P f a c) (hb : Below w.heap.size w w') : NSl w' P f a c := by
  obtain ⟨h1, h2⟩ := h
  refine ⟨h1, ?_⟩
  rcases h2 with h2 | ⟨b, off, us, rfl, hp, hc, hv⟩
  · exact Or.inl h2
  · by_cases hn : f = .nil
    · exact Or.inl hn
    · refine Or.inr ⟨b, off, us, rfl, hp, fun j u hj => ?_, hv.below hb⟩
      have := hc j u hj
      exact (World.cell?_of_block (hb.block b (World.block_lt_of_cell? w _ this))).trans this

theorem NSl.mono {w : World} {P Q : Nat → Prop} (hPQ : ∀ b, P b → Q b) {f : F} {a : Option Addr} {c : Nat} (h : NSl w P f a c) : NSl w Q f a c := by
  obtain ⟨h1, h2⟩ := h
  refine ⟨h1, ?_⟩
  rcases h2 with h2 | ⟨b, off, us, rfl, hp, hc, hv⟩
  · exact Or.inl h2
  · exact Or.inr ⟨b, off, us, rfl, hPQ b hp, hc, hv.mono fun b h _ => hPQ b h⟩

/-- what still lies ahead in a slice: from a place on -/
def At4 (w : World) (P : Nat → Prop) (f : F) (b off : Nat) : Prop := ∃ us, (∀ (j : Nat) (u : Value), us[j]? = some u → w.cell? ⟨b, off + j, none⟩ = some u) ∧ NV w P f us

theorem At4.below {w w' : World} {P : Nat → Prop} {f : F} {b off : Nat} (h : At4 w P f b off) (hb : Below w.heap.size w w') : At4 w' P f b off := by
  obtain ⟨us, hc, hv⟩ := h
  refine ⟨us, fun j u hj => ?_, hv.below hb⟩
  have := hc j u hj
  exact (World.cell?_of_block (hb.block b (World.block_lt_of_cell? w _ this))).trans this

/-- the first node's cells, and what lies behind -/
theorem At4.cons {w : World} {P : Nat → Prop} {nm tx : List UInt8} {ats : List At.At} {inn rest : F} {b off : Nat} (h : At4 w P (.cons nm ats tx inn rest) b off) :
    ∃ a c a' c', w.cell? ⟨b, off, none⟩ = some (.string ⟨nm.toArray⟩) ∧ w.cell? ⟨b, off + 1, none⟩ = some (.slice a ats.length c) ∧ w.cell? ⟨b, off + 2, none⟩ = some (.string ⟨tx.toArray⟩) ∧ w.cell? ⟨b, off + 3, none⟩ = some (.slice a' inn.len c') ∧
      (Sl ats a c w ∧ (ats ≠ [] → ∀ ad, a = some ad → P ad.block)) ∧ NSl w P inn a' c' ∧ At4 w P rest b (off + 4) := by
  obtain ⟨us, hc, hv⟩ := h
  simp only [NV] at hv
  obtain ⟨a, c, a', c', vs, us', rfl, h1, ⟨h2, h3⟩, hi, hr⟩ := hv
  refine ⟨a, c, a', c', hc 0 _ rfl, hc 1 _ rfl, hc 2 _ rfl, hc 3 _ rfl, h1, ⟨h2, ?_⟩, us', fun j u hj => ?_, hr⟩
  · rcases h3 with h3 | ⟨bb, oo, rfl, hb, hcc⟩
    · exact Or.inl h3
    · exact Or.inr ⟨bb, oo, vs, rfl, hb, hcc, hi⟩
  · have := hc (j + 4) u (by simpa using hj)
    rw [show off + (j + 4) = off + 4 + j by omega] at this
    exact this

theorem NSl.at4 {w : World} {P : Nat → Prop} {f : F} {a : Option Addr} {c : Nat} (h : NSl w P f a c) : f = .nil ∨ ∃ b off, a = some ⟨b, off, none⟩ ∧ At4 w P f b off := by
  rcases h.2 with h | ⟨b, off, us, rfl, _, hc, hv⟩
  · exact Or.inl h
  · exact Or.inr ⟨b, off, rfl, us, hc, hv⟩
end Go.Proofs.Ytnnidajflnandaa
