/- Texts beside each other put together: the mathematics of it over forests, and what Text does to it. -/
import Derived.Test.YtpnjjpbgbdicoaaNodes
import Derived.Test.YtpnjjpbgbdicoaaUnd
namespace Go.Proofs.Ytpnjjpbgbdicoaa
open Go.RowKit Go.Lib
open At (Str cellsA cellsA_len Sl)

namespace F
/-- a text that stands alone -/
def one (t : List UInt8) : F := if t = [] then nil else cons [] [] t nil nil
/-- a text behind nodes -/
def addT : F → List UInt8 → F
  | nil, t => one t
  | cons nm ats tx inn nil, t => if nm = [] then cons nm ats (tx ++ t) inn nil else cons nm ats tx inn (one t)
  | cons nm ats tx inn (cons nm2 ats2 tx2 inn2 rest), t => cons nm ats tx inn (addT (cons nm2 ats2 tx2 inn2 rest) t)
/-- nodes put behind others: texts beside each other are one, a text of nothing is none -/
def mg : F → F → F
  | d, nil => d
  | d, cons nm ats tx inn rest => mg (if nm = [] then addT d tx else d.app (cons nm ats [] (mg nil inn) nil)) rest
end F

theorem mtext_cons (p q : Nat × List UInt8) (r : List (Nat × List UInt8)) (s : List UInt8) : mtext (p :: q :: r) s = p :: mtext (q :: r) s := by
  unfold mtext
  by_cases hs : s = []
  · rw [if_pos hs, if_pos hs]
  · rw [if_neg hs, if_neg hs, List.getLast?_cons_cons]
    split
    · rw [List.dropLast_cons_cons, List.cons_append]
    · rw [List.cons_append]

/-- what the parts of the node k stand for, where the elements in a node have greater numbers than the node's own -/
def TG (M : List MN) : Nat → List (Nat × List UInt8) → F → Prop
  | _, l, .nil => l = []
  | k, l, .cons nm ats tx inn rest => ∃ p r, l = p :: r ∧ TG M k r rest ∧
      ((p.1 = 0 ∧ nm = [] ∧ ats = [] ∧ tx = p.2 ∧ inn = .nil) ∨ (k < p.1 ∧ tx = [] ∧ ∃ n, M[p.1]? = some n ∧ nm = n.nm ∧ ats = n.ats ∧ TG M p.1 n.inn inn))

theorem TG.t {M : List MN} : ∀ {f : F} {k : Nat} {l : List (Nat × List UInt8)}, TG M k l f → T M l f
  | .nil, _, _, h => by simp only [TG] at h; simpa only [T] using h
  | .cons _ _ _ _ _, _, _, h => by
    rw [TG] at h
    obtain ⟨p, r, rfl, hr, hp⟩ := h
    rw [T]
    refine ⟨p, r, rfl, hr.t, ?_⟩
    rcases hp with hp | ⟨h0, h1, n, h2, h3, h4, h5⟩
    · exact Or.inl hp
    · exact Or.inr ⟨by omega, h1, n, h2, h3, h4, h5.t⟩

theorem TG.frame {M M' : List MN} : ∀ {f : F} {k : Nat} {l : List (Nat × List UInt8)}, (∀ j n, k < j → M[j]? = some n → M'[j]? = some n) → TG M k l f → TG M' k l f
  | .nil, _, _, _, h => by simp only [TG] at h ⊢; exact h
  | .cons _ _ _ _ _, k, _, hm, h => by
    rw [TG] at h ⊢
    obtain ⟨p, r, rfl, hr, hp⟩ := h
    refine ⟨p, r, rfl, TG.frame hm hr, ?_⟩
    rcases hp with hp | ⟨h0, h1, n, h2, h3, h4, h5⟩
    · exact Or.inl hp
    · exact Or.inr ⟨h0, h1, n, hm _ _ h0 h2, h3, h4, TG.frame (fun j m hj => hm j m (by omega)) h5⟩

theorem TG.one {M : List MN} (k : Nat) (s : List UInt8) : TG M k (mtext [] s) (F.one s) := by
  unfold mtext F.one
  by_cases hs : s = []
  · rw [if_pos hs, if_pos hs]; rfl
  · rw [if_neg hs, if_neg hs]
    exact ⟨(0, s), [], rfl, rfl, Or.inl ⟨rfl, rfl, rfl, rfl, rfl⟩⟩

/-- all elements have names -/
def Nmd (M : List MN) : Prop := ∀ i n, i ≠ 0 → M[i]? = some n → n.nm ≠ []

theorem TG.addT {M : List MN} (hM : Nmd M) (s : List UInt8) (k : Nat) : ∀ {d : F} {l : List (Nat × List UInt8)}, TG M k l d → TG M k (mtext l s) (d.addT s)
  | .nil, l, h => by
    simp only [TG] at h
    subst h
    exact TG.one k s
  | .cons nm ats tx inn .nil, l, h => by
    simp only [TG] at h
    obtain ⟨p, r, rfl, rfl, hp⟩ := h
    rcases hp with ⟨h0, rfl, rfl, rfl, rfl⟩ | ⟨h0, rfl, n, hn, rfl, rfl, hi⟩
    · rw [F.addT, if_pos rfl]
      obtain ⟨p1, p2⟩ := p
      simp only at h0
      subst h0
      by_cases hs : s = []
      · subst hs
        exact ⟨(0, p2), [], by simp [mtext], rfl, Or.inl ⟨rfl, rfl, rfl, by simp, rfl⟩⟩
      · exact ⟨(0, p2 ++ s), [], by simp [mtext, hs], rfl, Or.inl ⟨rfl, rfl, rfl, rfl, rfl⟩⟩
    · rw [F.addT, if_neg (hM _ _ (by omega) hn)]
      have e : mtext [p] s = p :: mtext [] s := by
        unfold mtext
        by_cases hs : s = []
        · rw [if_pos hs, if_pos hs]
        · rw [if_neg hs, if_neg hs]
          obtain ⟨p1, p2⟩ := p
          cases p1 with
          | zero => exact absurd h0 (Nat.not_lt_zero _)
          | succ k => rfl
      rw [e]
      exact ⟨p, _, rfl, TG.one k s, Or.inr ⟨h0, rfl, n, hn, rfl, rfl, hi⟩⟩
  | .cons nm ats tx inn (.cons nm2 ats2 tx2 inn2 rest), l, h => by
    rw [TG] at h
    obtain ⟨p, r, rfl, hr, hp⟩ := h
    have ih := TG.addT hM s k hr
    rw [TG] at hr
    obtain ⟨q, r2, rfl, -, -⟩ := hr
    rw [mtext_cons, F.addT, TG]
    exact ⟨p, _, rfl, ih, hp⟩

/-- one element behind parts -/
theorem TG.snoc {M : List MN} (k : Nat) : ∀ {d : F} {l : List (Nat × List UInt8)} (i : Nat) (t : List UInt8) (n : MN) (inn : F), TG M k l d → k < i → M[i]? = some n → TG M i n.inn inn → TG M k (l ++ [(i, t)]) (d.app (.cons n.nm n.ats [] inn .nil))
  | .nil, l, i, t, n, inn, h, hi, hn, ht => by
    simp only [TG] at h
    subst h
    exact ⟨(i, t), [], rfl, rfl, Or.inr ⟨hi, rfl, n, hn, rfl, rfl, ht⟩⟩
  | .cons nm ats tx inn' rest, l, i, t, n, inn, h, hi, hn, ht => by
    rw [TG] at h
    obtain ⟨p, r, rfl, hr, hp⟩ := h
    rw [F.app, TG]
    exact ⟨p, _, rfl, TG.snoc k i t n inn hr hi hn ht, hp⟩
/-- the node in which one stands has a smaller number -/
def Par (L : List QN) : Prop := ∀ (i : Nat) (n : QN), L[i]? = some n → n.par = -1 ∨ ∃ j : Nat, n.par = (j : Int) ∧ j < i

theorem nu_of {L : List QN} (hP : Par L) (outer : Nat) : ∀ (k : Nat), k < outer → k < L.length → ∃ m, NU L outer m (k : Int) := by
  intro k
  induction k using Nat.strongRecOn with
  | ind k ih =>
    intro ho hl
    obtain ⟨n, hn⟩ : ∃ n, L[k]? = some n := ⟨_, List.getElem?_eq_getElem hl⟩
    rcases hP k n hn with hp | ⟨j, hp, hj⟩
    · exact ⟨1, k, n, rfl, by omega, hn, hp⟩
    · obtain ⟨m, hm⟩ := ih j hj (by omega) (by omega)
      exact ⟨m + 1, k, n, rfl, by omega, hn, by rw [hp]; exact hm⟩
theorem F.one_len (t : List UInt8) : (F.one t).len ≤ 1 := by
  unfold F.one
  split <;> simp [F.len]
theorem F.addT_len (t : List UInt8) : ∀ d : F, (d.addT t).len ≤ d.len + 1
  | .nil => by have := F.one_len t; simpa [F.addT, F.len] using this
  | .cons nm ats tx inn .nil => by
    have := F.one_len t
    rw [F.addT]
    split
    · simp [F.len]
    · simp only [F.len]; omega
  | .cons nm ats tx inn (.cons nm2 ats2 tx2 inn2 rest) => by
    have := F.addT_len t (.cons nm2 ats2 tx2 inn2 rest)
    rw [F.addT]
    simp only [F.len] at this ⊢
    omega
theorem F.mg_len : ∀ (f d : F), (F.mg d f).len ≤ d.len + f.len
  | .nil, d => by simp [F.mg, F.len]
  | .cons nm ats tx inn rest, d => by
    rw [F.mg]
    refine Nat.le_trans (F.mg_len rest _) ?_
    split
    · have := F.addT_len tx d; simp only [F.len]; omega
    · rw [F.app_len]; simp only [F.len]; omega
end Go.Proofs.Ytpnjjpbgbdicoaa
