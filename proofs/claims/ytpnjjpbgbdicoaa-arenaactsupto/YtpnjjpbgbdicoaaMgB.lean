/- Texts beside each other put together: the mathematics of it over forests, and what Text does to it. -/
import Derived.Test.YtpnjjpbgbdicoaaNodes
import Derived.Test.YtpnjjpbgbdicoaaUnd
import Derived.Test.YtpnjjpbgbdicoaaOf
import Derived.Laws.OwnMore
namespace Go.Proofs.Ytpnjjpbgbdicoaa
open Go.RowKit Go.Lib
open At (Str cellsA cellsA_len Sl)

namespace F
/-- a text that stands alone -/
def one (t : List UInt8) : F := if t = [] then nil else cons [] [] t nil nil
/-- a text behind nodes -/
def addT : F → List UInt8 → F
  | nil, t => one t
  | cons nm ats tx inn nil, t => if nm = [] then cons nm ats (tx ++ t) inn nil else cons nm ats tx inn (one t)
  | cons nm ats tx inn (cons nm2 ats2 tx2 inn2 rest), t => cons nm ats tx inn (addT (cons nm2 ats2 tx2 inn2 rest) t)
/-- nodes put behind others: texts beside each other are one, a text of nothing is none -/
def mg : F → F → F
  | d, nil => d
  | d, cons nm ats tx inn rest => mg (if nm = [] then addT d tx else d.app (cons nm ats [] (mg nil inn) nil)) rest
end F

theorem mtext_cons (p q : Nat × List UInt8) (r : List (Nat × List UInt8)) (s : List UInt8) : mtext (p :: q :: r) s = p :: mtext (q :: r) s := by
  unfold mtext
  by_cases hs : s = []
  · rw [if_pos hs, if_pos hs]
  · rw [if_neg hs, if_neg hs, List.getLast?_cons_cons]
    split
    · rw [List.dropLast_cons_cons, List.cons_append]
    · rw [List.cons_append]

/-- what the parts of the node k stand for, where the elements in a node have greater numbers than the node's own -/
def TG (M : List MN) : Nat → List (Nat × List UInt8) → F → Prop
  | _, l, .nil => l = []
  | k, l, .cons nm ats tx inn rest => ∃ p r, l = p :: r ∧ TG M k r rest ∧
      ((p.1 = 0 ∧ nm = [] ∧ ats = [] ∧ tx = p.2 ∧ inn = .nil) ∨ (k < p.1 ∧ tx = [] ∧ ∃ n, M[p.1]? = some n ∧ nm = n.nm ∧ ats = n.ats ∧ TG M p.1 n.inn inn))

theorem TG.t {M : List MN} : ∀ {f : F} {k : Nat} {l : List (Nat × List UInt8)}, TG M k l f → T M l f
  | .nil, _, _, h => by simp only [TG] at h; simpa only [T] using h
  | .cons _ _ _ _ _, _, _, h => by
    rw [TG] at h
    obtain ⟨p, r, rfl, hr, hp⟩ := h
    rw [T]
    refine ⟨p, r, rfl, hr.t, ?_⟩
    rcases hp with hp | ⟨h0, h1, n, h2, h3, h4, h5⟩
    · exact Or.inl hp
    · exact Or.inr ⟨by omega, h1, n, h2, h3, h4, h5.t⟩

theorem TG.frame {M M' : List MN} : ∀ {f : F} {k : Nat} {l : List (Nat × List UInt8)}, (∀ j n, k < j → M[j]? = some n → M'[j]? = some n) → TG M k l f → TG M' k l f
  | .nil, _, _, _, h => by simp only [TG] at h ⊢; exact h
  | .cons _ _ _ _ _, k, _, hm, h => by
    rw [TG] at h ⊢
    obtain ⟨p, r, rfl, hr, hp⟩ := h
    refine ⟨p, r, rfl, TG.frame hm hr, ?_⟩
    rcases hp with hp | ⟨h0, h1, n, h2, h3, h4, h5⟩
    · exact Or.inl hp
    · exact Or.inr ⟨h0, h1, n, hm _ _ h0 h2, h3, h4, TG.frame (fun j m hj => hm j m (by omega)) h5⟩

theorem TG.one {M : List MN} (k : Nat) (s : List UInt8) : TG M k (mtext [] s) (F.one s) := by
  unfold mtext F.one
  by_cases hs : s = []
  · rw [if_pos hs, if_pos hs]; rfl
  · rw [if_neg hs, if_neg hs]
    exact ⟨(0, s), [], rfl, rfl, Or.inl ⟨rfl, rfl, rfl, rfl, rfl⟩⟩

/-- all elements have names -/
def Nmd (M : List MN) : Prop := ∀ i n, i ≠ 0 → M[i]? = some n → n.nm ≠ []

theorem TG.addT {M : List MN} (hM : Nmd M) (s : List UInt8) (k : Nat) : ∀ {d : F} {l : List (Nat × List UInt8)}, TG M k l d → TG M k (mtext l s) (d.addT s)
  | .nil, l, h => by
    simp only [TG] at h
    subst h
    exact TG.one k s
  | .cons nm ats tx inn .nil, l, h => by
    simp only [TG] at h
    obtain ⟨p, r, rfl, rfl, hp⟩ := h
    rcases hp with ⟨h0, rfl, rfl, rfl, rfl⟩ | ⟨h0, rfl, n, hn, rfl, rfl, hi⟩
    · rw [F.addT, if_pos rfl]
      obtain ⟨p1, p2⟩ := p
      simp only at h0
      subst h0
      by_cases hs : s = []
      · subst hs
        exact ⟨(0, p2), [], by simp [mtext], rfl, Or.inl ⟨rfl, rfl, rfl, by simp, rfl⟩⟩
      · exact ⟨(0, p2 ++ s), [], by simp [mtext, hs], rfl, Or.inl ⟨rfl, rfl, rfl, rfl, rfl⟩⟩
    · rw [F.addT, if_neg (hM _ _ (by omega) hn)]
      have e : mtext [p] s = p :: mtext [] s := by
        unfold mtext
        by_cases hs : s = []
        · rw [if_pos hs, if_pos hs]
        · rw [if_neg hs, if_neg hs]
          obtain ⟨p1, p2⟩ := p
          cases p1 with
          | zero => exact absurd h0 (Nat.not_lt_zero _)
          | succ k => rfl
      rw [e]
      exact ⟨p, _, rfl, TG.one k s, Or.inr ⟨h0, rfl, n, hn, rfl, rfl, hi⟩⟩
  | .cons nm ats tx inn (.cons nm2 ats2 tx2 inn2 rest), l, h => by
    rw [TG] at h
    obtain ⟨p, r, rfl, hr, hp⟩ := h
    have ih := TG.addT hM s k hr
    rw [TG] at hr
    obtain ⟨q, r2, rfl, -, -⟩ := hr
    rw [mtext_cons, F.addT, TG]
    exact ⟨p, _, rfl, ih, hp⟩

/-- one element behind parts -/
theorem TG.snoc {M : List MN} (k : Nat) : ∀ {d : F} {l : List (Nat × List UInt8)} (i : Nat) (t : List UInt8) (n : MN) (inn : F), TG M k l d → k < i → M[i]? = some n → TG M i n.inn inn → TG M k (l ++ [(i, t)]) (d.app (.cons n.nm n.ats [] inn .nil))
  | .nil, l, i, t, n, inn, h, hi, hn, ht => by
    simp only [TG] at h
    subst h
    exact ⟨(i, t), [], rfl, rfl, Or.inr ⟨hi, rfl, n, hn, rfl, rfl, ht⟩⟩
  | .cons nm ats tx inn' rest, l, i, t, n, inn, h, hi, hn, ht => by
    rw [TG] at h
    obtain ⟨p, r, rfl, hr, hp⟩ := h
    rw [F.app, TG]
    exact ⟨p, _, rfl, TG.snoc k i t n inn hr hi hn ht, hp⟩
/-- the node in which one stands has a smaller number -/
def Par (L : List QN) : Prop := ∀ (i : Nat) (n : QN), L[i]? = some n → n.par = -1 ∨ ∃ j : Nat, n.par = (j : Int) ∧ j < i

theorem nu_of {L : List QN} (hP : Par L) (outer : Nat) : ∀ (k : Nat), k < outer → k < L.length → ∃ m, NU L outer m (k : Int) := by
  intro k
  induction k using Nat.strongRecOn with
  | ind k ih =>
    intro ho hl
    obtain ⟨n, hn⟩ : ∃ n, L[k]? = some n := ⟨_, List.getElem?_eq_getElem hl⟩
    rcases hP k n hn with hp | ⟨j, hp, hj⟩
    · exact ⟨1, k, n, rfl, by omega, hn, hp⟩
    · obtain ⟨m, hm⟩ := ih j hj (by omega) (by omega)
      exact ⟨m + 1, k, n, rfl, by omega, hn, by rw [hp]; exact hm⟩
theorem F.one_len (t : List UInt8) : (F.one t).len ≤ 1 := by
  unfold F.one
  split <;> simp [F.len]
theorem F.addT_len (t : List UInt8) : ∀ d : F, (d.addT t).len ≤ d.len + 1
  | .nil => by have := F.one_len t; simpa [F.addT, F.len] using this
  | .cons nm ats tx inn .nil => by
    have := F.one_len t
    rw [F.addT]
    split
    · simp [F.len]
    · simp only [F.len]; omega
  | .cons nm ats tx inn (.cons nm2 ats2 tx2 inn2 rest) => by
    have := F.addT_len t (.cons nm2 ats2 tx2 inn2 rest)
    rw [F.addT]
    simp only [F.len] at this ⊢
    omega
theorem F.mg_len : ∀ (f d : F), (F.mg d f).len ≤ d.len + f.len
  | .nil, d => by simp [F.mg, F.len]
  | .cons nm ats tx inn rest, d => by
    rw [F.mg]
    refine Nat.le_trans (F.mg_len rest _) ?_
    split
    · have := F.addT_len tx d; simp only [F.len]; omega
    · rw [F.app_len]; simp only [F.len]; omega
end Go.Proofs.Ytpnjjpbgbdicoaa

/- Merge's step at an element: its attributes are the argument's own. -/
namespace Go.Proofs.Ytpnjjpbgbdicoaa
open Go.RowKit Go.Lib
open At (Str cellsA cellsA_len Sl)

/-- blocks of the argument's, below b0, or of the call's own -/
abbrev Pm (b0 n : Nat) (b : Nat) : Prop := b < b0 ∨ n ≤ b

theorem mg_step (b0 : Nat) (w wr W w4 : World) (d inn : F) (nm : List UInt8) (ats : List At.At) (u3 vn : Value) (aa : Option Addr) (ca : Nat) (v0 v1 v2 v3 : Value)
    (hb0 : b0 ≤ w.heap.size) (hbw : Below w.heap.size w wr) (hbW : Below wr.heap.size wr W) (hv : Var4 wr.heap.size v0 v1 v2 v3 W)
    (hown : NOwn wr w.heap.size 69 (Pm b0 w.heap.size) u3 d) (hsl : Sl ats aa ca w) (hlt0 : ats ≠ [] → ∀ ad, aa = some ad → ad.block < b0)
    (hon : NOwn w4 W.heap.size 69 (Pm b0 W.heap.size) vn inn) (hb4 : Below W.heap.size W w4) (hl : d.len + 1 ≤ 8000000) :
    ∃ a7 c7 v' w5, vn = .slice a7 inn.len c7 ∧
      (Builtin.append_ #[54, 54] 54 #[u3, .slice (some ⟨w4.heap.size, 0, none⟩) 1 1]).run Try.prog (w4.alloc (.cells #[.string ⟨nm.toArray⟩, .slice aa ats.length ca, .string ⟨([] : List UInt8).toArray⟩, .slice a7 inn.len c7] 69)) = .ok v' w5 ∧
      Var4 wr.heap.size v0 v1 v2 v3 w4 ∧ Var4 wr.heap.size v0 v1 v2 v3 (w4.alloc (.cells #[.string ⟨nm.toArray⟩, .slice aa ats.length ca, .string ⟨([] : List UInt8).toArray⟩, .slice a7 inn.len c7] 69)) ∧ Var4 wr.heap.size v0 v1 v2 v3 w5 ∧
      NOwn w5 w.heap.size 69 (Pm b0 w.heap.size) v' (d.app (.cons nm ats [] inn .nil)) ∧ Below w.heap.size w w5 := by
  have hsz : w.heap.size ≤ wr.heap.size := hbw.size
  have hszW : wr.heap.size ≤ W.heap.size := hbW.size
  have hsz4 : W.heap.size ≤ w4.heap.size := hb4.size
  have how4 : NOwn w4 w.heap.size 69 (Pm b0 w.heap.size) u3 d := (hown.below hbW).below hb4
  have hlt : ∀ g, u3.ownBlock = some g → w.heap.size ≤ g ∧ g < wr.heap.size := by
    intro g hg
    obtain ⟨us, h1, -⟩ := hown
    exact h1.lt g hg
  have hv4 := hv.below hb4
  obtain ⟨a7, c7, rfl, hsl7⟩ := hon.sl
  have hbl : Below w.heap.size w w4 := (hbw.trans (hbW.mono hsz)).trans (hb4.mono (by omega))
  have hn7 : NSl w4 (Off (Pm b0 w.heap.size) u3) inn a7 c7 := by
    refine hsl7.mono fun b hb => ?_
    have hb' : b < b0 ∨ W.heap.size ≤ b := by
      rcases hb with ⟨h, -⟩ | ⟨-, h⟩
      · exact h
      · exact Or.inr h
    refine ⟨by rcases hb' with h | h; exact Or.inl h; exact Or.inr (by omega), fun he => ?_⟩
    have := hlt _ he.symm
    omega
  obtain ⟨v', w5, hr, how5, hgr, -⟩ := app_node elem54 w4 w.heap.size (Pm b0 w.heap.size) u3 d nm [] ats inn aa a7 ca c7 w4.heap.size rfl how4
    ⟨hsl.below hbl, fun hne ad had => ⟨Or.inl (hlt0 hne ad had), fun he => by
      have h1 := (hlt _ he.symm).1
      have h2 := hlt0 hne ad had
      omega⟩⟩ hn7 hl (by omega)
  have hva := hv4.below (At.below_alloc (.cells #[.string ⟨nm.toArray⟩, .slice aa ats.length ca, .string ⟨([] : List UInt8).toArray⟩, .slice a7 inn.len c7] 69))
  refine ⟨a7, c7, v', w5, rfl, hr, hv4, hva, ?_, how5, hbl.grown hgr (by omega) (fun g hg => (hlt g hg).1)⟩
  have hn : some wr.heap.size ≠ u3.ownBlock := by
    intro he
    have := (hlt _ he.symm).2
    omega
  obtain ⟨q0, q1, q2, q3⟩ := hv4
  exact ⟨cell_of_grown hgr q0 hn, cell_of_grown hgr q1 hn, cell_of_grown hgr q2 hn, cell_of_grown hgr q3 hn⟩
/-- Merge's step at a text behind an element, or at the first one -/
theorem mg_new (b0 : Nat) (w wr W : World) (d : F) (tx : List UInt8) (u3 : Value) (v0 v1 v2 v3 : Value)
    (hbw : Below w.heap.size w wr) (hbW : Below wr.heap.size wr W) (hv : Var4 wr.heap.size v0 v1 v2 v3 W)
    (hown : NOwn wr w.heap.size 69 (Pm b0 w.heap.size) u3 d) (hl : d.len + 1 ≤ 8000000) :
    ∃ v' w5, (Builtin.append_ #[54, 54] 54 #[u3, .slice (some ⟨W.heap.size, 0, none⟩) 1 1]).run Try.prog (W.alloc (.cells #[.string ⟨([] : List UInt8).toArray⟩, .slice none 0 0, .string ⟨tx.toArray⟩, .slice none 0 0] 69)) = .ok v' w5 ∧
      Var4 wr.heap.size v0 v1 v2 v3 w5 ∧ NOwn w5 w.heap.size 69 (Pm b0 w.heap.size) v' (d.app (.cons [] [] tx .nil .nil)) ∧ Below w.heap.size w w5 := by
  have hsz : w.heap.size ≤ wr.heap.size := hbw.size
  have hszW : wr.heap.size ≤ W.heap.size := hbW.size
  have hlt : ∀ g, u3.ownBlock = some g → w.heap.size ≤ g ∧ g < wr.heap.size := by
    intro g hg
    obtain ⟨us, h1, -⟩ := hown
    exact h1.lt g hg
  have hbl : Below w.heap.size w W := hbw.trans (hbW.mono hsz)
  obtain ⟨v', w5, hr, how5, hgr, -⟩ := app_node elem54 W w.heap.size (Pm b0 w.heap.size) u3 d [] tx [] .nil none none 0 0 W.heap.size rfl (hown.below hbW)
    ⟨⟨Nat.le_refl _, fun _ => ⟨rfl, rfl⟩, Or.inl rfl⟩, fun hne => absurd rfl hne⟩ ⟨⟨Nat.le_refl _, fun _ => ⟨rfl, rfl⟩⟩, Or.inl rfl⟩ hl (by omega)
  refine ⟨v', w5, hr, ?_, how5, hbl.grown hgr (by omega) (fun g hg => (hlt g hg).1)⟩
  have hn : some wr.heap.size ≠ u3.ownBlock := by
    intro he
    have := (hlt _ he.symm).2
    omega
  obtain ⟨q0, q1, q2, q3⟩ := hv
  exact ⟨cell_of_grown hgr q0 hn, cell_of_grown hgr q1 hn, cell_of_grown hgr q2 hn, cell_of_grown hgr q3 hn⟩
end Go.Proofs.Ytpnjjpbgbdicoaa

/- Merge's step at a text behind a text: the last one's text stored. -/
namespace Go.Proofs.Ytpnjjpbgbdicoaa
open Go.RowKit Go.Lib
open At (Str cellsA cellsA_len Sl)

/-- the last node's text, where it has no name -/
def F.lastT : F → Option (List UInt8)
  | .nil => none
  | .cons nm _ tx _ .nil => if nm = [] then some tx else none
  | .cons _ _ _ _ (.cons nm ats tx inn rest) => F.lastT (.cons nm ats tx inn rest)

theorem NV.more {w : World} {P : Nat → Prop} (t tx0 : List UInt8) : ∀ {d : F} {us : List Value}, NV w P d us → d.lastT = some tx0 → ∃ m, d.len = m + 1 ∧ us[m * 4]? = some (.string ⟨([] : List UInt8).toArray⟩) ∧ us[m * 4 + 2]? = some (.string ⟨tx0.toArray⟩) ∧ NV w P (d.addT t) (us.set (m * 4 + 2) (.string ⟨(tx0 ++ t).toArray⟩)) ∧ (d.addT t).len = d.len
  | .nil, us, h, hl => by simp [F.lastT] at hl
  | .cons nm ats tx inn .nil, us, h, hl => by
    simp only [F.lastT] at hl
    split at hl
    · rename_i hn
      subst hn
      injection hl with hl
      subst hl
      rw [NV] at h
      obtain ⟨a, c, a', c', vs, us', rfl, h1, h2, h3, h4⟩ := h
      rw [F.addT, if_pos rfl]
      refine ⟨0, rfl, rfl, rfl, ?_, rfl⟩
      rw [NV]
      exact ⟨a, c, a', c', vs, us', rfl, h1, h2, h3, h4⟩
    · cases hl
  | .cons nm ats tx inn (.cons nm2 ats2 tx2 inn2 rest), us, h, hl => by
    rw [F.lastT] at hl
    rw [NV] at h
    obtain ⟨a, c, a', c', vs, us', rfl, h1, h2, h3, h4⟩ := h
    obtain ⟨m, hm, k1, k2, k3, k4⟩ := NV.more t tx0 h4 hl
    refine ⟨m + 1, by rw [F.len, hm], ?_, ?_, ?_, ?_⟩
    · rw [show (m + 1) * 4 = m * 4 + 1 + 1 + 1 + 1 by omega]
      simpa using k1
    · rw [show (m + 1) * 4 + 2 = m * 4 + 2 + 1 + 1 + 1 + 1 by omega]
      simpa using k2
    · rw [F.addT, NV, show (m + 1) * 4 + 2 = m * 4 + 2 + 1 + 1 + 1 + 1 by omega]
      exact ⟨a, c, a', c', vs, us'.set (m * 4 + 2) (.string ⟨(tx0 ++ t).toArray⟩), rfl, h1, h2, h3, k3⟩
    · rw [F.addT, F.len, F.len, k4]
theorem NOwn.more {w : World} {B : Nat} {e : TypeId} {P : Nat → Prop} {v : Value} {d : F} (h : NOwn w B e P v d) (t tx0 : List UInt8) (hl : d.lastT = some tx0) :
    ∃ g m c, v = .slice (some ⟨g, 0, none⟩) (m + 1) c ∧ d.len = m + 1 ∧ B ≤ g ∧ g < w.heap.size ∧ w.cell? ⟨g, m * 4, none⟩ = some (.string ⟨([] : List UInt8).toArray⟩) ∧ w.cell? ⟨g, m * 4 + 2, none⟩ = some (.string ⟨tx0.toArray⟩) ∧
      w.frozen? ⟨g, m * 4 + 2, none⟩ = false ∧ NOwn (w.setCell ⟨g, m * 4 + 2, none⟩ (.string ⟨(tx0 ++ t).toArray⟩)) B e P v (d.addT t) ∧ w.grownBy (w.setCell ⟨g, m * 4 + 2, none⟩ (.string ⟨(tx0 ++ t).toArray⟩)) (some g) := by
  obtain ⟨us, h1, h2⟩ := h
  obtain ⟨m, hm, k1, k2, k3, k4⟩ := NV.more t tx0 h2 hl
  rcases h1.2 with ⟨-, h0⟩ | ⟨g, cap, cur, rfl, hg, -⟩
  · omega
  · have hlt := h1.lt g rfl
    rw [hm] at h1
    obtain ⟨s1, s2⟩ := h1.stored (m * 4 + 2) (.string ⟨(tx0 ++ t).toArray⟩)
    refine ⟨g, m, cap, by rw [hm], hm, hg, hlt.2, (h1.cellAt _ (by omega)).trans k1, (h1.cellAt _ (by omega)).trans k2, h1.frozenAt _, ⟨_, ?_, NV.mono ?_ (NV.kept ?_ k3.lt)⟩, s2⟩
    · rw [k4, hm]
      exact s1
    · intro b hb _
      exact hb.1
    · intro b hb
      exact s2.block b hb.2 hb.1.2
theorem F.addT_none (t : List UInt8) : ∀ {d : F}, d.lastT = none → d.addT t = d.app (F.one t)
  | .nil, _ => rfl
  | .cons nm ats tx inn .nil, h => by
    simp only [F.lastT] at h
    split at h
    · cases h
    · rename_i hn
      rw [F.addT, if_neg hn]
      rfl
  | .cons nm ats tx inn (.cons nm2 ats2 tx2 inn2 rest), h => by
    rw [F.lastT] at h
    rw [F.addT, F.addT_none t h]
    rfl

theorem NV.named {w : World} {P : Nat → Prop} : ∀ {d : F} {us : List Value} {m : Nat}, NV w P d us → d.lastT = none → d.len = m + 1 → ∃ nm : List UInt8, nm ≠ [] ∧ us[m * 4]? = some (.string ⟨nm.toArray⟩)
  | .nil, _, _, _, _, hm => by simp [F.len] at hm
  | .cons nm ats tx inn .nil, us, m, h, hl, hm => by
    simp only [F.lastT] at hl
    split at hl
    · cases hl
    · rename_i hn
      rw [NV] at h
      obtain ⟨a, c, a', c', vs, us', rfl, h1, h2, h3, h4⟩ := h
      simp only [F.len] at hm
      obtain rfl : m = 0 := by omega
      exact ⟨nm, hn, rfl⟩
  | .cons nm ats tx inn (.cons nm2 ats2 tx2 inn2 rest), us, m, h, hl, hm => by
    rw [F.lastT] at hl
    rw [NV] at h
    obtain ⟨a, c, a', c', vs, us', rfl, h1, h2, h3, h4⟩ := h
    rw [F.len] at hm
    obtain ⟨k, rfl⟩ : ∃ k, m = k + 1 := ⟨(F.cons nm2 ats2 tx2 inn2 rest).len - 1, by simp only [F.len] at hm ⊢; omega⟩
    obtain ⟨nm', hn, hk⟩ := NV.named (m := k) h4 hl (by omega)
    refine ⟨nm', hn, ?_⟩
    rw [show (k + 1) * 4 = k * 4 + 1 + 1 + 1 + 1 by omega]
    simpa using hk

theorem NOwn.named {w : World} {B : Nat} {e : TypeId} {P : Nat → Prop} {v : Value} {d : F} (h : NOwn w B e P v d) (hl : d.lastT = none) {m : Nat} (hm : d.len = m + 1) :
    ∃ g c, ∃ nm : List UInt8, v = .slice (some ⟨g, 0, none⟩) (m + 1) c ∧ nm ≠ [] ∧ g < w.heap.size ∧ w.cell? ⟨g, m * 4, none⟩ = some (.string ⟨nm.toArray⟩) := by
  obtain ⟨us, h1, h2⟩ := h
  obtain ⟨nm, hn, k1⟩ := NV.named h2 hl hm
  rcases h1.2 with ⟨-, h0⟩ | ⟨g, cap, cur, rfl, hg, -⟩
  · omega
  · have hlt := h1.lt g rfl
    rw [hm] at h1
    exact ⟨g, cap, nm, by rw [hm], hn, hlt.2, (h1.cellAt _ (by omega)).trans k1⟩
end Go.Proofs.Ytpnjjpbgbdicoaa
