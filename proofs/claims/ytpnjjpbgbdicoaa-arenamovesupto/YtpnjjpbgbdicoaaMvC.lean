/- ArenaMoves: the mathematics of it: what stands in p and q ahead of Move, behind it, and behind the last Append. -/
import Derived.Test.YtpnjjpbgbdicoaaMvB
import Derived.Test.YtpnjjpbgbdicoaaPut2
namespace Go.Proofs.Ytpnjjpbgbdicoaa
open Go.RowKit Go.Lib
open At (Str cellsA cellsA_len Sl)

theorem TG.app {M : List MN} {k : Nat} : ∀ {f g : F} {l m : List (Nat × List UInt8)}, TG M k l f → TG M k m g → TG M k (l ++ m) (f.app g)
  | .nil, _, _, _, h, hg => by simp only [TG] at h; subst h; exact hg
  | .cons _ _ _ _ _, _, _, _, h, hg => by
    rw [TG] at h
    obtain ⟨p, r, rfl, hr, hp⟩ := h
    exact ⟨p, _, rfl, TG.app hr hg, hp⟩
theorem TG.gt {M : List MN} {k : Nat} : ∀ {f : F} {l : List (Nat × List UInt8)}, TG M k l f → ∀ x ∈ l, x.1 = 0 ∨ (k < x.1 ∧ x.1 < M.length)
  | .nil, _, h => by simp only [TG] at h; subst h; intro x hx; cases hx
  | .cons _ _ _ _ _, _, h => by
    rw [TG] at h
    obtain ⟨p, r, rfl, hr, hp⟩ := h
    intro x hx
    rcases List.mem_cons.1 hx with rfl | hx
    · rcases hp with hp | ⟨h0, -, n, hn, -⟩
      · exact Or.inl hp.1
      · exact Or.inr ⟨h0, (List.getElem?_eq_some_iff.1 hn).1⟩
    · exact TG.gt hr x hx
theorem TG.frame2 {M M' : List MN} : ∀ {f : F} {k : Nat} {l : List (Nat × List UInt8)}, (∀ j n, k < j → M[j]? = some n → ∃ n', M'[j]? = some n' ∧ n'.nm = n.nm ∧ n'.ats = n.ats ∧ n'.inn = n.inn) → TG M k l f → TG M' k l f
  | .nil, _, _, _, h => by simp only [TG] at h ⊢; exact h
  | .cons _ _ _ _ _, k, _, hm, h => by
    rw [TG] at h ⊢
    obtain ⟨p, r, rfl, hr, hp⟩ := h
    refine ⟨p, r, rfl, TG.frame2 hm hr, ?_⟩
    rcases hp with hp | ⟨h0, h1, n, h2, h3, h4, h5⟩
    · exact Or.inl hp
    · obtain ⟨n', e1, e2, e3, e4⟩ := hm _ _ h0 h2
      refine Or.inr ⟨h0, h1, n', e1, h3.trans e2.symm, h4.trans e3.symm, ?_⟩
      rw [e4]
      exact TG.frame2 (fun j m hj => hm j m (by omega)) h5

/-- p and q, empty, in the root -/
def Ld (sa1 sa2 vi : Value) : List QN := [⟨[], [], .slice none 0 0, -1, [⟨1, [], .slice none 0 0⟩, ⟨2, [], .slice none 0 0⟩], vi⟩, ⟨[112], [], sa1, 0, [], .slice none 0 0⟩, ⟨[113], [], sa2, 0, [], .slice none 0 0⟩]

theorem ld_par (sa1 sa2 vi : Value) : Par (Ld sa1 sa2 vi) := by
  intro i n hn
  match i, hn with
  | 0, hn => cases hn; exact Or.inl rfl
  | 1, hn => cases hn; exact Or.inr ⟨0, rfl, by decide⟩
  | 2, hn => cases hn; exact Or.inr ⟨0, rfl, by decide⟩
  | i + 3, hn => simp [Ld] at hn
theorem ld_nmd (sa1 sa2 vi : Value) : Nmd ((Ld sa1 sa2 vi).map ab) := by
  intro i n hi hn
  match i, hn with
  | 0, _ => exact absurd rfl hi
  | 1, hn => cases hn; exact List.cons_ne_nil _ _
  | 2, hn => cases hn; exact List.cons_ne_nil _ _
  | i + 3, hn => simp [Ld] at hn
theorem ld_bd (sa1 sa2 vi : Value) : Bd 3 (Ld sa1 sa2 vi) := by
  refine ⟨Nat.le_refl _, fun n hn => ?_, fun n hn p hp => ?_⟩
  · simp only [Ld, List.mem_cons, List.not_mem_nil, or_false] at hn
    rcases hn with rfl | rfl | rfl
    · exact Nat.le_succ _
    · exact Nat.zero_le _
    · exact Nat.zero_le _
  · simp only [Ld, List.mem_cons, List.not_mem_nil, or_false] at hn
    rcases hn with rfl | rfl | rfl
    · simp only [List.mem_cons, List.not_mem_nil, or_false] at hp
      rcases hp with rfl | rfl <;> exact Nat.zero_le _
    · cases hp
    · cases hp

/-- ahead of Move -/
structure Ahead (L : List QN) (n0 n1 n2 : QN) (fA fB : F) : Prop where
  a0 : L[0]? = some n0
  e0 : ab n0 = ⟨[], [], -1, [(1, []), (2, [])]⟩
  a1 : L[1]? = some n1
  e1 : n1.nm = [112] ∧ n1.ats = [] ∧ n1.par = 0
  t1 : TG (L.map ab) 2 (n1.inn.map abp) fA
  a2 : L[2]? = some n2
  e2 : n2.nm = [113] ∧ n2.ats = [] ∧ n2.par = 0
  t2 : TG (L.map ab) 2 (n2.inn.map abp) fB

theorem ahead_mid {sa1 sa2 vi : Value} {L1 : List QN} {fA : F} (h : PutR (Ld sa1 sa2 vi) L1 1 2 ⟨[112], [], sa1, 0, [], .slice none 0 0⟩ fA) : ∃ q, L1[2]? = some q ∧ ab q = ⟨[113], [], 0, []⟩ := by
  obtain ⟨q, h1, h2⟩ := h.keep 2 _ (by decide) (show (Ld sa1 sa2 vi)[2]? = some ⟨[113], [], sa2, 0, [], .slice none 0 0⟩ from rfl)
  exact ⟨q, h1, h2⟩

theorem ahead_of {sa1 sa2 vi : Value} {L1 L2 : List QN} {q : QN} {fA fB : F} (h : PutR (Ld sa1 sa2 vi) L1 1 2 ⟨[112], [], sa1, 0, [], .slice none 0 0⟩ fA) (hq : ab q = ⟨[113], [], 0, []⟩) (k : PutR L1 L2 2 2 q fB) : ∃ n0 n1 n2, Ahead L2 n0 n1 n2 fA fB := by
  obtain ⟨m0, x0, y0⟩ := h.keep 0 _ (by decide) (show (Ld sa1 sa2 vi)[0]? = some ⟨[], [], .slice none 0 0, -1, [⟨1, [], .slice none 0 0⟩, ⟨2, [], .slice none 0 0⟩], vi⟩ from rfl)
  obtain ⟨n0, x0', y0'⟩ := k.keep 0 _ (by decide) x0
  obtain ⟨m1, x1, p1, p2, p3, p4⟩ := h.at_
  obtain ⟨n1, x1', y1'⟩ := k.keep 1 _ (by decide) x1
  obtain ⟨n2, x2, q1, q2, q3, q4⟩ := k.at_
  refine ⟨n0, n1, n2, x0', y0'.trans y0, x1', ⟨(congrArg MN.nm y1').trans p1, (congrArg MN.ats y1').trans p2, (congrArg MN.par y1').trans p3⟩, ?_, x2, ⟨q1.trans (congrArg MN.nm hq), q2.trans (congrArg MN.ats hq), q3.trans (congrArg MN.par hq)⟩, q4⟩
  have e : n1.inn.map abp = m1.inn.map abp := congrArg MN.inn y1'
  rw [e]
  refine TG.frame2 (fun j n hj hn => ?_) p4
  rw [List.getElem?_map] at hn
  rcases hL : L1[j]? with _ | x
  · rw [hL] at hn; cases hn
  · rw [hL] at hn
    injection hn with hn
    subst hn
    obtain ⟨x', hx', he⟩ := k.keep j x (by omega) hL
    exact ⟨ab x', by rw [List.getElem?_map, hx']; rfl, congrArg MN.nm he, congrArg MN.ats he, congrArg MN.inn he⟩

/-- behind Move -/
structure Behind (L : List QN) (n0 p q : QN) (l : List (Nat × List UInt8)) (X : F) : Prop where
  a0 : L[0]? = some n0
  e0 : ab n0 = ⟨[], [], -1, [(1, []), (2, [])]⟩
  a1 : L[1]? = some p
  e1 : ab p = ⟨[112], [], 0, []⟩
  a2 : L[2]? = some q
  e2 : ab q = ⟨[113], [], 0, l⟩
  t2 : TG (L.map ab) 2 l X

theorem not_in {M : List MN} {l : List QP} {f : F} (h : TG M 2 (l.map abp) f) {j : Nat} (hj : j ≤ 2) : ¬ (j ≠ 0 ∧ j ∈ l.map QP.el) := by
  rintro ⟨h0, h1⟩
  obtain ⟨p, hp, rfl⟩ := List.mem_map.1 h1
  have := h.gt (abp p) (List.mem_map.2 ⟨p, hp, rfl⟩)
  have e : (abp p).1 = p.el := rfl
  omega

theorem behind_of {L : List QN} {n0 n1 n2 ni2 nk2 : QN} {fA fB : F} {v' : Value} (h : Ahead L n0 n1 n2 fA fB) (hi : (rep 2 n1.inn L)[1]? = some ni2) (hk : (rep 2 n1.inn L)[2]? = some nk2) :
    ∃ p q, Behind (((rep 2 n1.inn L).set 1 { ni2 with inn := [], vi := .slice none 0 0 }).set 2 { nk2 with inn := n2.inn ++ n1.inn, vi := v' }) n0 p q ((n2.inn ++ n1.inn).map abp) (fB.app fA) := by
  have hl : 2 < L.length := (List.getElem?_eq_some_iff.1 h.a2).1
  rw [rep_at _ _ h.a1, if_neg (not_in h.t1 (by decide))] at hi
  rw [rep_at _ _ h.a2, if_neg (not_in h.t1 (by decide))] at hk
  injection hi with hi
  injection hk with hk
  subst hi hk
  refine ⟨{ n1 with inn := [], vi := .slice none 0 0 }, { n2 with inn := n2.inn ++ n1.inn, vi := v' }, ⟨?_, h.e0, ?_, ?_, List.getElem?_set_self (by rw [List.length_set, rep_len]; exact hl), ?_, ?_⟩⟩
  · rw [List.getElem?_set_ne (by decide), List.getElem?_set_ne (by decide), rep_at _ _ h.a0, if_neg (not_in h.t1 (by decide))]
  · rw [List.getElem?_set_ne (by decide), List.getElem?_set_self (by rw [rep_len]; omega)]
  · show MN.mk _ _ _ _ = _
    rw [h.e1.1, h.e1.2.1, h.e1.2.2]
    rfl
  · show MN.mk _ _ _ _ = _
    rw [h.e2.1, h.e2.2.1, h.e2.2.2]
  · rw [List.map_append]
    refine TG.frame2 (fun j n hj hn => ?_) (TG.app h.t2 h.t1)
    rw [List.getElem?_map] at hn
    rcases hL : L[j]? with _ | x
    · rw [hL] at hn; cases hn
    · rw [hL] at hn
      injection hn with hn
      subst hn
      obtain ⟨px, hx⟩ := rep_at' 2 n1.inn hL
      exact ⟨ab { x with par := px }, by rw [List.getElem?_map, List.getElem?_set_ne (by omega), List.getElem?_set_ne (by omega), hx]; rfl, rfl, rfl, rfl⟩

/-- behind the last Append -/
theorem last_of {L : List QN} {n0 p q ni nk : QN} {l : List (Nat × List UInt8)} {X : F} {vp vi : Value} (h : Behind L n0 p q l X)
    (hi : ((L.set 0 { n0 with inn := n0.inn.eraseIdx 1, vi := vp }).set 2 { q with par := -1 })[2]? = some ni) (hk : ((L.set 0 { n0 with inn := n0.inn.eraseIdx 1, vi := vp }).set 2 { q with par := -1 })[1]? = some nk) :
    ∃ m0 m1 m2, ∀ L4, L4 = ((((L.set 0 { n0 with inn := n0.inn.eraseIdx 1, vi := vp }).set 2 { q with par := -1 }).set 2 { ni with par := ((1 : Nat) : Int) }).set 1 { nk with inn := nk.inn ++ [⟨2, [], .slice none 0 0⟩], vi := vi }) →
      L4[0]? = some m0 ∧ m0.nm = [] ∧ m0.ats = [] ∧ L4[1]? = some m1 ∧ m1.par = 0 ∧ L4[2]? = some m2 ∧ m2.par = 1 ∧ T (L4.map ab) (m0.inn.map abp) (.cons [112] [] [] (.cons [113] [] [] X .nil) .nil) := by
  have hl : 2 < L.length := (List.getElem?_eq_some_iff.1 h.a2).1
  rw [List.getElem?_set_self (by rw [List.length_set]; exact hl)] at hi
  rw [List.getElem?_set_ne (by decide), List.getElem?_set_ne (by decide), h.a1] at hk
  injection hi with hi
  injection hk with hk
  subst hi hk
  have e0 := h.e0
  have hm0 : n0.nm = [] := congrArg MN.nm e0
  have ha0 : n0.ats = [] := congrArg MN.ats e0
  have hi0 : n0.inn.map abp = [(1, []), (2, [])] := congrArg MN.inn e0
  refine ⟨{ n0 with inn := n0.inn.eraseIdx 1, vi := vp }, { p with inn := p.inn ++ [⟨2, [], .slice none 0 0⟩], vi := vi }, { q with par := ((1 : Nat) : Int) }, ?_⟩
  rintro L4 rfl
  have z0 : ((((L.set 0 { n0 with inn := n0.inn.eraseIdx 1, vi := vp }).set 2 { q with par := -1 }).set 2 { { q with par := -1 } with par := ((1 : Nat) : Int) }).set 1 { p with inn := p.inn ++ [⟨2, [], .slice none 0 0⟩], vi := vi })[0]? = some { n0 with inn := n0.inn.eraseIdx 1, vi := vp } := by
    rw [List.getElem?_set_ne (by decide), List.getElem?_set_ne (by decide), List.getElem?_set_ne (by decide), List.getElem?_set_self (by omega)]
  have z1 : ((((L.set 0 { n0 with inn := n0.inn.eraseIdx 1, vi := vp }).set 2 { q with par := -1 }).set 2 { { q with par := -1 } with par := ((1 : Nat) : Int) }).set 1 { p with inn := p.inn ++ [⟨2, [], .slice none 0 0⟩], vi := vi })[1]? = some { p with inn := p.inn ++ [⟨2, [], .slice none 0 0⟩], vi := vi } := by
    rw [List.getElem?_set_self (by simp; omega)]
  have z2 : ((((L.set 0 { n0 with inn := n0.inn.eraseIdx 1, vi := vp }).set 2 { q with par := -1 }).set 2 { { q with par := -1 } with par := ((1 : Nat) : Int) }).set 1 { p with inn := p.inn ++ [⟨2, [], .slice none 0 0⟩], vi := vi })[2]? = some { q with par := ((1 : Nat) : Int) } := by
    rw [List.getElem?_set_ne (by decide), List.getElem?_set_self (by simp; omega)]
  have f1 : p.nm = [112] ∧ p.ats = [] ∧ p.par = 0 ∧ p.inn.map abp = [] := ⟨congrArg MN.nm h.e1, congrArg MN.ats h.e1, congrArg MN.par h.e1, congrArg MN.inn h.e1⟩
  have f2 : q.nm = [113] ∧ q.ats = [] ∧ q.inn.map abp = l := ⟨congrArg MN.nm h.e2, congrArg MN.ats h.e2, congrArg MN.inn h.e2⟩
  refine ⟨z0, hm0, ha0, z1, f1.2.2.1, z2, rfl, ?_⟩
  have g0 : (n0.inn.eraseIdx 1).map abp = [(1, [])] := by
    obtain ⟨x, y, hxy⟩ : ∃ x y, n0.inn = [x, y] := by
      have hl2 : n0.inn.length = 2 := by rw [← List.length_map (f := abp), hi0]; rfl
      match n0.inn, hl2 with
      | [x, y], _ => exact ⟨x, y, rfl⟩
    rw [hxy] at hi0 ⊢
    simp only [List.map_cons, List.map_nil, List.cons.injEq] at hi0
    show [abp x] = _
    rw [hi0.1]
  show T _ ((n0.inn.eraseIdx 1).map abp) _
  rw [g0]
  refine ⟨(1, []), [], rfl, rfl, Or.inr ⟨by decide, rfl, _, by rw [List.getElem?_map, z1]; rfl, f1.1.symm, f1.2.1.symm, ?_⟩⟩
  show T _ ((p.inn ++ [_]).map abp) _
  rw [List.map_append, f1.2.2.2]
  refine ⟨(2, []), [], rfl, rfl, Or.inr ⟨by decide, rfl, _, by rw [List.getElem?_map, z2]; rfl, f2.1.symm, f2.2.1.symm, ?_⟩⟩
  show T _ (q.inn.map abp) _
  rw [f2.2.2]
  refine TG.t (k := 2) (TG.frame2 (fun j n hj hn => ?_) h.t2)
  refine ⟨n, ?_, rfl, rfl, rfl⟩
  rw [List.getElem?_map, List.getElem?_set_ne (by omega), List.getElem?_set_ne (by omega), List.getElem?_set_ne (by omega), List.getElem?_set_ne (by omega), ← List.getElem?_map]
  exact hn
end Go.Proofs.Ytpnjjpbgbdicoaa
