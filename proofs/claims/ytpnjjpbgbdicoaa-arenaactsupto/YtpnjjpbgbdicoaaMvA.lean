/- Move: what its stores do to the arena, ahead of the walk. -/
import Derived.Test.YtpnjjpbgbdicoaaApd
namespace Go.Proofs.Ytpnjjpbgbdicoaa
open Go.RowKit Go.Lib
open At (Str cellsA cellsA_len Sl)

variable {B R cp : Nat} {L : List QN} {vn : Value} {w : World}

theorem setCell_swap (w : World) (g i j : Nat) (u v : Value) (hij : i ≠ j) : (w.setCell ⟨g, i, none⟩ u).setCell ⟨g, j, none⟩ v = (w.setCell ⟨g, j, none⟩ v).setCell ⟨g, i, none⟩ u := by
  unfold World.setCell
  congr 1
  refine Array.ext_getElem? fun q => ?_
  simp only [Array.getElem?_modify]
  by_cases hq : g = q
  · subst hq
    simp only [if_true, Option.map_map]
    congr 1
    funext o
    cases o <;> simp only [Function.comp, Option.isSome_none, Bool.false_eq_true, if_false]
    congr 1
    refine Array.ext_getElem? fun x => ?_
    simp only [Array.getElem?_setIfInBounds]
    split <;> split <;> first | rfl | omega | simp_all
  · simp only [if_neg hq]

theorem grown_both (w w' : World) (g j : Nat) (u : Value) {row : Option Nat} (h : w.grownBy w' row) (hg : g < w.heap.size) (hr : some g ≠ row) : (w.setCell ⟨g, j, none⟩ u).grownBy (w'.setCell ⟨g, j, none⟩ u) row := by
  refine ⟨h.os, h.tape, h.output, by rw [World.size_setCell, World.size_setCell]; exact h.size, fun q hq hne => ?_⟩
  rw [World.size_setCell] at hq
  by_cases hqg : q = g
  · subst hqg
    have := h.block q hq hr
    simp only [World.setCell, Array.getElem?_modify, if_true]
    rw [this]
  · rw [Below.heap_setCell _ _ _ _ hqg, Below.heap_setCell _ _ _ _ hqg]
    exact h.block q hq hne

/-- the parts' row of i behind the row of k, both heads stored: first k's, then i's -/
theorem AR.moved (h : AR B w R L cp vn) {i k : Nat} {ni nk : QN} (hi : L[i]? = some ni) (hk : L[k]? = some nk) (hik : i ≠ k) {w3 : World} {v' : Value}
    (hg : w.grownBy w3 nk.vi.ownBlock) (hv : v'.ownBlock = nk.vi.ownBlock ∨ v'.ownBlock = some w.heap.size)
    (hr : Rw B 93 2 v' (nk.inn ++ ni.inn).length (pcells (nk.inn ++ ni.inn)) w3) {g c : Nat} (hvn : vn = .slice (some ⟨g, 0, none⟩) L.length c) :
    AR B ((w3.setCell ⟨g, k * 4 + 3, none⟩ v').setCell ⟨g, i * 4 + 3, none⟩ (.slice none 0 0)) R ((L.set i { ni with inn := [], vi := .slice none 0 0 }).set k { nk with inn := nk.inn ++ ni.inn, vi := v' }) cp vn ∧
      Chg B w ((w3.setCell ⟨g, k * 4 + 3, none⟩ v').setCell ⟨g, i * 4 + 3, none⟩ (.slice none 0 0)) := by
  have hTn : Ty w g 76 := by
    obtain ⟨g', c', hv', -, -, -, hT, -⟩ := h.node hi
    rw [hvn] at hv'
    cases hv'
    exact hT
  have hin := h.inner nk (mem_of_at hk)
  have ne76 : some g ≠ nk.vi.ownBlock := hin.type_ne hTn (by decide)
  have hTn3 : Ty w3 g 76 := hTn.same (hg.block g hTn.lt ne76)
  -- i's first
  obtain ⟨a1, b1⟩ := h.updInner hi (w1 := w) (vi' := .slice none 0 0) (inn' := []) ⟨rfl, rfl, rfl, Nat.le_refl _, fun _ _ _ => rfl⟩ (Or.inr (Or.inr rfl)) (Rw.nil _ _ _ _) (fun p hp => by cases hp) (by
    refine AP.perm ?_ (flat_perm_set _ _ hi).symm
    have h0 := AP.perm h.apT (flat_perm _ hi)
    exact List.Pairwise.sublist (List.sublist_append_right _ _) h0) hvn
  have hk1 : (L.set i { ni with inn := [], vi := .slice none 0 0 })[k]? = some nk := by rw [List.getElem?_set_ne hik]; exact hk
  have hvn1 : vn = .slice (some ⟨g, 0, none⟩) (L.set i { ni with inn := [], vi := .slice none 0 0 }).length c := by rw [List.length_set]; exact hvn
  have ofw : ∀ {e kk m : Nat} {v : Value} {xs : List Value}, Rw B e kk v m xs w3 → e ≠ 76 → Rw B e kk v m xs (w3.setCell ⟨g, i * 4 + 3, none⟩ (.slice none 0 0)) := by
    intro e kk m v xs hrw hne
    refine hrw.same fun q hq => Below.heap_setCell _ _ _ _ fun e => ?_
    subst e
    exact hrw.type_ne hTn3 hne hq.symm
  obtain ⟨a2, b2⟩ := a1.updInner hk1 (w1 := w3.setCell ⟨g, i * 4 + 3, none⟩ (.slice none 0 0)) (vi' := v') (inn' := nk.inn ++ ni.inn) (grown_both w w3 g _ _ hg hTn.lt ne76) (by rw [World.size_setCell]; rcases hv with hv | hv; exact Or.inl hv; exact Or.inr (Or.inl hv)) (ofw hr (by decide))
    (fun p hp => by
      have hpt : Rw B 5 1 p.vt p.tx.length (bcells p.tx) w := by
        rcases List.mem_append.1 hp with hp | hp
        · exact h.texts nk (mem_of_at hk) p hp
        · exact h.texts ni (mem_of_at hi) p hp
      exact ofw (hpt.kept hg (hpt.types hin (by decide))) (by decide)) (by
    refine AP.perm ?_ (flat_perm_set _ _ hk1).symm
    have p1 : (vts L).Perm (ni.inn.map QP.vt ++ vts (L.eraseIdx i)) := flat_perm _ hi
    have p2 : (vts (L.set i { ni with inn := [], vi := .slice none 0 0 })).Perm (([] : List Value) ++ vts (L.eraseIdx i)) := flat_perm_set _ _ hi
    have p3 : (vts (L.set i { ni with inn := [], vi := .slice none 0 0 })).Perm (nk.inn.map QP.vt ++ vts ((L.set i { ni with inn := [], vi := .slice none 0 0 }).eraseIdx k)) := flat_perm _ hk1
    have p4 : (vts L).Perm (ni.inn.map QP.vt ++ (nk.inn.map QP.vt ++ vts ((L.set i { ni with inn := [], vi := .slice none 0 0 }).eraseIdx k))) := p1.trans (((p2.symm.trans p3)).append_left _)
    refine AP.perm h.apT (p4.trans ?_)
    show (ni.inn.map QP.vt ++ (nk.inn.map QP.vt ++ vts ((L.set i { ni with inn := [], vi := .slice none 0 0 }).eraseIdx k))).Perm ((nk.inn ++ ni.inn).map QP.vt ++ vts ((L.set i { ni with inn := [], vi := .slice none 0 0 }).eraseIdx k))
    rw [List.map_append, ← List.append_assoc]
    exact (List.perm_append_comm).append_right _) hvn1
  rw [setCell_swap _ _ _ _ _ _ (by omega)]
  exact ⟨a2, b1.trans b2⟩

/-- the nodes told by parts, put under another one -/
def rep (k : Nat) (l : List QP) (L : List QN) : List QN := L.mapIdx fun j n => if j ≠ 0 ∧ j ∈ l.map QP.el then { n with par := (k : Int) } else n

theorem rep_nil (k : Nat) (L : List QN) : rep k [] L = L := by
  unfold rep
  refine List.ext_getElem? fun j => ?_
  rw [List.getElem?_mapIdx]
  cases L[j]? <;> simp
theorem rep_len (k : Nat) (l : List QP) (L : List QN) : (rep k l L).length = L.length := by unfold rep; rw [List.length_mapIdx]
theorem rep_at (k : Nat) (l : List QP) {L : List QN} {j : Nat} {n : QN} (hn : L[j]? = some n) : (rep k l L)[j]? = some (if j ≠ 0 ∧ j ∈ l.map QP.el then { n with par := (k : Int) } else n) := by
  unfold rep
  rw [List.getElem?_mapIdx, hn]
  rfl
theorem rep_at' (k : Nat) (l : List QP) {L : List QN} {j : Nat} {n : QN} (hn : L[j]? = some n) : ∃ p, (rep k l L)[j]? = some { n with par := p } := by
  rw [rep_at k l hn]
  split
  · exact ⟨_, rfl⟩
  · exact ⟨n.par, rfl⟩
theorem rep_zero (k : Nat) (l : List QP) (p : QP) (L : List QN) (hp : p.el = 0) : rep k (l ++ [p]) L = rep k l L := by
  refine List.ext_getElem? fun j => ?_
  rcases hL : L[j]? with _ | n
  · have h1 : (rep k (l ++ [p]) L)[j]? = none := by rw [List.getElem?_eq_none_iff, rep_len]; exact List.getElem?_eq_none_iff.1 hL
    have h2 : (rep k l L)[j]? = none := by rw [List.getElem?_eq_none_iff, rep_len]; exact List.getElem?_eq_none_iff.1 hL
    rw [h1, h2]
  · rw [rep_at _ _ hL, rep_at _ _ hL]
    congr 1
    by_cases hj : j = 0
    · simp [hj]
    · have e : (j ∈ (l ++ [p]).map QP.el) ↔ j ∈ l.map QP.el := by
        rw [List.map_append, List.mem_append]
        simp only [List.map_cons, List.map_nil, List.mem_singleton, hp, or_iff_left_iff_imp]
        intro h
        exact absurd h hj
      simp only [e]
theorem rep_snoc (k : Nat) (l : List QP) (p : QP) (L : List QN) (hp : p.el ≠ 0) (hl : p.el < L.length) : ∃ m, (rep k l L)[p.el]? = some m ∧ (rep k l L).set p.el { m with par := (k : Int) } = rep k (l ++ [p]) L := by
  have hpl : L[p.el]? = some L[p.el] := List.getElem?_eq_getElem hl
  refine ⟨_, rep_at k l hpl, ?_⟩
  refine List.ext_getElem? fun j => ?_
  rcases hL : L[j]? with _ | n
  · have hj : L.length ≤ j := List.getElem?_eq_none_iff.1 hL
    rw [List.getElem?_set_ne (by omega), List.getElem?_eq_none (by rw [rep_len]; exact hj), List.getElem?_eq_none (by rw [rep_len]; exact hj)]
  · rw [rep_at k (l ++ [p]) hL]
    by_cases hj : j = p.el
    · subst hj
      rw [List.getElem?_set_self (by rw [rep_len]; exact hl)]
      rw [hpl] at hL
      injection hL with hL
      subst hL
      rw [if_pos (show p.el ≠ 0 ∧ p.el ∈ (l ++ [p]).map QP.el from ⟨hp, by simp⟩)]
      split <;> rfl
    · rw [List.getElem?_set_ne (fun e => hj e.symm), rep_at k l hL]
      have e : (j ∈ (l ++ [p]).map QP.el) ↔ j ∈ l.map QP.el := by
        rw [List.map_append, List.mem_append]
        simp only [List.map_cons, List.map_nil, List.mem_singleton, or_iff_left_iff_imp]
        intro h
        exact absurd h hj
      simp only [e]
/-- a row of parts as a source -/
theorem parts_src {v : Value} {l : List QP} (h : Rw B 93 2 v l.length (pcells l) w) (hone : ∀ x ∈ l, x.vt.oneCell' = true) : Src Try.prog 2 74 v l.length (pcells l) w := by
  rcases h.2 with ⟨rfl, h0⟩ | ⟨g, c, rfl, -, -, -, -, h5, -⟩
  · obtain rfl := List.eq_nil_of_length_eq_zero h0
    exact Src.ofNil (P := Try.prog) _ (tx := 74) (e' := 93) Try.underlying74 0
  · refine Src.ofSlice (P := Try.prog) _ (tx := 74) (e' := 93) Try.underlying74 ⟨g, 0, none⟩ l.length c (pcells l) (pcells_len l) (fun j u hj => by rw [At.add_lit, Nat.zero_add]; exact h5 j u hj) fun u hu => ?_
    obtain ⟨p, hp, hu⟩ := List.mem_flatMap.1 hu
    simp only [pc, List.mem_cons, List.not_mem_nil, or_false] at hu
    rcases hu with rfl | rfl
    · rfl
    · exact hone p hp
end Go.Proofs.Ytpnjjpbgbdicoaa
