/- What the arena's doings do to its rows: one node's parts, one part's text, one node's place; all stays apart. -/
import Derived.Test.YtpnjjpbgbdicoaaAr
namespace Go.Proofs.Ytpnjjpbgbdicoaa
open Go.RowKit Go.Lib
open At (Str cellsA cellsA_len Sl)

/-- all rows apart -/
def AP (l : List Value) : Prop := l.Pairwise Apart

theorem AP.perm {l m : List Value} (h : AP l) (hp : l.Perm m) : AP m := (hp.pairwise_iff (fun h => h.symm)).1 h
theorem AP.cons {v : Value} {l : List Value} : AP (v :: l) ↔ (∀ u ∈ l, Apart v u) ∧ AP l := List.pairwise_cons

theorem perm_erase {α : Type} {l : List α} {i : Nat} {a : α} (h : l[i]? = some a) : l.Perm (a :: l.eraseIdx i) := by
  induction l generalizing i with
  | nil => simp at h
  | cons b l ih =>
    cases i with
    | zero => simp only [List.getElem?_cons_zero, Option.some.injEq] at h; subst h; exact List.Perm.refl _
    | succ i =>
      simp only [List.getElem?_cons_succ] at h
      rw [List.eraseIdx_cons_succ]
      exact ((ih h).cons b).trans (List.Perm.swap _ _ _)
theorem perm_set {α : Type} {l : List α} {i : Nat} {a : α} (b : α) (h : l[i]? = some a) : (l.set i b).Perm (b :: l.eraseIdx i) := by
  have hi : i < l.length := (List.getElem?_eq_some_iff.1 h).1
  have := perm_erase (l := l.set i b) (i := i) (a := b) (by rw [List.getElem?_set_self hi])
  rwa [List.eraseIdx_set_eq] at this

/-- one row in place of another: the same block, or one that none has -/
theorem AP.set {l : List Value} {i : Nat} {v v' : Value} (h : AP l) (hi : l[i]? = some v) (hv : v'.ownBlock = v.ownBlock ∨ ∀ u ∈ l, Apart v' u) : AP (l.set i v') := by
  refine AP.perm ?_ (perm_set v' hi).symm
  have h2 := AP.cons.1 (h.perm (perm_erase hi))
  refine AP.cons.2 ⟨fun u hu => ?_, h2.2⟩
  rcases hv with hv | hv
  · have := h2.1 u hu
    unfold Apart at *
    rw [hv]
    exact this
  · exact hv u (List.mem_of_mem_eraseIdx hu)

theorem flat_perm {α β : Type} (f : α → List β) {L : List α} {i : Nat} {a : α} (h : L[i]? = some a) : (L.flatMap f).Perm (f a ++ (L.eraseIdx i).flatMap f) := by
  have := (perm_erase h).flatMap_right f
  rwa [List.flatMap_cons] at this
theorem flat_perm_set {α β : Type} (f : α → List β) {L : List α} {i : Nat} {a : α} (b : α) (h : L[i]? = some a) : ((L.set i b).flatMap f).Perm (f b ++ (L.eraseIdx i).flatMap f) := by
  have := (perm_set b h).flatMap_right f
  rwa [List.flatMap_cons] at this

/-- the rows of all texts -/
def vts (L : List QN) : List Value := L.flatMap fun n => n.inn.map QP.vt

theorem mem_vts {L : List QN} {n : QN} {p : QP} (hn : n ∈ L) (hp : p ∈ n.inn) : p.vt ∈ vts L := List.mem_flatMap.2 ⟨n, hn, List.mem_map.2 ⟨p, hp, rfl⟩⟩
theorem of_mem_vts {L : List QN} {v : Value} (h : v ∈ vts L) : ∃ n ∈ L, ∃ p ∈ n.inn, p.vt = v := by
  obtain ⟨n, hn, hv⟩ := List.mem_flatMap.1 h
  obtain ⟨p, hp, rfl⟩ := List.mem_map.1 hv
  exact ⟨n, hn, p, hp, rfl⟩

variable {B R cp : Nat} {L : List QN} {vn : Value} {w : World}

/-- a fresh block is none of the rows' -/
theorem fresh_apart {e k n : Nat} {v v' : Value} {xs : List Value} {w : World} (h : Rw B e k v n xs w) (hv : v'.ownBlock = some w.heap.size) : Apart v' v := by
  right
  rw [hv]
  intro he
  have := (h.lt w.heap.size he.symm).2
  omega

theorem mem_set {α : Type} {l : List α} {i : Nat} {b x : α} (h : x ∈ l.set i b) : x ∈ l ∨ x = b := by
  rcases List.mem_or_eq_of_mem_set h with h | h
  · exact Or.inl h
  · exact Or.inr h

/-- the parts' row of a node changed, and its head stored: other nodes' rows are apart from it -/
theorem AR.updInner (h : AR B w R L cp vn) {k : Nat} {n : QN} (hn : L[k]? = some n) {w1 : World} {vi' : Value} {inn' : List QP}
    (hg : w.grownBy w1 n.vi.ownBlock) (hv : vi'.ownBlock = n.vi.ownBlock ∨ vi'.ownBlock = some w.heap.size ∨ vi'.ownBlock = none)
    (hr : Rw B 93 2 vi' inn'.length (pcells inn') w1) (hx : ∀ p ∈ inn', Rw B 5 1 p.vt p.tx.length (bcells p.tx) w1)
    (hap : AP (vts (L.set k { n with inn := inn', vi := vi' }))) {g c : Nat} (hvn : vn = .slice (some ⟨g, 0, none⟩) L.length c) :
    AR B (w1.setCell ⟨g, k * 4 + 3, none⟩ vi') R (L.set k { n with inn := inn', vi := vi' }) cp vn ∧ Chg B w (w1.setCell ⟨g, k * 4 + 3, none⟩ vi') := by
  have hnm := mem_of_at hn
  have hkl : k < L.length := (List.getElem?_eq_some_iff.1 hn).1
  have hTn : Ty w g 76 := by
    obtain ⟨g', c', hv', -, -, -, hT, -⟩ := h.node hn
    rw [hvn] at hv'
    cases hv'
    exact hT
  -- what the parts' row is apart from
  have hin := h.inner n hnm
  have ne76 : some g ≠ n.vi.ownBlock := hin.type_ne hTn (by decide)
  have ne79 : some R ≠ n.vi.ownBlock := hin.type_ne h.ty (by decide)
  have hTn1 : Ty w1 g 76 := hTn.same (hg.block g hTn.lt ne76)
  have hsz : (w1.setCell ⟨g, k * 4 + 3, none⟩ vi').heap.size = w1.heap.size := World.size_setCell ..
  have hRg : R ≠ g := fun e => by have := h.ty; rw [e] at this; exact absurd (this.uniq hTn) (by decide)
  have hset : ∀ q, q ≠ g → (w1.setCell ⟨g, k * 4 + 3, none⟩ vi').heap[q]? = w1.heap[q]? := fun q hq => Below.heap_setCell _ _ _ _ hq
  -- rows of other types
  have step : ∀ {e kk m : Nat} {v : Value} {xs : List Value}, Rw B e kk v m xs w1 → e ≠ 76 → Rw B e kk v m xs (w1.setCell ⟨g, k * 4 + 3, none⟩ vi') := by
    intro e kk m v xs hrw hne
    refine hrw.same fun q hq => hset q fun e => ?_
    subst e
    exact hrw.type_ne hTn1 hne hq.symm
  have stepw : ∀ {e kk m : Nat} {v : Value} {xs : List Value}, Rw B e kk v m xs w → e ≠ 76 → e ≠ 93 → Rw B e kk v m xs (w1.setCell ⟨g, k * 4 + 3, none⟩ vi') := by
    intro e kk m v xs hrw h1 h2
    exact step (hrw.kept hg (hrw.types hin h2)) h1
  refine ⟨⟨h.hB, ?_, ?_, ?_, ?_, ?_, ?_, hap⟩, ?_⟩
  · rw [hset R hRg, hg.block R h.lt ne79]
    exact h.blk
  · rw [List.length_set]
    have hnodes1 : Rw B 76 4 vn L.length (ncells L) w1 := h.nodes.kept hg (h.nodes.types hin (by decide))
    subst hvn
    have := hnodes1.set (k * 4 + 3) (by omega) vi'
    have hs := fl_set nc_len L k 3 n { n with inn := inn', vi := vi' } vi' hn (by decide) rfl
    unfold ncells at *
    rw [hs] at this
    exact this
  · intro m hm
    rcases mem_set hm with hm | rfl
    · exact stepw (h.attrs m hm) (by decide) (by decide)
    · exact stepw (h.attrs n hnm) (by decide) (by decide)
  · intro m hm
    rcases List.mem_iff_getElem?.1 hm with ⟨j, hj⟩
    by_cases hjk : j = k
    · subst hjk
      rw [List.getElem?_set_self hkl] at hj
      injection hj with hj
      subst hj
      exact step hr (by decide)
    · rw [List.getElem?_set_ne (fun e => hjk e.symm)] at hj
      have hmm := mem_of_at hj
      have hap2 : Apart m.vi n.vi := by
        have := AP.cons.1 (AP.perm h.apI (perm_erase (l := L.map QN.vi) (i := j) (a := m.vi) (by rw [List.getElem?_map, hj]; rfl)))
        refine this.1 n.vi ?_
        refine List.mem_eraseIdx_iff_getElem?.2 ⟨k, fun e => hjk e.symm, ?_⟩
        rw [List.getElem?_map, hn]
        rfl
      exact step ((h.inner m hmm).kept hg hap2) (by decide)
  · intro m hm p hp
    rcases mem_set hm with hm | rfl
    · exact stepw (h.texts m hm p hp) (by decide) (by decide)
    · exact step (hx p hp) (by decide)
  · have := AP.set (l := L.map QN.vi) (i := k) (v := n.vi) (v' := vi') h.apI (by rw [List.getElem?_map, hn]; rfl) (by
      rcases hv with hv | hv | hv
      · exact Or.inl hv
      · refine Or.inr fun u hu => ?_
        obtain ⟨m, hm, rfl⟩ := List.mem_map.1 hu
        exact fresh_apart (h.inner m hm) hv
      · exact Or.inr fun u _ => Or.inl hv)
    rw [List.map_set]
    exact this
  · have hBg : B ≤ g := by
      have := h.nodes
      subst hvn
      exact (this.lt g rfl).1
    refine ⟨((Below.refl B w).grown hg (Nat.le_trans h.hB (Nat.le_of_lt h.lt)) (fun q hq => (hin.lt q hq).1)).setCell hBg _, fun q e hT h1 h2 h3 h4 => ?_⟩
    · have hq1 : some q ≠ n.vi.ownBlock := hin.type_ne hT (fun e' => h2 e'.symm)
      rw [hset q (fun e' => by subst e'; exact h1 (hT.uniq hTn)), hg.block q hT.lt hq1]

/-- a part's text row changed, and its head stored in the parts' row -/
theorem AR.updText (h : AR B w R L cp vn) {k j : Nat} {n : QN} {p : QP} (hn : L[k]? = some n) (hp : n.inn[j]? = some p) {w1 : World} {vt' : Value} {tx' : List UInt8}
    (hg : w.grownBy w1 p.vt.ownBlock) (hv : vt'.ownBlock = p.vt.ownBlock ∨ vt'.ownBlock = some w.heap.size)
    (hr : Rw B 5 1 vt' tx'.length (bcells tx') w1) {gi c : Nat} (hvi : n.vi = .slice (some ⟨gi, 0, none⟩) n.inn.length c) :
    AR B (w1.setCell ⟨gi, j * 2 + 1, none⟩ vt') R (L.set k { n with inn := n.inn.set j { p with tx := tx', vt := vt' } }) cp vn ∧ Chg B w (w1.setCell ⟨gi, j * 2 + 1, none⟩ vt') := by
  have hnm := mem_of_at hn
  have hpm := mem_of_at hp
  have hkl : k < L.length := (List.getElem?_eq_some_iff.1 hn).1
  have hjl : j < n.inn.length := (List.getElem?_eq_some_iff.1 hp).1
  have hin := h.inner n hnm
  have hpt := h.texts n hnm p hpm
  have hTi : Ty w gi 93 := by
    obtain ⟨g', c', hv', -, -, -, hT, -⟩ := hin.part hp
    rw [hvi] at hv'
    cases hv'
    exact hT
  have ne93 : some gi ≠ p.vt.ownBlock := hpt.type_ne hTi (by decide)
  have ne79 : some R ≠ p.vt.ownBlock := hpt.type_ne h.ty (by decide)
  have hTi1 : Ty w1 gi 93 := hTi.same (hg.block gi hTi.lt ne93)
  have hRg : R ≠ gi := fun e => by have := h.ty; rw [e] at this; exact absurd (this.uniq hTi) (by decide)
  have hset : ∀ q, q ≠ gi → (w1.setCell ⟨gi, j * 2 + 1, none⟩ vt').heap[q]? = w1.heap[q]? := fun q hq => Below.heap_setCell _ _ _ _ hq
  have step : ∀ {e kk m : Nat} {v : Value} {xs : List Value}, Rw B e kk v m xs w1 → e ≠ 93 → Rw B e kk v m xs (w1.setCell ⟨gi, j * 2 + 1, none⟩ vt') := by
    intro e kk m v xs hrw hne
    refine hrw.same fun q hq => hset q fun e => ?_
    subst e
    exact hrw.type_ne hTi1 hne hq.symm
  have stepw : ∀ {e kk m : Nat} {v : Value} {xs : List Value}, Rw B e kk v m xs w → e ≠ 5 → e ≠ 93 → Rw B e kk v m xs (w1.setCell ⟨gi, j * 2 + 1, none⟩ vt') := by
    intro e kk m v xs hrw h1 h2
    exact step (hrw.kept hg (hrw.types hpt h1)) h2
  have hperm : (vts L).Perm (p.vt :: ((n.inn.eraseIdx j).map QP.vt ++ vts (L.eraseIdx k))) := by
    refine (flat_perm _ hn).trans ?_
    have := ((perm_erase hp).map QP.vt).append_right (vts (L.eraseIdx k))
    exact this
  have hperm' : (vts (L.set k { n with inn := n.inn.set j { p with tx := tx', vt := vt' } })).Perm (vt' :: ((n.inn.eraseIdx j).map QP.vt ++ vts (L.eraseIdx k))) := by
    refine (flat_perm_set _ _ hn).trans ?_
    have := ((perm_set { p with tx := tx', vt := vt' } hp).map QP.vt).append_right (vts (L.eraseIdx k))
    exact this
  have hap0 := AP.cons.1 (AP.perm h.apT hperm)
  -- a text that is another one
  have other : ∀ u ∈ (n.inn.eraseIdx j).map QP.vt ++ vts (L.eraseIdx k), ∀ {m : Nat} {xs : List Value}, Rw B 5 1 u m xs w → Rw B 5 1 u m xs (w1.setCell ⟨gi, j * 2 + 1, none⟩ vt') := by
    intro u hu m xs hrw
    exact step (hrw.kept hg (hap0.1 u hu).symm) (by decide)
  refine ⟨⟨h.hB, ?_, ?_, ?_, ?_, ?_, ?_, ?_⟩, ?_⟩
  · rw [hset R hRg, hg.block R h.lt ne79]
    exact h.blk
  · rw [List.length_set]
    have : ncells (L.set k { n with inn := n.inn.set j { p with tx := tx', vt := vt' } }) = ncells L := by
      have hs := fl_set nc_len L k 3 n { n with inn := n.inn.set j { p with tx := tx', vt := vt' } } n.vi hn (by decide) rfl
      unfold ncells
      rw [← hs]
      refine List.ext_getElem? fun i => ?_
      by_cases hi : i = k * 4 + 3
      · subst hi
        have hat := fl_at nc_len L k 3 n hn (by decide)
        rw [List.getElem?_set_self (by rw [fl_len nc_len]; omega), hat]
        rfl
      · rw [List.getElem?_set_ne (fun e => hi e.symm)]
    rw [this]
    exact stepw h.nodes (by decide) (by decide)
  · intro m hm
    rcases mem_set hm with hm | rfl
    · exact stepw (h.attrs m hm) (by decide) (by decide)
    · exact stepw (h.attrs n hnm) (by decide) (by decide)
  · intro m hm
    rcases List.mem_iff_getElem?.1 hm with ⟨q, hq⟩
    by_cases hqk : q = k
    · subst hqk
      rw [List.getElem?_set_self hkl] at hq
      injection hq with hq
      subst hq
      show Rw B 93 2 n.vi (n.inn.set j _).length (pcells (n.inn.set j _)) _
      rw [List.length_set]
      have h1 : Rw B 93 2 n.vi n.inn.length (pcells n.inn) w1 := hin.kept hg (hin.types hpt (by decide))
      rw [hvi] at h1 ⊢
      have := h1.set (j * 2 + 1) (by omega) vt'
      have hs := fl_set pc_len n.inn j 1 p { p with tx := tx', vt := vt' } vt' hp (by decide) rfl
      unfold pcells at *
      rw [hs] at this
      exact this
    · rw [List.getElem?_set_ne (fun e => hqk e.symm)] at hq
      have hmm := mem_of_at hq
      have hap2 : Apart m.vi n.vi := by
        have := AP.cons.1 (AP.perm h.apI (perm_erase (l := L.map QN.vi) (i := q) (a := m.vi) (by rw [List.getElem?_map, hq]; rfl)))
        refine this.1 n.vi ?_
        refine List.mem_eraseIdx_iff_getElem?.2 ⟨k, fun e => hqk e.symm, ?_⟩
        rw [List.getElem?_map, hn]
        rfl
      have h1 := (h.inner m hmm).kept hg ((h.inner m hmm).types hpt (by decide))
      refine h1.same fun x hx => hset x fun e => ?_
      subst e
      rcases hap2 with h0 | h0
      · rw [h0] at hx; cases hx
      · exact h0 (by rw [hx, hvi]; rfl)
  · intro m hm q hq
    rcases List.mem_iff_getElem?.1 hm with ⟨x, hx⟩
    by_cases hxk : x = k
    · subst hxk
      rw [List.getElem?_set_self hkl] at hx
      injection hx with hx
      subst hx
      rcases List.mem_iff_getElem?.1 hq with ⟨y, hy⟩
      by_cases hyj : y = j
      · subst hyj
        rw [List.getElem?_set_self hjl] at hy
        injection hy with hy
        subst hy
        exact step hr (by decide)
      · rw [List.getElem?_set_ne (fun e => hyj e.symm)] at hy
        exact other q.vt (List.mem_append_left _ (List.mem_map.2 ⟨q, List.mem_eraseIdx_iff_getElem?.2 ⟨y, fun e => hyj e, hy⟩, rfl⟩)) (h.texts n hnm q (mem_of_at hy))
    · rw [List.getElem?_set_ne (fun e => hxk e.symm)] at hx
      have hmm := mem_of_at hx
      exact other q.vt (List.mem_append_right _ (mem_vts (List.mem_eraseIdx_iff_getElem?.2 ⟨x, fun e => hxk e, hx⟩) hq)) (h.texts m hmm q hq)
  · have : (L.set k { n with inn := n.inn.set j { p with tx := tx', vt := vt' } }).map QN.vi = L.map QN.vi := by
      rw [List.map_set]
      refine List.ext_getElem? fun i => ?_
      by_cases hi : i = k
      · subst hi
        rw [List.getElem?_set_self (by simpa using hkl), List.getElem?_map, hn]
        rfl
      · rw [List.getElem?_set_ne (fun e => hi e.symm)]
    rw [this]
    exact h.apI
  · refine AP.perm (AP.cons.2 ⟨fun u hu => ?_, hap0.2⟩) hperm'.symm
    rcases hv with hv | hv
    · have := hap0.1 u hu
      unfold Apart at *
      rw [hv]
      exact this
    · have hu' : u ∈ vts L := hperm.mem_iff.2 (List.mem_cons_of_mem _ hu)
      obtain ⟨m, hm, q, hq, rfl⟩ := of_mem_vts hu'
      exact fresh_apart (h.texts m hm q hq) hv
  · have hBg : B ≤ gi := (hin.lt gi (by rw [hvi]; rfl)).1
    refine ⟨((Below.refl B w).grown hg (Nat.le_trans h.hB (Nat.le_of_lt h.lt)) (fun q hq => (hpt.lt q hq).1)).setCell hBg _, fun q e hT h1 h2 h3 h4 => ?_⟩
    have hq1 : some q ≠ p.vt.ownBlock := hpt.type_ne hT (fun e' => h3 e'.symm)
    rw [hset q (fun e' => by subst e'; exact h2 (hT.uniq hTi)), hg.block q hT.lt hq1]
end Go.Proofs.Ytpnjjpbgbdicoaa
