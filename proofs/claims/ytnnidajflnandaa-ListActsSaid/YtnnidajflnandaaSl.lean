/- The library's Clone, Delete and Insert of integers, over rows of one's own. -/
import Derived.Test.YtnnidajflnandaaCl
import Derived.Test.YtnnidajflnandaaShelf
namespace Go.Proofs.Ytnnidajflnandaa
open Go.RowKit Go.Lib

theorem ints_take (E : List Int) (k : Nat) : (ints E).take k = ints (E.take k) := by unfold ints; rw [List.map_take]
theorem ints_drop (E : List Int) (k : Nat) : (ints E).drop k = ints (E.drop k) := by unfold ints; rw [List.map_drop]
theorem ints_append (E D : List Int) : ints (E ++ D) = ints E ++ ints D := by unfold ints; rw [List.map_append]
theorem ints_one (E : List Int) : ∀ u ∈ ints E, u.oneCell' = true := by
  intro u hu
  obtain ⟨x, -, rfl⟩ := List.mem_map.1 hu
  rfl

theorem clone_ints {B : Nat} {v : Value} {E : List Int} {w : World} (h : Rw B 3 1 v E.length (ints E) w) (hl : E.length ≤ 8000000) :
    Calls Try.prog 37 #[v] w fun e w' => ∃ u, e = .returned u ∧ Rw w.heap.size 3 1 u E.length (ints E) w' ∧ Below w.heap.size w w' := by
  rcases h.2 with ⟨rfl, h0⟩ | ⟨g, c, rfl, h1, hT, h3, h4, h5, h6⟩
  · refine (Try.slices_Clone_int_nil 0 0 w).mono ?_
    rintro e w' ⟨rfl, rfl⟩
    refine ⟨_, rfl, ?_, Below.refl _ _⟩
    obtain rfl : E = [] := List.eq_nil_of_length_eq_zero h0
    exact Rw.nil _ _ _ _
  · refine (Try.slices_Clone_int g 0 E.length c E w (Nat.le_refl _) (by omega) (fun j hj => by
      rw [Nat.zero_add]
      exact h5 j _ (ints_at (by rw [List.getElem?_eq_getElem hj]; simp [hj])))).mono ?_
    rintro e w' ⟨u, rfl, ho, -, hb⟩
    refine ⟨u, rfl, ?_, hb⟩
    have := Rw.of_own ho
    rw [List.take_length] at this
    exact this

theorem putRow_grown (w : World) (q g : Nat) (d : Array Int) : w.grownBy (Sort.putRow (Value.int .i64) (Sort.ahead w q) g 0 d) (some g) :=
  ⟨rfl, rfl, rfl, by simp, fun k hk hne => by
    have : g ≠ k := fun e => hne (by rw [e])
    simp [Sort.putRow, Sort.mapBlock, Sort.ahead, Array.getElem?_modify, this]⟩

theorem delete_ints {B : Nat} {v : Value} {E : List Int} {w : World} (h : Rw B 3 1 v E.length (ints E) w) (p : Nat) (hp : p < E.length) :
    Calls Try.prog 43 #[v, .int .i64 (p : Int), .int .i64 ((p + 1 : Nat) : Int)] w fun e w' => ∃ u, e = .returned u ∧ Rw B 3 1 u (E.eraseIdx p).length (ints (E.eraseIdx p)) w' ∧ w.grownBy w' v.ownBlock ∧ u.ownBlock = v.ownBlock := by
  rcases h.2 with ⟨rfl, h0⟩ | ⟨g, c, rfl, h1, hT, h3, h4, h5, h6⟩
  · omega
  · have hH : Sort.Holds (Value.int .i64) w g 0 E.toArray := fun j hj => by
      have hj' : j < E.length := by simpa using hj
      rw [Nat.zero_add]
      refine ⟨?_, (h6 j (by omega)).2⟩
      rw [h5 j _ (ints_at (List.getElem?_eq_getElem hj'))]
      simp [hj']
    refine (Try.slices_Delete_int g 0 c p (p + 1) E w hH h3 (by unfold maxLen at h4; omega) (by omega) (by omega)).mono ?_
    rintro e w' ⟨rfl, q, rfl⟩
    have he : E.eraseIdx p = E.take p ++ E.drop (p + 1) := List.eraseIdx_eq_take_drop_succ E p
    obtain ⟨D, hD⟩ : ∃ D, E.take p ++ E.drop (p + 1) = D := ⟨_, rfl⟩
    have hDl : D.length + 1 = E.length := by rw [← hD]; simp; omega
    rw [he, hD, show p + 1 - p = 1 by omega]
    have hs : (D ++ List.replicate 1 0).toArray.size = E.toArray.size := by simp; omega
    have hcell := fun j hj => Sort.cell?_putRow (Value.int .i64) (Sort.ahead w q) g 0 E.toArray (D ++ List.replicate 1 0).toArray (Sort.holds_ahead _ _ _ _ _ _ hH) hs j hj
    refine ⟨_, rfl, ⟨by simp [ints], Or.inr ⟨g, c, by rw [show E.length - 1 = D.length by omega], h1, ?_, by omega, h4, fun j u hj => ?_, fun j hj => ?_⟩⟩, putRow_grown w q g _, rfl⟩
    · obtain ⟨cur, fr, hb⟩ := hT
      exact ⟨_, fr, by simp [Sort.putRow, Sort.mapBlock, Sort.ahead, Array.getElem?_modify, hb, Sort.onCells]; rfl⟩
    · have hjD : j < D.length := by
        have := (List.getElem?_eq_some_iff.1 hj).1
        simpa [ints] using this
      have := hcell j (by simp; omega)
      rw [Nat.zero_add] at this
      rw [this, ← hj]
      simp [ints, hjD]
      rw [List.getElem?_append_left hjD, List.getElem?_eq_getElem hjD]
      rfl
    · rw [Sort.frozen?_putRow]
      refine ⟨?_, (h6 j hj).2⟩
      by_cases hjE : j < E.length
      · have := hcell j (by rw [hs]; simpa using hjE)
        rw [Nat.zero_add] at this
        rw [this]
        rfl
      · rw [Sort.cell?_putRow_other _ _ _ _ _ _ (Or.inr (Or.inr (by rw [hs]; simp; omega)))]
        exact (h6 j hj).1

/-- a row's block behind both stores of an insert -/
theorem put_between {g c : Nat} {W : World} {cs : List Value} {i n : Nat} {x : Value} (hn : cs.length = n) (hi : i ≤ n) (hc : n + 1 ≤ c) (h6 : ∀ j, j < c → (W.cell? ⟨g, j, none⟩).isSome = true ∧ W.frozen? ⟨g, j, none⟩ = false)
    (hlo : ∀ (j : Nat) (u : Value), j < i → cs[j]? = some u → W.cell? ⟨g, j, none⟩ = some u) :
    (∀ (j : Nat) (u : Value), (cs.take i ++ x :: cs.drop i)[j]? = some u → ((W.setCells g (i + 1) (cs.drop i)).setCells g i [x]).cell? ⟨g, j, none⟩ = some u) ∧
    (∀ (j : Nat) (u : Value), (cs.take i ++ x :: cs.drop i)[j]? = some u → ((W.setCells g i [x]).setCells g (i + 1) (cs.drop i)).cell? ⟨g, j, none⟩ = some u) := by
  have key : ∀ (j : Nat) (u : Value), (cs.take i ++ x :: cs.drop i)[j]? = some u → (j < i ∧ cs[j]? = some u) ∨ (j = i ∧ u = x) ∨ (i < j ∧ j - (i + 1) < (cs.drop i).length ∧ (cs.drop i)[j - (i + 1)]? = some u) := by
    intro j u hj
    rcases Nat.lt_trichotomy j i with h | h | h
    · left
      rw [List.getElem?_append_left (by simp; omega), List.getElem?_take_of_lt h] at hj
      exact ⟨h, hj⟩
    · right; left
      subst h
      rw [List.getElem?_append_right (by simp; omega)] at hj
      simp only [List.length_take, hn, Nat.min_eq_left hi, Nat.sub_self, List.getElem?_cons_zero, Option.some.injEq] at hj
      exact ⟨rfl, hj.symm⟩
    · right; right
      rw [List.getElem?_append_right (by simp; omega)] at hj
      simp only [List.length_take, hn, Nat.min_eq_left hi] at hj
      rw [show j - i = (j - (i + 1)) + 1 by omega, List.getElem?_cons_succ] at hj
      exact ⟨h, (List.getElem?_eq_some_iff.1 hj).1, hj⟩
  have hdl : (cs.drop i).length = n - i := by simp [hn]
  have h6' : ∀ (W' : World), (∀ j, j < c → (W'.cell? ⟨g, j, none⟩).isSome = true) → ∀ q, q < (cs.drop i).length → (W'.cell? ⟨g, i + 1 + q, none⟩).isSome = true := fun W' h q hq => h _ (by omega)
  constructor
  · intro j u hj
    rcases key j u hj with ⟨h, hu⟩ | ⟨rfl, rfl⟩ | ⟨h, hl, hu⟩
    · rw [World.cell?_setCells_out g _ _ _ ⟨g, j, none⟩ (fun _ _ => Or.inl h), World.cell?_setCells_out g _ _ _ ⟨g, j, none⟩ (fun _ _ => Or.inl (by show j < i + 1; omega))]
      exact hlo j u h hu
    · have := World.cell?_setCells_in g [u] j (W.setCells g (j + 1) (cs.drop j)) (fun q hq => by
        have : q = 0 := by simpa using hq
        subst this
        exact World.isSome_setCells g _ _ _ _ (h6 _ (by omega)).1) 0 (by simp)
      simpa using this
    · rw [World.cell?_setCells_out g _ _ _ ⟨g, j, none⟩ (fun _ _ => Or.inr (by show i + 1 ≤ j; omega))]
      have := World.cell?_setCells_in g (cs.drop i) (i + 1) W (h6' W fun q hq => (h6 q hq).1) (j - (i + 1)) hl
      rw [show i + 1 + (j - (i + 1)) = j by omega] at this
      rw [this]
      rw [List.getElem?_eq_getElem hl] at hu
      exact hu
  · intro j u hj
    rcases key j u hj with ⟨h, hu⟩ | ⟨rfl, rfl⟩ | ⟨h, hl, hu⟩
    · rw [World.cell?_setCells_out g _ _ _ ⟨g, j, none⟩ (fun _ _ => Or.inl (by show j < i + 1; omega)), World.cell?_setCells_out g _ _ _ ⟨g, j, none⟩ (fun _ _ => Or.inl h)]
      exact hlo j u h hu
    · rw [World.cell?_setCells_out g _ _ _ ⟨g, j, none⟩ (fun _ _ => Or.inl (by show j < j + 1; omega))]
      have := World.cell?_setCells_in g [u] j W (fun q hq => by
        have : q = 0 := by simpa using hq
        subst this
        exact (h6 _ (by omega)).1) 0 (by simp)
      simpa using this
    · have := World.cell?_setCells_in g (cs.drop i) (i + 1) (W.setCells g i [x]) (h6' _ fun q hq => World.isSome_setCells g _ _ _ _ (h6 q hq).1) (j - (i + 1)) hl
      rw [show i + 1 + (j - (i + 1)) = j by omega] at this
      rw [this]
      rw [List.getElem?_eq_getElem hl] at hu
      exact hu

/-- an integer more behind a row -/
theorem push_int {B : Nat} {v : Value} {E : List Int} {w : World} (h : Rw B 3 1 v E.length (ints E) w) (x : Int) (hl : E.length + 1 ≤ 8000000) (hB : B ≤ w.heap.size) :
    ∃ v' w2, (Builtin.append_ #[29, 29] 29 #[v, .slice (some ⟨w.heap.size, 0, none⟩) 1 1]).run Try.prog (w.alloc (.cells #[.int .i64 x] 3)) = .ok v' w2 ∧ Rw B 3 1 v' (E.length + 1) (ints E ++ ints [x]) w2 ∧
      (w.alloc (.cells #[.int .i64 x] 3)).grownBy w2 v.ownBlock ∧ (v'.ownBlock = v.ownBlock ∨ ∀ g, v'.ownBlock = some g → w.heap.size < g) := by
  obtain ⟨i, z, hi, hz, hsz, hby, hzs⟩ := row29.info
  have hA : Below w.heap.size w (w.alloc (.cells #[.int .i64 x] 3)) := At.below_alloc _
  have hs : Src Try.prog 1 29 (.slice (some ⟨w.heap.size, 0, none⟩) 1 1) 1 (ints [x]) (w.alloc (.cells #[.int .i64 x] 3)) :=
    Src.ofSlice (P := Try.prog) _ (tx := 29) (e' := 3) row29.ht ⟨w.heap.size, 0, none⟩ 1 1 (ints [x]) rfl (fun j u hj => by
      rw [At.add_lit, Nat.zero_add, cell_of_heap (heap_alloc_new w _) j, List.getElem?_toArray]
      exact hj) (ints_one [x])
  obtain ⟨v', w2, hr, h1, h2, h3, -⟩ := (h.below hA).append (P := Try.prog) 29 29 i z 8 row29.ht hi hz hsz hby hzs _ 1 (ints [x]) hs (by unfold maxLen; omega) (by omega) (by simp; omega)
  exact ⟨v', w2, hr, h1, h2, h3.imp id (fun h g hg => by rw [h] at hg; simp at hg; omega)⟩

set_option maxHeartbeats 2000000 in
set_option maxRecDepth 100000 in
/-- an element more at a place -/
theorem insert_ints {B : Nat} {v : Value} {E : List Int} {w : World} (h : Rw B 3 1 v E.length (ints E) w) (hB : B ≤ w.heap.size) (hl : E.length + 1 ≤ 8000000) (i : Nat) (hi : i ≤ E.length) (x : Int) :
    Calls Try.prog 36 #[v, .int .i64 (i : Int), .slice (some ⟨w.heap.size, 0, none⟩) 1 1] (w.alloc (.cells #[.int .i64 x] 3)) fun e w' => ∃ u, e = .returned u ∧ Rw B 3 1 u (E.take i ++ x :: E.drop i).length (ints (E.take i ++ x :: E.drop i)) w' ∧
      (w.alloc (.cells #[.int .i64 x] 3)).grownBy w' v.ownBlock ∧ (u.ownBlock = v.ownBlock ∨ ∀ g, u.ownBlock = some g → w.heap.size < g) := by
  have hA : Below w.heap.size w (w.alloc (.cells #[.int .i64 x] 3)) := At.below_alloc _
  have hW := h.below hA
  have hel : (E.take i ++ x :: E.drop i).length = E.length + 1 := by simp; omega
  have hei : ints (E.take i ++ x :: E.drop i) = (ints E).take i ++ .int .i64 x :: (ints E).drop i := by rw [ints_append, ints_take]; unfold ints; simp
  have b0 := bx_new w #[.int .i64 x] 3
  by_cases he : i = E.length
  · subst he
    obtain ⟨v', w2, hr, h1, h2, h3⟩ := push_int h x hl hB
    obtain ⟨a, c, rfl, hfit⟩ := h.slice
    rw [List.take_length, List.drop_length, ints_append, List.length_append]
    have HR := Lib.hid hr
    have H1 := Lib.hid h1
    have H2 := Lib.hid h2
    have H3 := Lib.hid h3
    have hfc := hfit.1
    have hnc : ((E.length : Int) == (E.length : Int)) = true := by simp
    clear hr h1 h2 h3 hW hel hei b0 h hA
    have walk : Calls Try.prog 36 #[.slice a E.length c, .int .i64 (E.length : Int), .slice (some ⟨w.heap.size, 0, none⟩) 1 1] (w.alloc (.cells #[.int .i64 x] 3)) fun e w' => e = .returned v' ∧ w' = w2 := by
      rcases Nat.lt_or_ge E.length c with hcc | hcc
      · go_enter Try.func36, Try.ntmps36
        go_wp2_with (at_builtin; refine Lib.wpList_append_run _ rfl (.tmp 23) (.tmp 24) 29 29 rfl _ _ rfl rfl v' w2 HR.out ?_)
        go_ret
        exact ⟨rfl, rfl⟩
      · obtain rfl : c = E.length := by omega
        go_enter Try.func36, Try.ntmps36
        go_wp2_with (at_builtin; refine Lib.wpList_append_run _ rfl (.tmp 23) (.tmp 24) 29 29 rfl _ _ rfl rfl v' w2 HR.out ?_)
        go_ret
        exact ⟨rfl, rfl⟩
    refine walk.mono ?_
    rintro e w' ⟨rfl, rfl⟩
    exact ⟨_, rfl, H1.out, H2.out, H3.out⟩
  · have hin : i < E.length := by omega
    rcases hW.2 with ⟨rfl, h0⟩ | ⟨g, c, rfl, h1, hT, h3, h4, h5, h6⟩
    · omega
    · have hT0 := hT
      obtain ⟨cur, fr, hcur⟩ := hT
      have hglt : g < w.heap.size := (h.lt g rfl).2
      simp only [Nat.mul_one] at h6
      obtain ⟨tB, kB, hsb, hkB, -⟩ := World.shape?_of_cell? (h5 0 _ (ints_at (List.getElem?_eq_getElem (show 0 < E.length by omega))))
      have hsa : (w.alloc (.cells #[.int .i64 x] 3)).shape? w.heap.size = some (3, 1) := by unfold World.shape?; rw [show (w.alloc (.cells #[.int .i64 x] 3)).heap[w.heap.size]? = _ from b0]; rfl
      have hvs : ∀ (j : Nat) (v : Value), [Value.int .i64 x][j]? = some v → (w.alloc (.cells #[.int .i64 x] 3)).cell? ⟨w.heap.size, 0 + j, none⟩ = some v := fun j v hj => by
        rw [Nat.zero_add, b0.cell j, List.getElem?_toArray]
        exact hj
      have hone1 : ∀ v ∈ [Value.int .i64 x], v.oneCell' = true := fun v hv => by simp only [List.mem_singleton] at hv; rw [hv]; rfl
      by_cases hroom : E.length + 1 ≤ c
      · refine (Any2.slices_Insert_int_shift Try.lays2i g 0 E.length c i w.heap.size 0 1 1 (ints E) [.int .i64 x] _ hin (by decide) hroom (by unfold maxLen at h4; omega) (by omega) (ints_len E) rfl
          (fun j v hj => by rw [Nat.zero_add]; exact h5 j v hj) (fun j hj => by rw [Nat.zero_add]; exact (h6 j (by omega)).1) (fun j hj => by rw [Nat.zero_add]; exact (h6 j (by omega)).2) hvs (ints_one E) hone1 3 tB 1 kB hsa hsb (by omega) (b0.fr 0) (b0.fr 1)).mono ?_
        rintro e w' ⟨rfl, rfl⟩
        rw [Nat.zero_add, Nat.zero_add]
        refine ⟨_, rfl, ⟨by simp [ints], Or.inr ⟨g, c, by rw [hel], h1, ?_, by omega, h4, ?_, fun j hj => ?_⟩⟩, ?_, Or.inl rfl⟩
        · exact Ty.setCells g _ _ _ (Ty.setCells g _ _ _ hT0)
        · rw [hei]
          exact (put_between (ints_len E) hi hroom (W := (w.alloc (.cells #[.int .i64 x] 3)).drew) h6 (fun j u _ hj => h5 j u hj)).1
        · rw [Nat.mul_one] at hj
          rw [World.frozen?_setCells, World.frozen?_setCells]
          exact ⟨World.isSome_setCells g _ _ _ _ (World.isSome_setCells g _ _ _ _ (h6 j hj).1), (h6 j hj).2⟩
        · exact (show (w.alloc (.cells #[.int .i64 x] 3)).grownBy (w.alloc (.cells #[.int .i64 x] 3)).drew (some g) from ⟨rfl, rfl, rfl, Nat.le_refl _, fun _ _ _ => rfl⟩).trans ((setCells_kept _ g _ _).trans (setCells_kept _ g _ _))
      · refine (Any2.slices_Insert_int_grow Try.lays2i g 0 E.length c i w.heap.size 0 1 1 (ints E) [.int .i64 x] _ hin (by decide) h3 (by omega) (by omega) (ints_len E) rfl
          (fun j v hj => by rw [Nat.zero_add]; exact h5 j v hj) hvs (ints_one E) hone1).mono ?_
        rintro e w' ⟨rfl, rfl⟩
        obtain ⟨K, hK⟩ : ∃ K, grownCap (w.alloc (.cells #[.int .i64 x] 3)) (E.length + 1) c (Try.lays2i_ren.t 3) = K := ⟨_, rfl⟩
        have hKl : E.length + 1 ≤ K := by rw [← hK]; exact grownCap_ge _ _ _ _
        have hKm : K ≤ maxLen := by rw [← hK]; exact grownCap_le_maxLen _ _ _ _ (by unfold maxLen; omega)
        rw [hK]
        obtain ⟨W, hW'⟩ : ∃ W, w.alloc (.cells #[.int .i64 x] 3) = W := ⟨_, rfl⟩
        have hWs : W.heap.size = w.heap.size + 1 := by rw [← hW']; simp
        rw [hW']
        obtain ⟨cs, hcs⟩ : ∃ cs, ((ints E).take i).toArray ++ Builtin.zeroCells (Value.int .i64 0).cells (E.length + 1 - i) ++ Builtin.zeroCells (Value.int .i64 0).cells (K - (E.length + 1)) = cs := ⟨_, rfl⟩
        have hcss : cs.size = K := by
          rw [← hcs]
          simp [ints, size_zeroCells, Value.cells]
          omega
        rw [hcs]
        obtain ⟨V, hV⟩ : ∃ V, (W.alloc (.cells cs (Try.lays2i_ren.t 3))).drew = V := ⟨_, rfl⟩
        have bV : Bx W.heap.size cs 3 V := by rw [← hV]; exact bx_new W cs 3
        have hVd : (V.setCells W.heap.size i [.int .i64 x]).drew = V.drew.setCells W.heap.size i [.int .i64 x] := rfl
        have bV' : Bx W.heap.size cs 3 V.drew := bV
        have h6V : ∀ j, j < K → (V.drew.cell? ⟨W.heap.size, j, none⟩).isSome = true ∧ V.drew.frozen? ⟨W.heap.size, j, none⟩ = false := fun j hj => by
          rw [bV'.cell j, Array.getElem?_eq_getElem (by omega)]
          exact ⟨rfl, bV'.fr j⟩
        rw [hV, hVd]
        have hBW : Below W.heap.size W V := by rw [← hV]; exact (At.below_alloc _).trans ⟨rfl, rfl, rfl, Nat.le_refl _, fun _ _ => rfl⟩
        refine ⟨_, rfl, ⟨by simp [ints], Or.inr ⟨W.heap.size, K, by rw [hel], by omega, ?_, by omega, hKm, ?_, fun j hj => ?_⟩⟩, ?_, Or.inr fun q hq => ?_⟩
        · exact Ty.setCells _ _ _ _ (Ty.setCells _ _ _ _ bV'.ty)
        · rw [hei]
          refine (put_between (ints_len E) hi hKl (W := V.drew) h6V (fun j u hji hj => ?_)).2
          rw [bV'.cell j, ← hcs]
          rw [Array.getElem?_append_left (by simp [ints, size_zeroCells, Value.cells]; omega), Array.getElem?_append_left (by simp [ints]; omega), List.getElem?_toArray, List.getElem?_take_of_lt hji]
          exact hj
        · rw [Nat.mul_one] at hj
          rw [World.frozen?_setCells, World.frozen?_setCells]
          exact ⟨World.isSome_setCells _ _ _ _ _ (World.isSome_setCells _ _ _ _ _ (h6V j hj).1), (h6V j hj).2⟩
        · have k1 : W.grownBy V.drew (some W.heap.size) := ⟨hBW.os, hBW.tape, hBW.output, hBW.size, fun q hq _ => hBW.block q hq⟩
          have k2 := k1.trans ((setCells_kept V.drew W.heap.size i [.int .i64 x]).trans (setCells_kept _ W.heap.size (i + 1) ((ints E).drop i)))
          exact ⟨k2.os, k2.tape, k2.output, k2.size, fun q hq _ => k2.block q hq (by simp; omega)⟩
        · simp only [Value.ownBlock, Option.some.injEq] at hq
          omega
end Go.Proofs.Ytnnidajflnandaa
