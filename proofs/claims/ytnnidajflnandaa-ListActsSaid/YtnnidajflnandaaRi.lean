/- The document's Insert, walked: three appends, whose blocks are laid in one of three orders. -/
import Derived.Test.YtnnidajflnandaaRp
namespace Go.Proofs.Ytnnidajflnandaa
open Go.RowKit Go.Lib
open At (Str cellsA cellsA_len Sl)

/-- integers more behind a row of one's own; what is changed is told -/
theorem app_grown {B n m : Nat} {v x : Value} {xs news : List Value} {w : World} (h : Rw B 3 1 v n xs w) (hs : Src Try.prog 1 29 x m news w) (hl : n + m ≤ 3000000) (hB : B ≤ w.heap.size) :
    ∃ v' w', (Builtin.append_ #[29, 29] 29 #[v, x]).run Try.prog w = .ok v' w' ∧ Rw B 3 1 v' (n + m) (xs ++ news) w' ∧ Below B w w' ∧ w.grownBy w' v.ownBlock := by
  obtain ⟨i, z, hi, hz, hsz, hby, hzs⟩ := row29.info
  obtain ⟨v', w', hr, h1, h2, -, -⟩ := h.append (P := Try.prog) 29 29 i z _ row29.ht hi hz hsz hby hzs x m news hs (by unfold maxLen; omega) (by omega) hB
  exact ⟨v', w', hr, h1, (Below.refl _ _).grown h2 hB (fun q hq => (h.lt q hq).1), h2⟩

/-- one integer in a block -/
theorem x_src {u : World} {g : Nat} {x : Int} (h : Bx g #[.int .i64 x] 3 u) : Src Try.prog 1 29 (.slice (some ⟨g, 0, none⟩) 1 1) 1 (ints [x]) u := by
  have hR : Ri [x] (some ⟨g, 0, none⟩) 1 u := ⟨⟨Nat.le_refl _, fun h => by cases h⟩, Or.inr ⟨_, rfl, fun j y hj => by
    rw [h.cell j]
    match j, hj with
    | 0, hj => cases hj; rfl⟩⟩
  have := part_src (c' := 1) hR 0 1 (by simp)
  simpa using this

/-- what is there in the end -/
def Fin (w : World) (i n3 : Nat) (N1 N3 : List Int) (x : Int) (v : Value) (w' : World) : Prop := Rw w.heap.size 3 1 v (i + 1 + n3) (ints N1 ++ ints [x] ++ ints N3) w' ∧ Below w.heap.size w w'

theorem ins_late (w : World) (x1 x3 : Value) (N1 N3 : List Int) (i n3 : Nat) (x : Int) (S1 : ∀ u, Below w.heap.size w u → Src Try.prog 1 29 x1 i (ints N1) u) (S3 : ∀ u, Below w.heap.size w u → Src Try.prog 1 29 x3 n3 (ints N3) u) (hl : i + 1 + n3 ≤ 3000000) :
    ∃ v1 w1 v2 w2 v3 w3, (Builtin.append_ #[29, 29] 29 #[.slice (some ⟨w.heap.size, 0, none⟩) 0 0, x1]).run Try.prog ((w.alloc (.cells #[] 3)).drew) = .ok v1 w1 ∧ (Builtin.append_ #[29, 29] 29 #[v1, .slice (some ⟨w1.heap.size, 0, none⟩) 1 1]).run Try.prog (w1.alloc (.cells #[.int .i64 x] 3)) = .ok v2 w2 ∧ (Builtin.append_ #[29, 29] 29 #[v2, x3]).run Try.prog w2 = .ok v3 w3 ∧ Fin w i n3 N1 N3 x v3 w3 := by
  have hA : Below w.heap.size w ((w.alloc (.cells #[] 3)).drew) := (At.below_alloc _).trans ⟨rfl, rfl, rfl, Nat.le_refl _, fun _ _ => rfl⟩
  have q0 : Rw w.heap.size 3 1 (.slice (some ⟨w.heap.size, 0, none⟩) 0 0) 0 [] ((w.alloc (.cells #[] 3)).drew) := row_empty w.drew
  obtain ⟨v1, w1, r1, q1, b1, -⟩ := app_grown q0 (S1 _ hA) (by omega) hA.size
  rw [List.nil_append, Nat.zero_add] at q1
  have hB1 := hA.trans b1
  have hA1 : Below w1.heap.size w1 (w1.alloc (.cells #[.int .i64 x] 3)) := At.below_alloc _
  obtain ⟨v2, w2, r2, q2, b2, -⟩ := app_grown (q1.below hA1) (one_src w1 x) (by omega) (Nat.le_trans hB1.size hA1.size)
  have hB2 := (hB1.trans (hA1.mono hB1.size)).trans b2
  obtain ⟨v3, w3, r3, q3, b3, -⟩ := app_grown q2 (S3 _ hB2) (by omega) hB2.size
  exact ⟨v1, w1, v2, w2, v3, w3, r1, r2, r3, q3, hB2.trans b3⟩

theorem ins_early (w : World) (x1 x3 : Value) (N1 N3 : List Int) (i n3 : Nat) (x : Int) (S1 : ∀ u, Below w.heap.size w u → Src Try.prog 1 29 x1 i (ints N1) u) (S3 : ∀ u, Below w.heap.size w u → Src Try.prog 1 29 x3 n3 (ints N3) u) (hl : i + 1 + n3 ≤ 3000000)
    (X : World) (g gx : Nat) (hX : Below w.heap.size w X) (hne : gx ≠ g) (q0 : Rw w.heap.size 3 1 (.slice (some ⟨g, 0, none⟩) 0 0) 0 [] X) (hbx : Bx gx #[.int .i64 x] 3 X) :
    ∃ v1 w1 v2 w2 v3 w3, (Builtin.append_ #[29, 29] 29 #[.slice (some ⟨g, 0, none⟩) 0 0, x1]).run Try.prog X = .ok v1 w1 ∧ (Builtin.append_ #[29, 29] 29 #[v1, .slice (some ⟨gx, 0, none⟩) 1 1]).run Try.prog w1 = .ok v2 w2 ∧ (Builtin.append_ #[29, 29] 29 #[v2, x3]).run Try.prog w2 = .ok v3 w3 ∧ Fin w i n3 N1 N3 x v3 w3 := by
  obtain ⟨v1, w1, r1, q1, b1, g1⟩ := app_grown q0 (S1 _ hX) (by omega) hX.size
  rw [List.nil_append, Nat.zero_add] at q1
  have hB1 := hX.trans b1
  have hbx1 : Bx gx #[.int .i64 x] 3 w1 := (g1.block gx hbx.lt (fun e => hne (by cases e; rfl))).trans hbx
  obtain ⟨v2, w2, r2, q2, b2, -⟩ := app_grown q1 (x_src hbx1) (by omega) hB1.size
  have hB2 := hB1.trans b2
  obtain ⟨v3, w3, r3, q3, b3, -⟩ := app_grown q2 (S3 _ hB2) (by omega) hB2.size
  exact ⟨v1, w1, v2, w2, v3, w3, r1, r2, r3, q3, hB2.trans b3⟩

theorem nil_way (w : World) (x : Int) (X : World) (g gx : Nat) (hX : Below w.heap.size w X) (q0 : Rw w.heap.size 3 1 (.slice (some ⟨g, 0, none⟩) 0 0) 0 [] X) (hbx : Bx gx #[.int .i64 x] 3 X) :
    ∃ v2 w2 v3 w3, (Builtin.append_ #[29, 29] 29 #[.slice (some ⟨g, 0, none⟩) 0 0, .slice (some ⟨gx, 0, none⟩) 1 1]).run Try.prog X = .ok v2 w2 ∧ (Builtin.append_ #[29, 29] 29 #[v2, .slice none 0 0]).run Try.prog w2 = .ok v3 w3 ∧ Fin w 0 0 [] [] x v3 w3 := by
  obtain ⟨v2, w2, r2, q2, b2, -⟩ := app_grown q0 (x_src hbx) (by omega) hX.size
  have hB2 := hX.trans b2
  obtain ⟨v3, w3, r3, q3, b3, -⟩ := app_grown q2 (nil_src w2) (by omega) hB2.size
  exact ⟨v2, w2, v3, w3, r2, r3, q3, hB2.trans b3⟩

set_option maxRecDepth 100000 in
set_option maxHeartbeats 4000000 in
theorem rinsert_any (E : List Int) (a : Option Addr) (c : Nat) (w : World) (h : Ri E a c w) (ha : a = none ∨ ∃ b, a = some ⟨b, 0, none⟩) (hl : E.length ≤ 1000000) (i : Nat) (hi : i ≤ E.length) (x : Int) :
    Calls Try.prog 22 #[.slice a E.length c, .int .i64 (i : Int), .int .i64 x] w fun e w' => ∃ v, e = .returned v ∧ Rw w.heap.size 3 1 v (ins E i x).length (ints (ins E i x)) w' ∧ Below w.heap.size w w' := by
  have hcap : E.length ≤ c := h.1.1
  have hdr : ∀ u : World, Below u.heap.size u u.drew := fun _ => ⟨rfl, rfl, rfl, Nat.le_refl _, fun _ _ => rfl⟩
  obtain ⟨X2, hX2⟩ : ∃ X2, X2 = ((w.alloc (.cells #[] 3)).alloc (.cells #[.int .i64 x] 3)).drew := ⟨_, rfl⟩
  obtain ⟨X3, hX3⟩ : ∃ X3, X3 = ((w.alloc (.cells #[.int .i64 x] 3)).alloc (.cells #[] 3)).drew := ⟨_, rfl⟩
  have z1 : (w.alloc (.cells #[.int .i64 x] 3)).heap.size = w.heap.size + 1 := by simp
  have z2 : (w.alloc (.cells #[] 3)).heap.size = w.heap.size + 1 := by simp
  have b2 : Below w.heap.size w X2 := by rw [hX2]; exact ((At.below_alloc _).alloc (by simp) _).trans ((hdr _).mono (by simp; omega))
  have b3 : Below w.heap.size w X3 := by rw [hX3]; exact ((At.below_alloc _).alloc (by simp) _).trans ((hdr _).mono (by simp; omega))
  have e2 : Rw w.heap.size 3 1 (.slice (some ⟨w.heap.size, 0, none⟩) 0 0) 0 [] X2 := by rw [hX2]; exact ((row_empty w).below (At.below_alloc _)).below (hdr _)
  have e3 : Rw w.heap.size 3 1 (.slice (some ⟨w.heap.size + 1, 0, none⟩) 0 0) 0 [] X3 := by
    rw [hX3]
    have := row_empty (w.alloc (.cells #[.int .i64 x] 3))
    rw [z1] at this
    exact (this.base (Nat.le_succ _)).below (by have := hdr ((w.alloc (.cells #[.int .i64 x] 3)).alloc (.cells #[] 3)); exact this)
  have x2 : Bx (w.heap.size + 1) #[.int .i64 x] 3 X2 := by
    rw [hX2]
    have := bx_new (w.alloc (.cells #[] 3)) #[.int .i64 x] 3
    rw [z2] at this
    exact this.below (hdr _)
  have x3 : Bx w.heap.size #[.int .i64 x] 3 X3 := by
    rw [hX3]
    exact ((bx_new w #[.int .i64 x] 3).below (At.below_alloc _)).below (hdr _)
  rcases ha with rfl | ⟨b, rfl⟩
  · obtain ⟨h0, rfl⟩ := h.1.2 rfl
    obtain rfl : E = [] := List.eq_nil_of_length_eq_zero h0
    obtain rfl : i = 0 := by simpa using hi
    obtain ⟨v2, w2, v3, w3, r2, r3, q3⟩ := nil_way w x X2 w.heap.size (w.heap.size + 1) b2 e2 x2
    obtain ⟨v2', w2', v3', w3', r2', r3', q3'⟩ := nil_way w x X3 (w.heap.size + 1) w.heap.size b3 e3 x3
    rw [hX2] at r2
    rw [hX3] at r2'
    have Q := Lib.hid (And.intro q3 q3')
    have R2 := Lib.hid r2
    have R3 := Lib.hid r3
    have T2 := Lib.hid r2'
    have T3 := Lib.hid r3'
    clear r2 r3 r2' r3' q3 q3' b2 b3 e2 e3 x2 x3 hX2 hX3 h
    go_enter Try.func22, Try.ntmps22
    go_wp2
    go_region_law (first
      | (refine step_run rfl (.tmp 11) (.tmp 13) 29 29 rfl (.slice (some ⟨w.heap.size, 0, none⟩) 0 0) (.slice (some ⟨(w.heap.size + 1), 0, none⟩) 1 1) (by rfl) (by rfl) v2 w2 (by with_reducible exact R2.out) ?_)
      | (refine step_run rfl (.tmp 14) (.tmp 17) 29 29 rfl v2 (.slice none 0 0) (by rfl) (by rfl) v3 w3 (by with_reducible exact R3.out) ?_)
      | (refine step_run rfl (.tmp 11) (.tmp 13) 29 29 rfl (.slice (some ⟨(w.heap.size + 1), 0, none⟩) 0 0) (.slice (some ⟨w.heap.size, 0, none⟩) 1 1) (by rfl) (by rfl) v2' w2' (by with_reducible exact T2.out) ?_)
      | (refine step_run rfl (.tmp 14) (.tmp 17) 29 29 rfl v2' (.slice none 0 0) (by rfl) (by rfl) v3' w3' (by with_reducible exact T3.out) ?_))
    all_goals go_wp2
    all_goals go_ret
    all_goals first
      | exact ⟨v3, rfl, Q.out.1⟩
      | exact ⟨v3', rfl, Q.out.2⟩
  · have h1 : (i : Int) ≤ (c : Int) := by omega
    have h2 : (i : Int) ≤ (E.length : Int) := by omega
    have hcut := ins_cut E i x
    have hlen := ins_len E i x hi
    have S1 : ∀ u, Below w.heap.size w u → Src Try.prog 1 29 (.slice (some ⟨b, 0, none⟩) i c) i (ints ((E.drop 0).take i)) u := fun u hu => part_src (h.below hu) 0 i (by omega)
    by_cases hc : c = i
    · subst hc
      have hz : E.length - c = 0 := by omega
      rw [hz] at hlen hcut
      rw [List.take_zero] at hcut
      have S3 : ∀ u, Below w.heap.size w u → Src Try.prog 1 29 (.slice (some ⟨b, 0, none⟩) 0 0) 0 (ints []) u := fun u _ => no_src _ _ u
      have HF := Lib.hid (fun v w' (q : Fin w c 0 ((E.drop 0).take c) [] x v w') => by unfold Fin at q; rw [hcut, hlen] at q; exact q : ∀ v w', Fin w c 0 ((E.drop 0).take c) [] x v w' → Rw w.heap.size 3 1 v (ins E c x).length (ints (ins E c x)) w' ∧ Below w.heap.size w w')
      obtain ⟨v1, w1, v2, w2, v3, w3, r1, r2, r3, q3⟩ := ins_late w _ _ _ _ _ _ x S1 S3 (by omega)
      obtain ⟨v1', w1', v2', w2', v3', w3', r1', r2', r3', q3'⟩ := ins_early w _ _ _ _ _ _ x S1 S3 (by omega) X2 w.heap.size (w.heap.size + 1) b2 (by omega) e2 x2
      obtain ⟨v1'', w1'', v2'', w2'', v3'', w3'', r1'', r2'', r3'', q3''⟩ := ins_early w _ _ _ _ _ _ x S1 S3 (by omega) X3 (w.heap.size + 1) w.heap.size b3 (by omega) e3 x3
      rw [hX2] at r1'
      rw [hX3] at r1''
      have Q := Lib.hid (And.intro q3 (And.intro q3' q3''))
      have R1 := Lib.hid r1
      have R2 := Lib.hid r2
      have R3 := Lib.hid r3
      have T1 := Lib.hid r1'
      have T2 := Lib.hid r2'
      have T3 := Lib.hid r3'
      have Z1 := Lib.hid r1''
      have Z2 := Lib.hid r2''
      have Z3 := Lib.hid r3''
      clear r1 r2 r3 r1' r2' r3' r1'' r2'' r3'' q3 q3' q3'' S1 S3 b2 b3 e2 e3 x2 x3 hX2 hX3 h hcut hlen
      go_enter Try.func22, Try.ntmps22
      go_wp2
      go_region_law (first
        | (refine step_run rfl (.tmp 7) (.tmp 10) 29 29 rfl (.slice (some ⟨w.heap.size, 0, none⟩) 0 0) (.slice (some ⟨b, 0, none⟩) c c) (by rfl) (by rfl) v1 w1 (by with_reducible exact R1.out) ?_)
        | (refine step_run rfl (.tmp 11) (.tmp 13) 29 29 rfl v1 (.slice (some ⟨w1.heap.size, 0, none⟩) 1 1) (by rfl) (by rfl) v2 w2 (by with_reducible exact R2.out) ?_)
        | (refine step_run rfl (.tmp 14) (.tmp 17) 29 29 rfl v2 (.slice (some ⟨b, 0, none⟩) 0 0) (by rfl) (by rfl) v3 w3 (by with_reducible exact R3.out) ?_)
        | (refine step_run rfl (.tmp 7) (.tmp 10) 29 29 rfl (.slice (some ⟨w.heap.size, 0, none⟩) 0 0) (.slice (some ⟨b, 0, none⟩) c c) (by rfl) (by rfl) v1' w1' (by with_reducible exact T1.out) ?_)
        | (refine step_run rfl (.tmp 11) (.tmp 13) 29 29 rfl v1' (.slice (some ⟨(w.heap.size + 1), 0, none⟩) 1 1) (by rfl) (by rfl) v2' w2' (by with_reducible exact T2.out) ?_)
        | (refine step_run rfl (.tmp 14) (.tmp 17) 29 29 rfl v2' (.slice (some ⟨b, 0, none⟩) 0 0) (by rfl) (by rfl) v3' w3' (by with_reducible exact T3.out) ?_)
        | (refine step_run rfl (.tmp 7) (.tmp 10) 29 29 rfl (.slice (some ⟨(w.heap.size + 1), 0, none⟩) 0 0) (.slice (some ⟨b, 0, none⟩) c c) (by rfl) (by rfl) v1'' w1'' (by with_reducible exact Z1.out) ?_)
        | (refine step_run rfl (.tmp 11) (.tmp 13) 29 29 rfl v1'' (.slice (some ⟨w.heap.size, 0, none⟩) 1 1) (by rfl) (by rfl) v2'' w2'' (by with_reducible exact Z2.out) ?_)
        | (refine step_run rfl (.tmp 14) (.tmp 17) 29 29 rfl v2'' (.slice (some ⟨b, 0, none⟩) 0 0) (by rfl) (by rfl) v3'' w3'' (by with_reducible exact Z3.out) ?_))
      all_goals go_wp2
      all_goals go_ret
      all_goals first
        | exact ⟨v3, rfl, HF.out _ _ Q.out.1⟩
        | exact ⟨v3', rfl, HF.out _ _ Q.out.2.1⟩
        | exact ⟨v3'', rfl, HF.out _ _ Q.out.2.2⟩
    · have S3 : ∀ u, Below w.heap.size w u → Src Try.prog 1 29 (.slice (some ⟨b, i, none⟩) (E.length - i) (c - i)) (E.length - i) (ints ((E.drop i).take (E.length - i))) u := fun u hu => part_src (h.below hu) i (E.length - i) (by omega)
      have HF := Lib.hid (fun v w' (q : Fin w i (E.length - i) ((E.drop 0).take i) ((E.drop i).take (E.length - i)) x v w') => by unfold Fin at q; rw [hcut, hlen] at q; exact q : ∀ v w', Fin w i (E.length - i) ((E.drop 0).take i) ((E.drop i).take (E.length - i)) x v w' → Rw w.heap.size 3 1 v (ins E i x).length (ints (ins E i x)) w' ∧ Below w.heap.size w w')
      obtain ⟨v1, w1, v2, w2, v3, w3, r1, r2, r3, q3⟩ := ins_late w _ _ _ _ _ _ x S1 S3 (by omega)
      obtain ⟨v1', w1', v2', w2', v3', w3', r1', r2', r3', q3'⟩ := ins_early w _ _ _ _ _ _ x S1 S3 (by omega) X2 w.heap.size (w.heap.size + 1) b2 (by omega) e2 x2
      obtain ⟨v1'', w1'', v2'', w2'', v3'', w3'', r1'', r2'', r3'', q3''⟩ := ins_early w _ _ _ _ _ _ x S1 S3 (by omega) X3 (w.heap.size + 1) w.heap.size b3 (by omega) e3 x3
      rw [hX2] at r1'
      rw [hX3] at r1''
      have Q := Lib.hid (And.intro q3 (And.intro q3' q3''))
      have R1 := Lib.hid r1
      have R2 := Lib.hid r2
      have R3 := Lib.hid r3
      have T1 := Lib.hid r1'
      have T2 := Lib.hid r2'
      have T3 := Lib.hid r3'
      have Z1 := Lib.hid r1''
      have Z2 := Lib.hid r2''
      have Z3 := Lib.hid r3''
      clear r1 r2 r3 r1' r2' r3' r1'' r2'' r3'' q3 q3' q3'' S1 S3 b2 b3 e2 e3 x2 x3 hX2 hX3 h hcut hlen
      go_enter Try.func22, Try.ntmps22
      go_wp2
      go_region_law (first
        | (refine step_run rfl (.tmp 7) (.tmp 10) 29 29 rfl (.slice (some ⟨w.heap.size, 0, none⟩) 0 0) (.slice (some ⟨b, 0, none⟩) i c) (by rfl) (by rfl) v1 w1 (by with_reducible exact R1.out) ?_)
        | (refine step_run rfl (.tmp 11) (.tmp 13) 29 29 rfl v1 (.slice (some ⟨w1.heap.size, 0, none⟩) 1 1) (by rfl) (by rfl) v2 w2 (by with_reducible exact R2.out) ?_)
        | (refine step_run rfl (.tmp 14) (.tmp 17) 29 29 rfl v2 (.slice (some ⟨b, i, none⟩) (E.length - i) (c - i)) (by rfl) (by rfl) v3 w3 (by with_reducible exact R3.out) ?_)
        | (refine step_run rfl (.tmp 7) (.tmp 10) 29 29 rfl (.slice (some ⟨w.heap.size, 0, none⟩) 0 0) (.slice (some ⟨b, 0, none⟩) i c) (by rfl) (by rfl) v1' w1' (by with_reducible exact T1.out) ?_)
        | (refine step_run rfl (.tmp 11) (.tmp 13) 29 29 rfl v1' (.slice (some ⟨(w.heap.size + 1), 0, none⟩) 1 1) (by rfl) (by rfl) v2' w2' (by with_reducible exact T2.out) ?_)
        | (refine step_run rfl (.tmp 14) (.tmp 17) 29 29 rfl v2' (.slice (some ⟨b, i, none⟩) (E.length - i) (c - i)) (by rfl) (by rfl) v3' w3' (by with_reducible exact T3.out) ?_)
        | (refine step_run rfl (.tmp 7) (.tmp 10) 29 29 rfl (.slice (some ⟨(w.heap.size + 1), 0, none⟩) 0 0) (.slice (some ⟨b, 0, none⟩) i c) (by rfl) (by rfl) v1'' w1'' (by with_reducible exact Z1.out) ?_)
        | (refine step_run rfl (.tmp 11) (.tmp 13) 29 29 rfl v1'' (.slice (some ⟨w.heap.size, 0, none⟩) 1 1) (by rfl) (by rfl) v2'' w2'' (by with_reducible exact Z2.out) ?_)
        | (refine step_run rfl (.tmp 14) (.tmp 17) 29 29 rfl v2'' (.slice (some ⟨b, i, none⟩) (E.length - i) (c - i)) (by rfl) (by rfl) v3'' w3'' (by with_reducible exact Z3.out) ?_))
      all_goals go_wp2
      all_goals go_ret
      all_goals first
        | exact ⟨v3, rfl, HF.out _ _ Q.out.1⟩
        | exact ⟨v3', rfl, HF.out _ _ Q.out.2.1⟩
        | exact ⟨v3'', rfl, HF.out _ _ Q.out.2.2⟩
end Go.Proofs.Ytnnidajflnandaa
