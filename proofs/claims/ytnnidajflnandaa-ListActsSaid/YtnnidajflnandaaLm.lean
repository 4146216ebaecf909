/- The list's methods that change it, but for Push: New, All, Mark, takeOut, Remove, Replace, Insert, walked. -/
import Derived.Test.YtnnidajflnandaaSl
namespace Go.Proofs.Ytnnidajflnandaa
open Go.RowKit Go.Lib

theorem list_new (R : Nat) (w : World) :
    Calls Try.prog 10 #[.pointer (some ⟨R, 0, none⟩)] w fun e w' => e = .returned (.pointer (some ⟨w.heap.size, 0, none⟩)) ∧ w' = w.alloc (.cells #[.pointer (some ⟨R, 0, none⟩), .slice none 0 0] 68) := by
  go_enter Try.func10, Try.ntmps10
  go_wp2
  go_ret
  exact ⟨rfl, rfl⟩

theorem LR.new (B R : Nat) (w : World) (hB : B ≤ w.heap.size) : LR B (w.alloc (.cells #[.pointer (some ⟨R, 0, none⟩), .slice none 0 0] 68)) w.heap.size R [] (.slice none 0 0) :=
  ⟨hB, bx_new w _ 68, Rw.nil _ _ _ _⟩

theorem all_any {B Ls R : Nat} {w : World} {E : List Int} {v : Value} (h : LR B w Ls R E v) (hl : E.length ≤ 8000000) :
    Calls Try.prog 25 #[.pointer (some ⟨Ls, 0, none⟩)] w fun e w' => ∃ u, e = .returned u ∧ Rw w.heap.size 3 1 u E.length (ints E) w' ∧ Below w.heap.size w w' := by
  have cC := clone_ints h.row hl
  obtain ⟨a, c, rfl, -⟩ := h.row.slice
  have c1 := h.c1
  clear h
  go_enter Try.func25, Try.ntmps25
  go_wp2_with fail
  refine cC.mono ?_
  rintro e w' ⟨u, rfl, h1, hb⟩
  obtain ⟨a', c', rfl, -⟩ := h1.slice
  go_wp2
  go_ret
  exact ⟨_, rfl, h1, hb⟩

/-- a new row stored into the list's block -/
theorem store_list {B Ls R : Nat} {w w1 : World} {E E' : List Int} {v v' : Value} (h : LR B w Ls R E v) (h1 : Rw B 3 1 v' E'.length (ints E') w1) (hg : w.grownBy w1 v.ownBlock) (ho : v'.ownBlock = v.ownBlock ∨ ∀ g, v'.ownBlock = some g → w.heap.size ≤ g) :
    w1.cell? ⟨Ls, 1, none⟩ = some v ∧ w1.frozen? ⟨Ls, 1, none⟩ = false ∧ LR B (w1.setCell ⟨Ls, 1, none⟩ v') Ls R E' v' ∧ ChL Ls v v' w (w1.setCell ⟨Ls, 1, none⟩ v') := by
  have hne : some Ls ≠ v.ownBlock := h.row.type_ne h.blk.ty (by decide)
  have b1 : Bx Ls #[.pointer (some ⟨R, 0, none⟩), v] 68 w1 := (hg.block Ls h.lt hne).trans h.blk
  refine ⟨b1.cell 1, b1.fr 1, ⟨h.hB, b1.set 1 v', h1.setBox b1.ty (by decide) 1 v'⟩, ⟨hg.os, hg.tape, hg.output, by rw [World.size_setCell]; exact hg.size, fun g hgl hgn hgo => (Below.heap_setCell _ _ _ _ hgn).trans (hg.block g hgl hgo), fun g hgl hgo he => ?_⟩⟩
  rcases ho with ho | ho
  · exact hgo (he.trans ho)
  · have := ho g he.symm; omega

set_option maxRecDepth 100000 in
theorem mark_any {B Ls R : Nat} {w : World} {E : List Int} {v : Value} (h : LR B w Ls R E v) (hl : E.length + 1 ≤ 8000000) :
    Calls Try.prog 16 #[.pointer (some ⟨Ls, 0, none⟩)] w fun e w' => e = .returned (.tuple #[]) ∧ ∃ v', LR B w' Ls R (E ++ [-1]) v' ∧ ChL Ls v v' w w' := by
  have hBw : B ≤ w.heap.size := Nat.le_trans h.hB (Nat.le_of_lt h.lt)
  obtain ⟨v', w2, hr, h1, hg, ho⟩ := push_int h.row (-1) hl hBw
  obtain ⟨a', c', rfl, -⟩ := h1.slice
  have hA : w.grownBy w2 v.ownBlock := (World.grownBy_alloc w _ v.ownBlock).trans hg
  rw [← ints_append] at h1
  obtain ⟨q1, q2, q3, q4⟩ := store_list (E' := E ++ [-1]) h (by simpa using h1) hA (ho.imp id fun ho g hg => Nat.le_of_lt (ho g hg))
  obtain ⟨a, c, rfl, -⟩ := h.row.slice
  have c1 := h.c1
  have HR := Lib.hid hr
  have H3 := Lib.hid q3
  have H4 := Lib.hid q4
  clear hr h1 hg ho q3 q4 h hA
  go_enter Try.func16, Try.ntmps16
  go_wp2_with (at_builtin; refine Lib.wpList_append_run _ rfl (.tmp 6) (.tmp 7) 29 29 rfl _ _ rfl rfl _ w2 HR.out ?_)
  go_end0
  exact ⟨rfl, _, H3.out, H4.out⟩

set_option maxRecDepth 100000 in
theorem takeOut_any {B Ls R : Nat} {w : World} {E : List Int} {v : Value} (h : LR B w Ls R E v) (hl : E.length ≤ 8000000) (p : Nat) (hp : p < E.length) :
    Calls Try.prog 33 #[.pointer (some ⟨Ls, 0, none⟩), .int .i64 (p : Int)] w fun e w' => e = .returned (.tuple #[]) ∧ ∃ v', LR B w' Ls R (E.eraseIdx p) v' ∧ ChL Ls v v' w w' := by
  have cD := delete_ints h.row p hp
  have hst := fun (w1 : World) (v' : Value) (h1 : Rw B 3 1 v' (E.eraseIdx p).length (ints (E.eraseIdx p)) w1) (hg : w.grownBy w1 v.ownBlock) (ho : v'.ownBlock = v.ownBlock) => store_list h h1 hg (Or.inl ho)
  have HS := Lib.hid hst
  obtain ⟨a, c, rfl, -⟩ := h.row.slice
  have c1 := h.c1
  have hwr : IntKind.i64.wrap ((p : Int) + 1) = ((p + 1 : Nat) : Int) := by rw [wrap_small _ (by omega) (by omega)]; rfl
  clear h hst
  go_enter Try.func33, Try.ntmps33
  go_wp2_with fail
  refine cD.mono ?_
  rintro e w1 ⟨v', rfl, h1, hg, ho⟩
  obtain ⟨q1, q2, q3, q4⟩ := HS.out w1 v' h1 hg ho
  obtain ⟨a', c', rfl, -⟩ := h1.slice
  have H3 := Lib.hid q3
  have H4 := Lib.hid q4
  clear h1 hg ho q3 q4 cD
  go_wp2
  go_end0
  exact ⟨rfl, _, H3.out, H4.out⟩

/-- what Find's answer says -/
theorem plc_cases (E : List Int) (i : Int) : plc E i = -1 ∨ ∃ p : Nat, plc E i = (p : Int) ∧ p < E.length ∧ E[p]? = some i := by
  unfold plc
  split
  · exact Or.inl rfl
  · cases hf : (bw E.reverse).find? (fun p => p.2 == i) with
    | none => exact Or.inl rfl
    | some q =>
      right
      have h1 := bw_at (p := q) rfl (List.mem_of_find?_eq_some hf)
      have h2 := List.find?_some hf
      simp only [beq_iff_eq] at h2
      rw [h2] at h1
      exact ⟨q.1, rfl, (List.getElem?_eq_some_iff.1 h1).1, h1⟩

theorem ChL.below {Ls : Nat} {v v' : Value} {w w1 w2 : World} (h : ChL Ls v v' w1 w2) (hb : Below w.heap.size w w1) : ChL Ls v v' w w2 :=
  ⟨h.os.trans hb.os, h.tape.trans hb.tape, h.output.trans hb.output, Nat.le_trans hb.size h.size, fun g hg h1 h2 => (h.same g (Nat.lt_of_lt_of_le hg hb.size) h1 h2).trans (hb.block g hg), fun g hg h1 => h.own g (Nat.lt_of_lt_of_le hg hb.size) h1⟩
theorem ChL.of_below {Ls : Nat} {v : Value} {w w1 : World} (hb : Below w.heap.size w w1) : ChL Ls v v w w1 :=
  ⟨hb.os, hb.tape, hb.output, hb.size, fun g hg _ _ => hb.block g hg, fun _ _ h => h⟩

/-- what Remove leaves -/
def rmv (E : List Int) (i : Int) : List Int := if plc E i = -1 then E else E.eraseIdx (plc E i).toNat
/-- what Replace leaves -/
def rpl (E : List Int) (i y : Int) : List Int := if plc E i = -1 then E else E.set (plc E i).toNat y

set_option maxRecDepth 100000 in
theorem remove_any {B Ls R : Nat} {w : World} {E : List Int} {v : Value} (h : LR B w Ls R E v) (hl : E.length ≤ 1000000) (i : Int) :
    Calls Try.prog 19 #[.pointer (some ⟨Ls, 0, none⟩), .int .i64 i] w fun e w' => e = .returned (.tuple #[]) ∧ ∃ v', LR B w' Ls R (rmv E i) v' ∧ ChL Ls v v' w w' := by
  have cF := find_any h hl i
  rcases plc_cases E i with hp | ⟨p, hp, hpl, -⟩
  · rw [hp] at cF
    have HE := Lib.hid (show rmv E i = E by unfold rmv; rw [if_pos hp])
    go_enter Try.func19, Try.ntmps19
    go_wp2_with fail
    refine cF.mono ?_
    rintro e w' ⟨rfl, hb⟩
    go_wp2
    go_end0
    rw [HE.out]
    exact ⟨rfl, v, h.below hb, ChL.of_below hb⟩
  · rw [hp] at cF
    have HE := Lib.hid (show rmv E i = E.eraseIdx p by unfold rmv; rw [if_neg (by omega), hp]; rfl)
    have hne : ((p : Int) != -1) = true := by simp
    go_enter Try.func19, Try.ntmps19
    go_wp2_with fail
    refine cF.mono ?_
    rintro e w1 ⟨rfl, hb⟩
    have cT := takeOut_any (h.below hb) (by omega) p hpl
    go_wp2_with fail
    refine cT.mono ?_
    rintro e w' ⟨rfl, v', h1, h2⟩
    go_wp2
    go_end0
    rw [HE.out]
    exact ⟨rfl, v', h1, h2.below hb⟩

set_option maxRecDepth 100000 in
theorem replace_any {B Ls R : Nat} {w : World} {E : List Int} {v : Value} (h : LR B w Ls R E v) (hl : E.length ≤ 1000000) (i y : Int) :
    Calls Try.prog 21 #[.pointer (some ⟨Ls, 0, none⟩), .int .i64 i, .int .i64 y] w fun e w' => e = .returned (.tuple #[]) ∧ ∃ v', LR B w' Ls R (rpl E i y) v' ∧ ChL Ls v v' w w' := by
  have cF := find_any h hl i
  rcases plc_cases E i with hp | ⟨p, hp, hpl, -⟩
  · rw [hp] at cF
    have HE := Lib.hid (show rpl E i y = E by unfold rpl; rw [if_pos hp])
    go_enter Try.func21, Try.ntmps21
    go_wp2_with fail
    refine cF.mono ?_
    rintro e w' ⟨rfl, hb⟩
    go_wp2
    go_end0
    rw [HE.out]
    exact ⟨rfl, v, h.below hb, ChL.of_below hb⟩
  · rw [hp] at cF
    have HE := Lib.hid (show rpl E i y = E.set p y by unfold rpl; rw [if_neg (by omega), hp]; rfl)
    have hne : ((p : Int) != -1) = true := by simp
    go_enter Try.func21, Try.ntmps21
    go_wp2_with fail
    refine cF.mono ?_
    rintro e w1 ⟨rfl, hb⟩
    have h1 := h.below hb
    obtain ⟨g, c, rfl, -, -, -, -, hc, hf⟩ := h1.row.blk (by omega)
    have c1 := h1.c1
    have hcp := hc p _ (ints_at (List.getElem?_eq_getElem hpl))
    have hfp := hf p (by omega)
    have hpi : (p : Int) < (E.length : Int) := by omega
    have hrow := h1.row.set p (by omega) (.int .i64 y)
    have hne2 : Ls ≠ g := fun e => h1.row.type_ne h1.blk.ty (by decide) (by rw [e]; rfl)
    have hset : (ints E).set p (.int .i64 y) = ints (E.set p y) := by unfold ints; rw [List.map_set]
    rw [hset] at hrow
    have H1 := Lib.hid h1
    have HR := Lib.hid hrow
    have HB := Lib.hid hb
    clear h h1 hrow hb hc hf hset
    go_wp2
    go_end0
    rw [HE.out]
    refine ⟨rfl, .slice (some ⟨g, 0, none⟩) E.length c, ⟨H1.out.hB, H1.out.blk.other hne2 _ _, by rw [List.length_set]; exact HR.out⟩, ChL.below (show ChL Ls _ _ w1 (w1.setCell ⟨g, p, none⟩ (.int .i64 y)) from ⟨rfl, rfl, rfl, by rw [World.size_setCell]; exact Nat.le_refl _, fun q hq h1 h2 => Below.heap_setCell _ _ _ _ (fun e => h2 (by rw [e]; rfl)), fun q _ h => h⟩) HB.out⟩

set_option maxRecDepth 100000 in
theorem insert_any {B Ls R : Nat} {w : World} {E : List Int} {v : Value} (h : LR B w Ls R E v) (hl : E.length + 1 ≤ 8000000) (i : Nat) (hi : i ≤ E.length) (x : Int) :
    Calls Try.prog 23 #[.pointer (some ⟨Ls, 0, none⟩), .int .i64 (i : Int), .int .i64 x] w fun e w' => e = .returned (.tuple #[]) ∧ ∃ v', LR B w' Ls R (E.take i ++ x :: E.drop i) v' ∧ ChL Ls v v' w w' := by
  have hBw : B ≤ w.heap.size := Nat.le_trans h.hB (Nat.le_of_lt h.lt)
  have cI := insert_ints h.row hBw hl i hi x
  obtain ⟨D, hD⟩ : ∃ D, E.take i ++ x :: E.drop i = D := ⟨_, rfl⟩
  rw [hD] at cI ⊢
  have hst := fun (w1 : World) (v' : Value) (h1 : Rw B 3 1 v' D.length (ints D) w1) (hg : w.grownBy w1 v.ownBlock) ho => store_list h h1 hg ho
  have HS := Lib.hid hst
  obtain ⟨a, c, rfl, -⟩ := h.row.slice
  have c1 := h.c1
  have hii : ¬ ((i : Int) > (E.length : Int)) := by omega
  clear h hst hD
  go_enter Try.func23, Try.ntmps23
  go_wp2_with fail
  refine cI.mono ?_
  rintro e w1 ⟨v', rfl, h1, hg, ho⟩
  obtain ⟨q1, q2, q3, q4⟩ := HS.out w1 v' h1 ((World.grownBy_alloc w _ _).trans hg) (ho.imp id fun ho g hg => Nat.le_of_lt (ho g hg))
  obtain ⟨a', c', rfl, -⟩ := h1.slice
  have H3 := Lib.hid q3
  have H4 := Lib.hid q4
  clear h1 hg ho q3 q4 cI
  go_wp2
  go_end0
  exact ⟨rfl, _, H3.out, H4.out⟩
end Go.Proofs.Ytnnidajflnandaa
