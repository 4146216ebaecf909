/- An arena and a list upon it, in one memory: what becomes of both when an element is made, and when the list is changed. -/
import Derived.Test.YtnnidajflnandaaPu
import Derived.Test.YtnnidajflnandaaEl
import Derived.Test.YtnnidajflnandaaRs
namespace Go.Proofs.Ytnnidajflnandaa
open Go.RowKit Go.Lib
open At (Str cellsA cellsA_len Sl)

theorem Rw.ty {B e k : Nat} {v : Value} {n : Nat} {xs : List Value} {w : World} (h : Rw B e k v n xs w) {g : Nat} (hg : v.ownBlock = some g) : Ty w g e := by
  rcases h.2 with ⟨rfl, -⟩ | ⟨g', c, rfl, -, hT, -⟩
  · cases hg
  · cases hg
    exact hT

/-- the arena, where no block of its types has changed -/
theorem AR.types {B : Nat} {w w' : World} {R : Nat} {L : List QN} {cp : Nat} {vn : Value} (h : AR B w R L cp vn) (hs : ∀ g e, Ty w g e → e ≠ 68 → e ≠ 3 → w'.heap[g]? = w.heap[g]?) : AR B w' R L cp vn := by
  have st : ∀ {e kk m : Nat} {v : Value} {xs : List Value}, Rw B e kk v m xs w → e ≠ 68 → e ≠ 3 → Rw B e kk v m xs w' := fun hr h1 h2 => hr.same fun g hg => hs g _ (hr.ty hg) h1 h2
  exact ⟨h.hB, (hs R 66 h.ty (by decide) (by decide)).trans h.blk, st h.nodes (by decide) (by decide), fun n hn => st (h.attrs n hn) (by decide) (by decide), fun n hn => st (h.inner n hn) (by decide) (by decide), fun n hn p hp => st (h.texts n hn p hp) (by decide) (by decide), h.apI, h.apT⟩

/-- the list, where no block of its own has changed -/
theorem LR.chg {B Ls R : Nat} {w w' : World} {E : List Int} {v : Value} (h : LR B w Ls R E v) (hc : Chg B w w') : LR B w' Ls R E v :=
  h.same (hc.ty Ls 68 h.blk.ty (by decide) (by decide) (by decide) (by decide)) fun g hg => hc.ty g 3 (h.row.ty hg) (by decide) (by decide) (by decide) (by decide)

/-- what has become of the memory -/
structure Ev (B : Nat) (v v' : Value) (w w' : World) : Prop where
  below : Below B w w'
  keep : ∀ g e, Ty w g e → e ≠ 63 → e ≠ 113 → e ≠ 5 → e ≠ 66 → e ≠ 68 → some g ≠ v.ownBlock → w'.heap[g]? = w.heap[g]?
  own : ∀ g, g < w.heap.size → some g ≠ v.ownBlock → some g ≠ v'.ownBlock

theorem Ev.refl (B : Nat) (v : Value) (w : World) : Ev B v v w w := ⟨Below.refl _ _, fun _ _ _ _ _ _ _ _ _ => rfl, fun _ _ h => h⟩
theorem Ev.trans {B : Nat} {v v1 v2 : Value} {w w1 w2 : World} (h : Ev B v v1 w w1) (k : Ev B v1 v2 w1 w2) : Ev B v v2 w w2 :=
  ⟨h.below.trans k.below, fun g e hT h1 h2 h3 h4 h5 h6 => by
    have e1 := h.keep g e hT h1 h2 h3 h4 h5 h6
    exact (k.keep g e (hT.same e1) h1 h2 h3 h4 h5 (h.own g hT.lt h6)).trans e1, fun g hg h1 => k.own g (Nat.lt_of_lt_of_le hg h.below.size) (h.own g hg h1)⟩
theorem Ev.of_below {B : Nat} {v : Value} {w w' : World} (hB : B ≤ w.heap.size) (h : Below w.heap.size w w') : Ev B v v w w' :=
  ⟨h.mono hB, fun g _ hT _ _ _ _ _ _ => h.block g hT.lt, fun _ _ h => h⟩
theorem Ev.of_chg {B : Nat} {v : Value} {w w' : World} (h : Chg B w w') : Ev B v v w w' :=
  ⟨h.below, fun g e hT h1 h2 h3 h4 _ _ => h.ty g e hT h1 h2 h3 h4, fun _ _ h => h⟩
theorem Ev.of_chl {B Ls R : Nat} {v v' : Value} {w w' : World} {E : List Int} (hl : LR B w Ls R E v) (h : ChL Ls v v' w w') : Ev B v v' w w' :=
  ⟨⟨h.os, h.tape, h.output, h.size, fun g hg => h.same g (by have := hl.lt; have := hl.hB; omega) (by have := hl.hB; omega) (fun e => by have := hl.row.lt g e.symm; omega)⟩,
    fun g e hT _ _ _ _ h5 h6 => h.same g hT.lt (fun e' => by subst e'; exact h5 (hT.uniq hl.blk.ty)) h6, h.own⟩

theorem Ev.row {B B' e k n : Nat} {v v' u : Value} {w w' : World} {xs : List Value} (h : Ev B v v' w w') (hr : Rw B' e k u n xs w) (h1 : e ≠ 63) (h2 : e ≠ 113) (h3 : e ≠ 5) (h4 : e ≠ 66) (h5 : e ≠ 68) (ha : Apart u v) : Rw B' e k u n xs w' ∧ Apart u v' := by
  refine ⟨hr.same fun g hg => h.keep g e (hr.ty hg) h1 h2 h3 h4 h5 ?_, ?_⟩
  · rcases ha with ha | ha
    · rw [ha] at hg; cases hg
    · rw [← hg]; exact ha
  · rcases ha with ha | ha
    · exact Or.inl ha
    · cases hu : u.ownBlock with
      | none => exact Or.inl hu
      | some g =>
        right
        rw [hu] at ha ⊢
        exact h.own g (hr.ty hu).lt ha

/-- the arena and the list -/
structure ST (B : Nat) (w : World) (R Ls : Nat) (L : List QN) (E : List Int) (vn v : Value) : Prop where
  ar : AR B w R L 0 vn
  lr : LR B w Ls R E v
  ok : Ok L E
  hal : ∀ n ∈ L, n.ats.length ≤ 1000000

theorem ST.below {B R Ls : Nat} {w w' : World} {L : List QN} {E : List Int} {vn v : Value} (h : ST B w R Ls L E vn v) (hb : Below w.heap.size w w') : ST B w' R Ls L E vn v := ⟨h.ar.below hb, h.lr.below hb, h.ok, h.hal⟩

theorem Ok.more {L : List QN} {E : List Int} (h : Ok L E) (n : QN) : Ok (L ++ [n]) E := fun x hx h1 => by
  obtain ⟨h2, h3⟩ := h x hx h1
  exact ⟨h2, by simp; omega⟩

/-- an element more in the arena -/
theorem st_elem {B R Ls : Nat} {w : World} {L : List QN} {E : List Int} {vn v : Value} (h : ST B w R Ls L E vn v) (nm : List UInt8) (ats : List At.At) (a : Option Addr) (c : Nat) (hs : Sl ats a c w) (hl : L.length + 1 ≤ 8000000) (hal : ats.length ≤ 1000000) :
    Calls Try.prog 12 #[.pointer (some ⟨R, 0, none⟩), .string ⟨nm.toArray⟩, .slice a ats.length c] w fun e w' => e = .returned (.int .i64 (L.length : Int)) ∧ ∃ sa vn', ST B w' R Ls (L ++ [⟨nm, ats, sa, -1, [], .slice none 0 0⟩]) E vn' v ∧ Ev B v v w w' := by
  refine (element_any h.ar nm ats a c hs hl hal).mono ?_
  rintro e w' ⟨rfl, sa, vn', h1, h2⟩
  exact ⟨rfl, sa, vn', ⟨h1, h.lr.chg h2, h.ok.more _, fun n hn => by
    rcases List.mem_append.1 hn with hn | hn
    · exact h.hal n hn
    · simp only [List.mem_singleton] at hn; subst hn; exact hal⟩, Ev.of_chg h2⟩

/-- the list changed -/
theorem ST.chl {B R Ls : Nat} {w w' : World} {L : List QN} {E E' : List Int} {vn v v' : Value} (h : ST B w R Ls L E vn v) (hl : LR B w' Ls R E' v') (hc : ChL Ls v v' w w') (hok : Ok L E') : ST B w' R Ls L E' vn v' ∧ Ev B v v' w w' := by
  refine ⟨⟨h.ar.types fun g e hT h1 h2 => hc.same g hT.lt (fun e' => by subst e'; exact h1 (hT.uniq h.lr.blk.ty)) (fun e' => h2 (hT.uniq (h.lr.row.ty e'.symm))), hl, hok, h.hal⟩, Ev.of_chl h.lr hc⟩

theorem Ok.sub {L : List QN} {E E' : List Int} (h : Ok L E) (hs : ∀ x ∈ E', x ∈ E) : Ok L E' := fun x hx h1 => h x (hs x hx) h1
theorem Ok.push {L : List QN} {E : List Int} {x : Int} (h : Ok L E) (hx : x = -1 ∨ (0 < x ∧ x.toNat < L.length)) : Ok L (E ++ [x]) := fun y hy h1 => by
  rcases List.mem_append.1 hy with hy | hy
  · exact h y hy h1
  · simp only [List.mem_singleton] at hy
    subst hy
    rcases hx with hx | hx
    · exact absurd hx h1
    · exact hx

theorem cutA_sub (L : List QN) (n : QN) (E : List Int) : ∀ x ∈ cutA L n E, x ∈ E := by
  intro x hx
  unfold cutA at hx
  split at hx
  · exact List.mem_of_mem_eraseIdx hx
  · exact hx
theorem cutA_len (L : List QN) (n : QN) (E : List Int) : (cutA L n E).length ≤ E.length := by
  unfold cutA
  split
  · exact List.length_eraseIdx_le _ _
  · exact Nat.le_refl _

theorem st_push {B R Ls : Nat} {w : World} {L : List QN} {E : List Int} {vn v : Value} (h : ST B w R Ls L E vn v) (hl : E.length ≤ 1000000) (m : Nat) (n : QN) (hm : m ≠ 0) (hn : L[m]? = some n) :
    Calls Try.prog 14 #[.pointer (some ⟨Ls, 0, none⟩), .int .i64 (m : Int)] w fun e w' => e = .returned (.tuple #[]) ∧ ∃ v', ST B w' R Ls L (psh L n E m) vn v' ∧ Ev B v v' w w' := by
  refine (push_any h.ar h.lr h.ok hl h.hal m n hm hn).mono ?_
  rintro e w' ⟨rfl, v', h1, h2⟩
  obtain ⟨h3, h4⟩ := h.chl h1 h2 ((h.ok.sub (cutA_sub L n E)).push (Or.inr ⟨by omega, by have := (List.getElem?_eq_some_iff.1 hn).1; simpa using this⟩))
  exact ⟨rfl, v', h3, h4⟩
theorem st_mark {B R Ls : Nat} {w : World} {L : List QN} {E : List Int} {vn v : Value} (h : ST B w R Ls L E vn v) (hl : E.length ≤ 1000000) :
    Calls Try.prog 16 #[.pointer (some ⟨Ls, 0, none⟩)] w fun e w' => e = .returned (.tuple #[]) ∧ ∃ v', ST B w' R Ls L (E ++ [-1]) vn v' ∧ Ev B v v' w w' := by
  refine (mark_any h.lr (by omega)).mono ?_
  rintro e w' ⟨rfl, v', h1, h2⟩
  obtain ⟨h3, h4⟩ := h.chl h1 h2 (h.ok.push (Or.inl rfl))
  exact ⟨rfl, v', h3, h4⟩
theorem st_clear {B R Ls : Nat} {w : World} {L : List QN} {E : List Int} {vn v : Value} (h : ST B w R Ls L E vn v) (hl : E.length ≤ 1000000) :
    Calls Try.prog 17 #[.pointer (some ⟨Ls, 0, none⟩)] w fun e w' => e = .returned (.tuple #[]) ∧ ∃ v', ST B w' R Ls L (E.take (clrN E)) vn v' ∧ Ev B v v' w w' := by
  refine (clear_any h.lr hl).mono ?_
  rintro e w' ⟨rfl, v', h1, h2⟩
  obtain ⟨h3, h4⟩ := h.chl h1 h2 (h.ok.sub fun x hx => List.mem_of_mem_take hx)
  exact ⟨rfl, v', h3, h4⟩
theorem st_remove {B R Ls : Nat} {w : World} {L : List QN} {E : List Int} {vn v : Value} (h : ST B w R Ls L E vn v) (hl : E.length ≤ 1000000) (i : Int) :
    Calls Try.prog 19 #[.pointer (some ⟨Ls, 0, none⟩), .int .i64 i] w fun e w' => e = .returned (.tuple #[]) ∧ ∃ v', ST B w' R Ls L (rmv E i) vn v' ∧ Ev B v v' w w' := by
  refine (remove_any h.lr hl i).mono ?_
  rintro e w' ⟨rfl, v', h1, h2⟩
  obtain ⟨h3, h4⟩ := h.chl h1 h2 (h.ok.sub fun x hx => by
    unfold rmv at hx
    split at hx
    · exact hx
    · exact List.mem_of_mem_eraseIdx hx)
  exact ⟨rfl, v', h3, h4⟩
theorem st_replace {B R Ls : Nat} {w : World} {L : List QN} {E : List Int} {vn v : Value} (h : ST B w R Ls L E vn v) (hl : E.length ≤ 1000000) (i y : Int) (hy : 0 < y ∧ y.toNat < L.length) :
    Calls Try.prog 21 #[.pointer (some ⟨Ls, 0, none⟩), .int .i64 i, .int .i64 y] w fun e w' => e = .returned (.tuple #[]) ∧ ∃ v', ST B w' R Ls L (rpl E i y) vn v' ∧ Ev B v v' w w' := by
  refine (replace_any h.lr hl i y).mono ?_
  rintro e w' ⟨rfl, v', h1, h2⟩
  obtain ⟨h3, h4⟩ := h.chl h1 h2 (fun x hx hx1 => by
    unfold rpl at hx
    split at hx
    · exact h.ok x hx hx1
    · rcases List.mem_or_eq_of_mem_set hx with hx | rfl
      · exact h.ok x hx hx1
      · exact hy)
  exact ⟨rfl, v', h3, h4⟩
theorem st_insert {B R Ls : Nat} {w : World} {L : List QN} {E : List Int} {vn v : Value} (h : ST B w R Ls L E vn v) (hl : E.length ≤ 1000000) (i : Nat) (hi : i ≤ E.length) (x : Int) (hy : 0 < x ∧ x.toNat < L.length) :
    Calls Try.prog 23 #[.pointer (some ⟨Ls, 0, none⟩), .int .i64 (i : Int), .int .i64 x] w fun e w' => e = .returned (.tuple #[]) ∧ ∃ v', ST B w' R Ls L (E.take i ++ x :: E.drop i) vn v' ∧ Ev B v v' w w' := by
  refine (insert_any h.lr (by omega) i hi x).mono ?_
  rintro e w' ⟨rfl, v', h1, h2⟩
  obtain ⟨h3, h4⟩ := h.chl h1 h2 (fun z hz hz1 => by
    rcases List.mem_append.1 hz with hz | hz
    · exact h.ok z (List.mem_of_mem_take hz) hz1
    · rcases List.mem_cons.1 hz with rfl | hz
      · exact hy
      · exact h.ok z (List.mem_of_mem_drop hz) hz1)
  exact ⟨rfl, v', h3, h4⟩

/-- the empty list of a new arena -/
theorem st_new {B R : Nat} {w : World} {vn : Value} (h : AR B w R rootL 0 vn) (hB : B ≤ w.heap.size) :
    Calls Try.prog 10 #[.pointer (some ⟨R, 0, none⟩)] w fun e w' => e = .returned (.pointer (some ⟨w.heap.size, 0, none⟩)) ∧ ST B w' R w.heap.size rootL [] vn (.slice none 0 0) ∧ Below w.heap.size w w' := by
  refine (list_new R w).mono ?_
  rintro e w' ⟨rfl, rfl⟩
  exact ⟨rfl, ⟨h.below (At.below_alloc _), LR.new B R w hB, (fun x hx => by cases hx), fun n hn => by
    simp only [rootL, List.mem_singleton] at hn
    subst hn
    exact Nat.zero_le _⟩, At.below_alloc _⟩
end Go.Proofs.Ytnnidajflnandaa
