/- The program's Add and the reference's, walked. -/
import Derived.Test.YtfnecdifaodamaaDoorAtApp
namespace Go.Proofs.YtfnecdifaodamaaDoor.At
open Go.RowKit Go.Lib

theorem below_grown {B : Nat} {w w1 w2 : World} {r : Option Nat} (h : Below B w w1) (hg : w1.grownBy w2 r) (hB : B ≤ w.heap.size) (hr : ∀ k, r = some k → B ≤ k) : Below B w w2 := h.grown hg (by have := h.size; omega) hr

theorem cell_two (w : World) (x y : Value) (t : TypeId) : (w.alloc (.cells #[x, y] t)).cell? ⟨w.heap.size, 0, none⟩ = some x ∧ (w.alloc (.cells #[x, y] t)).cell? ⟨w.heap.size, 1, none⟩ = some y := ⟨by simp, by simp⟩

set_option maxHeartbeats 4000000 in
set_option maxRecDepth 100000 in
theorem radd_any (L : List At) (a : Option Addr) (cap : Nat) (x : At) (w : World) (hs : Sl L a cap w) (hl : L.length ≤ 100000) :
    Calls Tryd.prog 28 #[.slice a L.length cap, .agg #[.string ⟨x.1.toArray⟩, .string ⟨x.2.toArray⟩]] w fun e w' => ∃ v, e = .returned v ∧ w'.ownsRow w.heap.size 59 2 v (add L x).length (cellsA (add L x)) ∧ Below w.heap.size w w' := by
  obtain ⟨x1, x2⟩ := x
  simp only
  have hbA : Below w.heap.size w (w.alloc (.cells #[.string ⟨x1.toArray⟩, .string ⟨x2.toArray⟩] 59)) := below_alloc _
  have hsA := hs.below hbA
  have hb2 : Below (w.alloc (.cells #[.string ⟨x1.toArray⟩, .string ⟨x2.toArray⟩] 59)).heap.size (w.alloc (.cells #[.string ⟨x1.toArray⟩, .string ⟨x2.toArray⟩] 59)) ((w.alloc (.cells #[.string ⟨x1.toArray⟩, .string ⟨x2.toArray⟩] 59)).alloc (.cells #[] 59)) := below_alloc _
  have own2 : ((w.alloc (.cells #[.string ⟨x1.toArray⟩, .string ⟨x2.toArray⟩] 59)).alloc (.cells #[] 59)).ownsRow (w.heap.size + 1) 59 2 (.slice (some ⟨w.heap.size + 1, 0, none⟩) 0 0) ([] : List At).length (cellsA []) := by
    have := World.ownsRow_made (base := w.heap.size + 1) (e := 59) (size := 2) (w.alloc (.cells #[.string ⟨x1.toArray⟩, .string ⟨x2.toArray⟩] 59)) #[] 0 (by simp) (by simp) (by simp)
    simpa [cellsA] using this
  have hz2 : w.heap.size + 1 ≤ ((w.alloc (.cells #[.string ⟨x1.toArray⟩, .string ⟨x2.toArray⟩] 59)).alloc (.cells #[] 59)).heap.size := by have := hb2.size; simp
  obtain ⟨v3, W3, hr3, own3, gr3, -⟩ := app_sl elem22 _ (w.heap.size + 1) _ [] L a cap own2 (hsA.below hb2) (by simp; omega) hz2
  rw [List.nil_append] at own3
  have hb3 : Below (w.alloc (.cells #[.string ⟨x1.toArray⟩, .string ⟨x2.toArray⟩] 59)).heap.size (w.alloc (.cells #[.string ⟨x1.toArray⟩, .string ⟨x2.toArray⟩] 59)) W3 :=
    below_grown hb2 gr3 (Nat.le_refl _) (fun k hk => by have := (own2.lt k hk).1; simpa using this)
  obtain ⟨d1, d2⟩ := two_kept hb3
  have cF := rget_any L a cap x1 W3 (hsA.below hb3) (by omega)
  have HR3 := Lib.hid hr3
  have hbW : Below w.heap.size w W3 := hbA.trans (hb3.mono (by simp))
  have hz3 : w.heap.size + 1 ≤ W3.heap.size := by have := hb3.size; simpa using this
  clear own2 hr3 gr3 hb2 hsA hs hz2 hb3 hbA
  cases hg : get L x1 with
  | none =>
    have HG := Lib.hid (add_none (x := (x1, x2)) hg)
    rw [resG_none hg] at cF
    clear hg
    obtain ⟨v5, W5, hr5, own5, gr5, -⟩ := app_one elem22 W3 (w.heap.size + 1) v3 L (x1, x2) W3.heap.size rfl own3 (by omega) hz3
    have HR5 := Lib.hid hr5
    have HO := Lib.hid (ownsRow_base own5 (B := w.heap.size) (by omega))
    have HB := Lib.hid (below_grown hbW gr5 (Nat.le_refl _) (fun k hk => by have := (own3.lt k hk).1; omega))
    clear hr5 own5 gr5 own3 hbW
    go_enter Tryd.func28, Tryd.ntmps28
    go_wp2_with (at_builtin; refine Lib.wpList_append_run _ rfl (.tmp 8) (.tmp 9) 32 32 rfl _ _ rfl rfl v3 W3 HR3.out ?_)
    refine cF.mono ?_
    rintro e W4 ⟨rfl, rfl⟩
    go_wp2_with (at_builtin; refine Lib.wpList_append_run _ rfl (.tmp 20) (.tmp 22) 32 32 rfl _ _ rfl rfl v5 W5 HR5.out ?_)
    go_ret
    rw [HG.out]
    exact ⟨_, rfl, HO.out, HB.out⟩
  | some u =>
    have HG := Lib.hid (add_some (x := (x1, x2)) hg)
    rw [resG_some hg] at cF
    clear hg
    have HO := Lib.hid (ownsRow_base own3 (B := w.heap.size) (by omega))
    have HB := Lib.hid hbW
    clear own3 hbW
    go_enter Tryd.func28, Tryd.ntmps28
    go_wp2_with (at_builtin; refine Lib.wpList_append_run _ rfl (.tmp 8) (.tmp 9) 32 32 rfl _ _ rfl rfl v3 W3 HR3.out ?_)
    refine cF.mono ?_
    rintro e W4 ⟨rfl, rfl⟩
    go_wp2
    go_ret
    rw [HG.out]
    exact ⟨_, rfl, HO.out, HB.out⟩
end Go.Proofs.YtfnecdifaodamaaDoor.At
