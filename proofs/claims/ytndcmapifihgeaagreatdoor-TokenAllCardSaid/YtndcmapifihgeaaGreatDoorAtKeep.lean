/- Keep, walked over whatever closure: it may write what it captured, but no row of api.Attr. -/
import Derived.Test.YtndcmapifihgeaaGreatDoorAtLGets
import Derived.Shelf.Abstract
namespace Go.Proofs.YtndcmapifihgeaaGreatDoor.At
open Go.RowKit Go.Lib

/-- of the first so many those that may be -/
def kept (L : List At) (p : Nat → Bool) : Nat → List At
  | 0 => []
  | k + 1 => if p k = true then kept L p k ++ [at0 L k] else kept L p k
theorem kept_yes {L : List At} {p : Nat → Bool} {k : Nat} (h : p k = true) : kept L p (k + 1) = kept L p k ++ [at0 L k] := by
  show (if p k = true then kept L p k ++ [at0 L k] else kept L p k) = _
  rw [if_pos h]
theorem kept_no {L : List At} {p : Nat → Bool} {k : Nat} (h : p k = false) : kept L p (k + 1) = kept L p k := by
  show (if p k = true then kept L p k ++ [at0 L k] else kept L p k) = _
  rw [if_neg (by simp [h])]
theorem kept_len (L : List At) (p : Nat → Bool) : ∀ k, (kept L p k).length ≤ k
  | 0 => Nat.le_refl _
  | k + 1 => by
    have := kept_len L p k
    cases h : p k
    · rw [kept_no h]; omega
    · rw [kept_yes h]; simp; omega

/-- rows of api.Attr stay as they are -/
structure Rows34 (w w' : World) : Prop where
  size : w.heap.size ≤ w'.heap.size
  row : ∀ (g : Nat) cur f, w.heap[g]? = some (Obj.cells cur 75 f) → w'.heap[g]? = some (Obj.cells cur 75 f)

/-- all but rows of api.Attr stays as it is -/
structure But34 (w w' : World) : Prop where
  os : w'.os = w.os
  tape : w'.tape = w.tape
  output : w'.output = w.output
  size : w.heap.size ≤ w'.heap.size
  block : ∀ g : Nat, g < w.heap.size → (∀ cur f, w.heap[g]? ≠ some (Obj.cells cur 75 f)) → w'.heap[g]? = w.heap[g]?

theorem Rows34.own {w w' : World} (h : Rows34 w w') {B : Nat} {v : Value} {n : Nat} {xs : List Value} (ho : w.ownsRow B 75 2 v n xs) : w'.ownsRow B 75 2 v n xs := by
  refine ⟨ho.1, ?_⟩
  rcases ho.2 with hn | ⟨g, cap, cur, rfl, hb, hgg, rest⟩
  · exact Or.inl hn
  · exact Or.inr ⟨g, cap, cur, rfl, hb, h.row g _ _ hgg, rest⟩
theorem But34.alloc (w : World) (o : Obj) : But34 w (w.alloc o) := ⟨rfl, rfl, rfl, by simp, fun g hg _ => (World.grownBy_alloc w o none).block g hg (by simp)⟩
theorem But34.grown {w w' : World} {B : Nat} {v : Value} {n : Nat} {xs : List Value} (ho : w.ownsRow B 75 2 v n xs) (h : w.grownBy w' v.ownBlock) : But34 w w' := by
  refine ⟨h.os, h.tape, h.output, h.size, fun g hg hne => h.block g hg ?_⟩
  intro he
  rcases ho.2 with ⟨rfl, _⟩ | ⟨g', cap, cur, rfl, hb, hgg, rest⟩
  · cases he
  · simp only [Value.ownBlock, Option.some.injEq] at he
    subst he
    exact hne _ _ hgg
theorem grown_past {w w1 w2 : World} {q r : Option Nat} (h : w.grownBy w1 q) (h2 : w1.grownBy w2 r) (hr : ∀ g, r = some g → w.heap.size ≤ g) : w.grownBy w2 q :=
  ⟨h2.os.trans h.os, h2.tape.trans h.tape, h2.output.trans h.output, Nat.le_trans h.size h2.size, fun k hk hne => (h2.block k (Nat.lt_of_lt_of_le hk h.size) (fun e => by have := hr k e.symm; omega)).trans (h.block k hk hne)⟩
theorem grown_refl (w : World) (q : Option Nat) : w.grownBy w q := ⟨rfl, rfl, rfl, Nat.le_refl _, fun _ _ _ => rfl⟩

set_option maxHeartbeats 4000000 in
set_option maxRecDepth 100000 in
theorem keep_any (L : List At) (v : Value) (B0 : Nat) (fn : Nat) (caps : Array Value) (p : Nat → Bool) (I : Nat → World → Prop) (q : Option Nat) (w : World) (hen : ∀ (args : Array Value) (w : World), (callFunc fn args).run Tryz.prog w = .ok (.enter fn args) w)
    (hown : w.ownsRow B0 75 2 v L.length (cellsA L)) (hl : L.length ≤ 100000) (hq : v.ownBlock = none ∨ v.ownBlock ≠ q) (hI0 : I 0 w)
    (hst : ∀ i w1 w2, I i w1 → But34 w1 w2 → I i w2)
    (hcall : ∀ i w1, i < L.length → I i w1 → w.grownBy w1 q → Calls Tryz.prog fn (#[.agg #[.string ⟨(at0 L i).1.toArray⟩, .string ⟨(at0 L i).2.toArray⟩]] ++ caps) w1 fun e w2 => e = .returned (.bool (p i)) ∧ I (i + 1) w2 ∧ w.grownBy w2 q ∧ Rows34 w1 w2) :
    Calls Tryz.prog 78 #[v, .func (.func fn) #[] caps] w fun e w' => ∃ v', e = .returned v' ∧ w'.ownsRow w.heap.size 75 2 v' (kept L p L.length).length (cellsA (kept L p L.length)) ∧ I L.length w' ∧ w.grownBy w' q := by
  obtain ⟨a, cap, rfl, hs⟩ := sl_own hown
  go_enter Tryz.func78, Tryz.ntmps78
  go_wp2
  go_loopw [5, 10] (fun o v wr => ∃ k : Nat, v = .int .i64 k ∧ k ≤ L.length ∧ wr.ownsRow w.heap.size 75 2 o (kept L p k).length (cellsA (kept L p k)) ∧ I k wr ∧ w.grownBy wr q) (fun _ v _ => L.length - (RowKit.intOf v).toNat)
  case atStart => exact ⟨0, rfl, by omega, World.ownsRow_nil _ _ _ _, hI0, ⟨rfl, rfl, rfl, Nat.le_refl _, fun _ _ _ => rfl⟩⟩
  case round =>
    obtain ⟨k, rfl, hk, hownk, hI, hgr⟩ := hrel
    by_cases hlt : k < L.length
    · obtain ⟨a', cap', hv', hs'⟩ := sl_own (hown.kept hgr hq)
      cases hv'
      obtain ⟨hcap, hnil, h0 | ⟨b, off, rfl, hc⟩⟩ := hs'
      · subst h0; simp at hlt
      · obtain ⟨c1, c2⟩ := hc k hlt
        have h1 : (k : Int) < (L.length : Int) := by omega
        have HI := Lib.hid hI
        have HC := Lib.hid hcall
        have HST := Lib.hid hst
        have HO := Lib.hid hown
        have HK := Lib.hid hownk
        have HG := Lib.hid hgr
        have HQ := Lib.hid hq
        clear hI hcall hst hown hownk hgr hq hs hnil hc hI0
        obtain ⟨⟨x1, x2⟩, hx⟩ : ∃ x, at0 L k = x := ⟨_, rfl⟩
        have hbA : But34 wr (wr.alloc (.cells #[.string ⟨x1.toArray⟩, .string ⟨x2.toArray⟩] 75)) := But34.alloc _ _
        have hgA := grown_past HG.out (World.grownBy_alloc wr (.cells #[.string ⟨x1.toArray⟩, .string ⟨x2.toArray⟩] 75) none) (fun g hg => by cases hg)
        have hoA := HK.out.alloc (.cells #[.string ⟨x1.toArray⟩, .string ⟨x2.toArray⟩] 75)
        have cC := HC.out k _ hlt (HST.out k _ _ HI.out hbA) hgA
        rw [hx] at c1 c2 cC
        simp only at c1 c2 cC
        have HX := Lib.hid hx
        have HOA := Lib.hid hoA
        clear hx hbA hgA hoA HI
        cases hp : p k
        · rw [hp] at cC
          have HP := Lib.hid (kept_no (L := L) hp)
          clear hp
          go_wp2_with fail
          refine cC.mono ?_
          rintro e w2 ⟨rfl, hI2, hg2, hr2⟩
          have HI2 := Lib.hid hI2
          have HG2 := Lib.hid hg2
          have HO2 := Lib.hid (hr2.own HOA.out)
          clear hI2 hg2 hr2
          go_wp2
          go_roundw
          case rel => exact ⟨k + 1, by go_num, by omega, by rw [HP.out]; exact HO2.out, HI2.out, HG2.out⟩
          case measure => simp [RowKit.intOf]; omega
        · rw [hp] at cC
          have HP := Lib.hid (kept_yes (L := L) hp)
          clear hp
          go_wp2_with fail
          refine cC.mono ?_
          rintro e w2 ⟨rfl, hI2, hg2, hr2⟩
          have hrow := hr2.row wr.heap.size _ _ (heap_alloc_new wr _)
          have d1 : w2.cell? ⟨wr.heap.size, 0, none⟩ = some (.string ⟨x1.toArray⟩) := cell_of_row w2 _ 0 _ _ _ hrow
          have d2 : w2.cell? ⟨wr.heap.size, 1, none⟩ = some (.string ⟨x2.toArray⟩) := cell_of_row w2 _ 1 _ _ _ hrow
          have ho2 := hr2.own HOA.out
          have hkl := kept_len L p k
          obtain ⟨v3, w3, hr3, ho3, hg3, -⟩ := app_one elem26 w2 w.heap.size _ (kept L p k) (x1, x2) w2.heap.size rfl ho2 (by omega) hg2.size
          have HR3 := Lib.hid hr3
          have HO3 := Lib.hid ho3
          have HI3 := Lib.hid (HST.out _ _ _ hI2 (But34.grown ho2 hg3))
          have HG3 := Lib.hid (grown_past hg2 hg3 (fun g hg => (ho2.lt g hg).1))
          clear hI2 hg2 hr2 hr3 ho3 hg3 hrow ho2
          go_wp2_with (at_builtin; refine Lib.wpList_append_run _ rfl (.tmp 17) (.tmp 19) 24 24 rfl _ _ rfl rfl v3 w3 HR3.out ?_)
          go_roundw
          case rel => exact ⟨k + 1, by go_num, by omega, by rw [HP.out, HX.out]; exact HO3.out, HI3.out, HG3.out⟩
          case measure => simp [RowKit.intOf]; omega
    · have h1 : ¬ ((k : Int) < (L.length : Int)) := by omega
      obtain rfl : k = L.length := by omega
      have HK := Lib.hid hownk
      have HI := Lib.hid hI
      have HG := Lib.hid hgr
      clear hownk hI hgr hown hst hcall hq hI0 hs hen
      go_wp2
      go_ret
      exact ⟨_, rfl, HK.out, HI.out, HG.out⟩
end Go.Proofs.YtndcmapifihgeaaGreatDoor.At
