/- The law AttrKeeps, walked. -/
import Derived.Test.YtmdpkolncfnfbaaAsk
namespace Go.Proofs.Ytmdpkolncfnfbaa
open Go.RowKit Go.Lib

theorem Bo.below {B : Nat → Bool} {b : Option Addr} {len cap : Nat} {w w' : World} (h : Bo B b len cap w) (hb : Below w.heap.size w w') : Bo B b len cap w' := by
  obtain ⟨h1, h2, h3 | ⟨bb, off, rfl, hc⟩⟩ := h
  · exact ⟨h1, h2, Or.inl h3⟩
  · exact ⟨h1, h2, Or.inr ⟨bb, off, rfl, fun i hi => (World.cell?_of_block (hb.block bb (World.block_lt_of_cell? w _ (hc i hi)))).trans (hc i hi)⟩⟩

theorem May.below {B : Nat → Bool} {b : Option Addr} {len cap Bm : Nat} {w w' : World} (h : May B b len cap Bm w) (hb : Below w.heap.size w w') : May B b len cap Bm w' :=
  ⟨(World.cell?_of_block (hb.block Bm (World.block_lt_of_cell? w _ h.cell))).trans h.cell, h.bo.below hb⟩

theorem May.grown {B : Nat → Bool} {b : Option Addr} {len cap Bm Bp : Nat} {w w' : World} (h : May B b len cap Bm w) (hg : w.grownBy w' (some Bp)) (hmp : Bm ≠ Bp) (hbb : ∀ ad, b = some ad → 0 < len → ad.block ≠ Bp) : May B b len cap Bm w' := by
  refine ⟨(World.cell?_of_block (hg.block Bm (World.block_lt_of_cell? w _ h.cell) (by simp; exact hmp))).trans h.cell, ?_⟩
  obtain ⟨h1, h2, h3 | ⟨bb, off, rfl, hc⟩⟩ := h.bo
  · exact ⟨h1, h2, Or.inl h3⟩
  · exact ⟨h1, h2, Or.inr ⟨bb, off, rfl, fun i hi => (World.cell?_of_block (hg.block bb (World.block_lt_of_cell? w _ (hc i hi)) (by simp; exact hbb _ rfl (by omega)))).trans (hc i hi)⟩⟩

theorem Asked.below {L : List At} {Bp B1 i : Nat} {w w' : World} (h : Asked L Bp B1 i w) (hb : Below w.heap.size w w') : Asked L Bp B1 i w' := by
  obtain ⟨v, h1, h2⟩ := h
  exact ⟨v, (hb.block Bp (lt_of_block h1)).trans h1, ownsRow_below h2 hb⟩

set_option maxHeartbeats 1000000 in
set_option maxRecDepth 100000 in
theorem attrKeeps_long (N : Nat) (a : Option Addr) (cap : Nat) (len : Nat) (b : Option Addr) (capB : Nat) (w : World) (h : 30 < N) :
    Calls Try.prog 4 #[.slice a N cap, .slice b len capB] w fun e w' => e = .returned (.bool true) ∧ Below w.heap.size w w' := by
  have hb0 : Below w.heap.size w (w.alloc (.cells #[.slice b len capB] 38)) := below_alloc _
  have h1 : (30 : Int) < (N : Int) := by omega
  go_enter Try.func4, Try.ntmps4
  go_wp2_with fail
  refine (speaks_any _).mono ?_
  rintro e w1 ⟨rfl, hb1⟩
  go_wp2_with fail
  refine (speaks_any w1).mono ?_
  rintro e w2 ⟨rfl, hb2⟩
  go_wp2
  go_ret
  exact ⟨rfl, below_trans (below_trans hb0 hb1) hb2⟩

/-- where the first loop stands -/
def WRel (L : List At) (B : Nat → Bool) (len : Nat) (w2 : World) (v5 v21 : Value) (wr : World) : Prop :=
  ∃ k : Nat, v21 = .int .i64 k ∧ k ≤ L.length ∧ wr.ownsRow w2.heap.size 24 2 v5 (kept L (may B len) k).length (cellsA (kept L (may B len) k)) ∧ Below w2.heap.size w2 wr

set_option maxHeartbeats 8000000 in
set_option maxRecDepth 100000 in
theorem attrKeeps_walk (L : List At) (a : Option Addr) (cap : Nat) (B : Nat → Bool) (b : Option Addr) (len capB : Nat) (w : World) (hs : Sl L a cap w) (ht : Bo B b len capB w) (hl : L.length ≤ 30) :
    Calls Try.prog 4 #[.slice a L.length cap, .slice b len capB] w fun e w' => e = .returned (.bool true) ∧ Below w.heap.size w w' := by
  have h1 : ¬ (30 : Int) < (L.length : Int) := by omega
  have hb0 : Below w.heap.size w (w.alloc (.cells #[.slice b len capB] 38)) := below_alloc _
  have hM0 : May B b len capB w.heap.size (w.alloc (.cells #[.slice b len capB] 38)) := ⟨by simp, ht.below hb0⟩
  have HM0 := Lib.hid hM0
  have HS := Lib.hid hs
  have HT := Lib.hid ht
  have HB0 := Lib.hid hb0
  clear hs hb0 ht hM0
  go_enter Try.func4, Try.ntmps4
  go_wp2_with fail
  refine (speaks_any _).mono ?_
  rintro e w1 ⟨rfl, hb1⟩
  have hb2 : Below w1.heap.size w1 (w1.alloc (.cells #[.slice none 0 0] 22)) := below_alloc _
  have HM2 := Lib.hid ((HM0.out.below hb1).below hb2)
  have HB2 := Lib.hid (below_trans (below_trans HB0.out hb1) hb2)
  have hz1 : w.heap.size < w1.heap.size := by have := hb1.size; simp at this; omega
  have HP2 := Lib.hid (heap_alloc_new w1 (.cells #[.slice none 0 0] 22))
  clear hb1 hb2 HM0 HB0
  go_upto_region 4 with (fail)
  generalize w1.alloc (.cells #[.slice none 0 0] 22) = w2 at HM2 HB2 HP2 ⊢
  generalize w1.heap.size = Bp at hz1 HP2 ⊢
  go_wp2
  go_loopw [5, 21] (fun v5 v21 wr => WRel L B len w2 v5 v21 wr) (fun _ v _ => L.length - (RowKit.intOf v).toNat)
  case atStart => exact ⟨0, rfl, by omega, World.ownsRow_nil _ _ _ _, Below.refl _ _⟩
  case round =>
    obtain ⟨k, rfl, hk, hown, hbw⟩ := hrel
    by_cases hlt : k < L.length
    · obtain ⟨hcap, hnil, h0 | ⟨ba, off, rfl, hc⟩⟩ := HS.out.below (below_trans HB2.out hbw)
      · subst h0; simp at hlt
      · obtain ⟨c1, c2⟩ := hc k hlt
        obtain ⟨⟨x1, x2⟩, hx⟩ : ∃ x, at0 L k = x := ⟨_, rfl⟩
        rw [hx] at c1 c2
        simp only at c1 c2
        have k1 : (k : Int) < (L.length : Int) := by omega
        obtain ⟨mc, mb⟩ := HM2.out.below hbw
        have hkl := kept_len L (may B len) k
        have hA : Below wr.heap.size wr (wr.alloc (.cells #[.string ⟨x1.toArray⟩, .string ⟨x2.toArray⟩] 24)) := below_alloc _
        have hBA := below_trans hbw hA
        have hmlt : w.heap.size < wr.heap.size := World.block_lt_of_cell? wr _ mc
        by_cases hlen : k < len
        · obtain ⟨g1, g2, g0 | ⟨bb, offb, rfl, hcb⟩⟩ := mb
          · omega
          · have d1 := hcb k hlen
            have d2 : bb < wr.heap.size := World.block_lt_of_cell? wr _ d1
            have k2 : (k : Int) < (len : Int) := by omega
            cases hp : B k
            · rw [hp] at d1
              have HK := Lib.hid (kept_no (L := L) (p := may B len) (k := k) (by rw [may_yes hlen]; exact hp))
              have HO := Lib.hid (hown.alloc (.cells #[.string ⟨x1.toArray⟩, .string ⟨x2.toArray⟩] 24))
              have HBA := Lib.hid hBA
              clear hx hc hnil hA hown hbw hcb hp hBA
              go_wp2
              go_roundw
              case rel => exact ⟨k + 1, by go_num, by omega, by rw [HK.out]; exact HO.out, HBA.out⟩
              case measure => simp [RowKit.intOf]; omega
            · rw [hp] at d1
              have HK := Lib.hid (kept_yes (L := L) (p := may B len) (k := k) (by rw [may_yes hlen]; exact hp))
              obtain ⟨v', w3, hr, hown3, hgr, -⟩ := app_one elem22 (wr.alloc (.cells #[.string ⟨x1.toArray⟩, .string ⟨x2.toArray⟩] 24)) w2.heap.size _ (kept L (may B len) k) (x1, x2) (wr.heap.size + 1) (by simp) (hown.alloc _) (by omega) (by have := hbw.size; simp; omega)
              have HR := Lib.hid hr
              have HO := Lib.hid hown3
              have HBA := Lib.hid (below_grown hBA hgr (Nat.le_refl _) (fun g hg => (hown.lt g hg).1))
              have HX := Lib.hid hx
              clear hx hc hnil hA hown hbw hcb hp hBA hr hown3 hgr
              go_wp2_with (at_builtin; refine Lib.wpList_append_run _ rfl (.tmp 36) (.tmp 38) 22 22 rfl _ _ rfl rfl v' w3 HR.out ?_)
              go_roundw
              case rel => exact ⟨k + 1, by go_num, by omega, by rw [HK.out, HX.out]; exact HO.out, HBA.out⟩
              case measure => simp [RowKit.intOf]; omega
        · have k2 : decide ((k : Int) < (len : Int)) = false := by simp; omega
          have HK := Lib.hid (kept_no (L := L) (p := may B len) (k := k) (may_no hlen))
          have HO := Lib.hid (hown.alloc (.cells #[.string ⟨x1.toArray⟩, .string ⟨x2.toArray⟩] 24))
          have HBA := Lib.hid hBA
          clear hx hc hnil hA hown hbw hBA mb
          go_wp2
          go_roundw
          case rel => exact ⟨k + 1, by go_num, by omega, by rw [HK.out]; exact HO.out, HBA.out⟩
          case measure => simp [RowKit.intOf]; omega
    · have k1 : ¬ ((k : Int) < (L.length : Int)) := by omega
      obtain rfl : k = L.length := by omega
      have hBr := below_trans HB2.out hbw
      have cO := of_any L a cap wr (HS.out.below hBr) (by omega)
      have HW := Lib.hid hown
      have HBW := Lib.hid hbw
      have HBr := Lib.hid hBr
      clear hown hbw hBr
      go_wp2_with fail
      refine cO.mono ?_
      rintro e W ⟨v, rfl, hownl, hb4⟩
      have hbW := below_trans HBW.out hb4
      have hMW := HM2.out.below hbW
      have hPW : W.heap[Bp]? = some (.cells #[.slice none 0 0] 22 (0, 0)) := (hbW.block Bp (lt_of_block HP2.out)).trans HP2.out
      have hmp : w.heap.size ≠ Bp := by omega
      have hbb : ∀ ad, b = some ad → 0 < len → ad.block ≠ Bp := by
        intro ad had hpos
        obtain ⟨g1, g2, g0 | ⟨bb, off, hb, hc⟩⟩ := HT.out
        · omega
        · rw [hb] at had
          injection had with had
          rw [← had]
          have : bb < w.heap.size := World.block_lt_of_cell? w _ (hc 0 (by omega))
          show bb ≠ Bp
          omega
      have hapl := own_apart hownl hPW (by decide)
      have cK := keep_any L v wr.heap.size 19 #[.pointer (some ⟨Bp, 0, none⟩), .pointer (some ⟨w.heap.size, 0, none⟩)] (may B len) (Asked L Bp W.heap.size) (some Bp) W (Go.Proofs.enters_of Try.func19 (by kernel_rfl) rfl) hownl (by omega) (Or.inr hapl)
        ⟨_, hPW, World.ownsRow_nil _ _ _ _⟩ (fun _ _ _ h hb => h.but hb)
        (fun i w1 hi hA hg => (ask_any L i hi (by omega) B b len capB Bp w.heap.size W w1 hA hg (fun w' hg' => hMW.grown hg' hmp hbb) hmp hbb).mono fun e w' h => h)
      have HWW := Lib.hid (ownsRow_below HW.out hb4)
      have HBW2 := Lib.hid (below_trans HBr.out hb4)
      have HLW := Lib.hid hownl
      have HPW := Lib.hid hPW
      have hzp : w.heap.size ≤ Bp := by omega
      clear cO hb4 hbW hMW hmp hbb hapl hownl hPW HW HBW HBr HM2 HB2 HP2
      go_wp2_with fail
      refine cK.mono ?_
      rintro e w5 ⟨v5, rfl, hown5, hA5, hg5⟩
      obtain ⟨a5, cap5, rfl, hs5⟩ := sl_own hown5
      have HW5 := Lib.hid (HWW.out.kept hg5 (Or.inr (own_apart HWW.out HPW.out (by decide))))
      have HL5 := Lib.hid (HLW.out.kept hg5 (Or.inr (own_apart HLW.out HPW.out (by decide))))
      have HB5 := Lib.hid (below_grown HBW2.out hg5 (Nat.le_refl _) (fun j hj => by injection hj with hj; omega))
      have HA5 := Lib.hid hA5
      have hkl := kept_len L (may B len) L.length
      have cT := to_any (kept L (may B len) L.length) a5 cap5 w5 hs5 (by omega)
      clear cK hown5 hA5 hg5 hs5 HWW HLW HBW2 HPW
      go_wp2_with fail
      refine cT.mono ?_
      rintro e w6 ⟨v6, rfl, hown6, hb6⟩
      obtain ⟨a6, cap6, rfl, hs6⟩ := sl_own hown6
      obtain ⟨aw, capw, hvw, hsw⟩ := sl_own (ownsRow_below HW5.out hb6)
      subst hvw
      have cA := alike_any (kept L (may B len) L.length) a6 cap6 (kept L (may B len) L.length) aw capw w6 hs6 hsw (by omega)
      rw [alike_refl] at cA
      have HL6 := Lib.hid (ownsRow_below HL5.out hb6)
      have HB6 := Lib.hid (below_trans HB5.out hb6)
      have HA6 := Lib.hid (HA5.out.below hb6)
      clear cT hown6 hb6 hs6 hsw HW5 HL5 HB5 HA5
      go_wp2_with fail
      refine cA.mono ?_
      rintro e w7 ⟨rfl, hb7⟩
      obtain ⟨va, hp7, hown7⟩ := HA6.out.below hb7
      rw [List.take_length] at hown7
      obtain ⟨a7, cap7, hv7, hs7⟩ := sl_own hown7
      subst hv7
      have c7 := cell_of_one hp7
      have HL7 := Lib.hid (ownsRow_below HL6.out hb7)
      have HB7 := Lib.hid (below_trans HB6.out hb7)
      have cA2 := alike_any L a7 cap7 L a cap w7 hs7 (HS.out.below HB7.out) (by omega)
      rw [alike_refl] at cA2
      clear cA hb7 hp7 hown7 hs7 HL6 HB6 HA6
      go_wp2_with fail
      refine cA2.mono ?_
      rintro e w8 ⟨rfl, hb8⟩
      have hl8 := ownsRow_below HL7.out hb8
      obtain ⟨a8, cap8, hv8, hs8⟩ := sl_own hl8
      subst hv8
      have HB8 := Lib.hid (below_trans HB7.out hb8)
      have cT2 := to_any L a8 cap8 w8 hs8 (by omega)
      clear cA2 hb8 hl8 hs8 HL7 HB7 c7
      go_wp2_with fail
      refine cT2.mono ?_
      rintro e w9 ⟨v9, rfl, hown9, hb9⟩
      obtain ⟨a9, cap9, rfl, hs9⟩ := sl_own hown9
      have HB9 := Lib.hid (below_trans HB8.out hb9)
      have cA3 := alike_any L a9 cap9 L a cap w9 hs9 (HS.out.below HB9.out) (by omega)
      rw [alike_refl] at cA3
      clear cT2 hown9 hb9 hs9 HB8
      go_wp2_with fail
      refine cA3.mono ?_
      rintro e w10 ⟨rfl, hb10⟩
      have HB10 := Lib.hid (below_trans HB9.out hb10)
      clear hb10
      go_wp2
      go_ret
      exact ⟨rfl, HB10.out⟩
end Go.Proofs.Ytmdpkolncfnfbaa
