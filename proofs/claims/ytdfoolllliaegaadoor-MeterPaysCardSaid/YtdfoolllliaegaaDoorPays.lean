/- The greatest walk of the law MeterPays of layer 1: of a list of 1 to 60 payments. -/
import Derived.Test.YtdfoolllliaegaaDoorErrs
import Derived.Test.YtdfoolllliaegaaDoorRef
import Derived.WalkKit
import Derived.OpenShut
import Derived.LoopTactic
import Derived.BigQuiet
import Derived.Deep.QuietTactic
import Derived.Deep.RegionWith
import Derived.Deep.DeepCutAuto
namespace Go.Proofs.YtdfoolllliaegaaDoor.meterPays
open Go.RowKit
set_option linter.unusedVariables false

theorem met_box (w : World) (x y : Int) (t : TypeId) : Met (w.alloc (.cells #[.int .i64 x, .int .i64 y] t)) w.heap.size x y := by
  refine ⟨?_, ?_, ?_, ?_, ?_⟩
  all_goals simp [go_sem]

/-- What stands behind the look at an error. -/
def After (w : World) (bm br bx : Nat) (l s : Int) (wx : World) : Prop := Met wx bm l s ∧ Met wx br l s ∧ Met wx bx l s ∧ Below w.heap.size w wx

theorem tab_below {w w' : World} (h : Tab w) (hb : Below w.heap.size w w') : Tab w' :=
  h.kept (row := none) ⟨hb.os, hb.tape, hb.output, hb.size, fun k hk _ => hb.block k hk⟩ (by simp)

/-- A new cell of one value. -/
theorem cell_box (w : World) (v : Value) (t : TypeId) : (w.alloc (.cells #[v] t)).cell? ⟨w.heap.size, 0, none⟩ = some v ∧ (w.alloc (.cells #[v] t)).frozen? ⟨w.heap.size, 0, none⟩ = false := by
  constructor <;> simp [go_sem]

theorem text_ne (a b : Int) : (shortText a b == (({ data := (Lib.itoa a).toArray } : ByteArray) ++ { data := #[32, 111, 102, 32] } ++ { data := (Lib.itoa b).toArray }).toList) = true := by
  rw [show (#[32, 111, 102, 32] : Array UInt8) = [32, 111, 102, 32].toArray from rfl, ByteArray.mk_append_mk, ByteArray.mk_append_mk]
  simp [shortText, go_sem]

theorem met_drewN {w : World} {b : Nat} {l s : Int} (h : Met w b l s) (n : Nat) : Met (w.drewN n) b l s := ⟨h.c0, h.c1, h.f0, h.f1, h.lt⟩
theorem left_quiet {w : World} {b : Nat} {l s : Int} (h : Met w b l s) (n : Nat) :
    Calls Tryd.prog 14 #[.pointer (some ⟨b, 0, none⟩)] (w.drewN n) fun e w' => e = .returned (.int .i64 l) ∧ ∃ m, w' = w.drewN m :=
  (left_any _ _ _ _ (met_drewN h n)).mono fun _ _ h => ⟨h.1, n, h.2.symm⟩
theorem spent_quiet {w : World} {b : Nat} {l s : Int} (h : Met w b l s) (n : Nat) :
    Calls Tryd.prog 15 #[.pointer (some ⟨b, 0, none⟩)] (w.drewN n) fun e w' => e = .returned (.int .i64 s) ∧ ∃ m, w' = w.drewN m :=
  (spent_any _ _ _ _ (met_drewN h n)).mono fun _ _ h => ⟨h.1, n, h.2.symm⟩

set_option maxRecDepth 100000 in
set_option maxHeartbeats 20000000 in
theorem walk_some (a0 : Int) (b off : Nat) (len1 cap1 : Nat) (zs : List Int) (w : World) (b0 : -9223372036854775808 ≤ a0) (b0' : a0 ≤ 9223372036854775807) (hl : len1 ≤ 60) (hz : len1 ≤ zs.length)
    (hx : ∀ j, j < zs.length → w.cell? ⟨b, off + j, none⟩ = some (.int .i64 (zs.getD j 0))) (hw : ∀ n ∈ zs, (Lit.int .i64 n).wf = true) (ht : Tab w) (q0 : Addr) (hg0 : w.cell? ⟨0, 0, none⟩ = some (.iface 96 (.pointer (some q0))))
    (hg1 : w.cell? ⟨1, 0, none⟩ = some (.iface 63 (.agg #[.pointer (some ⟨5, 32, none⟩)]))) :
    Calls Tryd.prog 3 #[.int .i64 a0, .slice (some ⟨b, off, none⟩) len1 cap1] w fun e w' => e = .returned (.bool true) ∧ Below w.heap.size w w' := by
  have HG0 := Lib.hid hg0
  have HG1 := Lib.hid hg1
  clear hg0 hg1
  have HX := Lib.hid hx
  have HW := Lib.hid hw
  clear hx hw
  have hd : decide ((60 : Int) < (len1 : Int)) = false := by simp; omega
  have p0 := pos_ge a0
  have p1 : pos a0 ≤ 9223372036854775807 := by unfold pos; split <;> omega
  go_enter Tryd.func3, Tryd.ntmps3
  go_wp2_with fail
  refine (speaks_any _).mono ?_
  rintro e w1 ⟨rfl, g1⟩
  have B1 := Below.byNone (Below.refl w.heap.size w) g1 (Nat.le_refl _)
  have z1 := B1.size
  go_wp2_with fail
  refine (new_all _ _).mono ?_
  rintro e w2 ⟨rfl, m2, g2⟩
  have B2 := Below.byNone B1 g2 B1.size
  have z2 := m2.lt
  go_wp2_with fail
  refine (refnew_all _ _).mono ?_
  rintro e w3 ⟨rfl, g3⟩
  have B3 := Below.byNone B2 g3 B2.size
  have m3 := m2.kept g3 (by simp)
  have z3 := g3.size
  go_wp2
  have r4 := met_box w3 (pos a0) 0 27
  have g4 := World.grownBy_alloc w3 (.cells #[.int .i64 (pos a0), .int .i64 0] 27) none
  have m4 := m3.kept g4 (by simp)
  have B4 := Below.byNone B3 g4 B3.size
  generalize w3.alloc (.cells #[.int .i64 (pos a0), .int .i64 0] 27) = w4 at *
  generalize w1.heap.size = bm at *
  have z4 : bm < w3.heap.size := by omega
  generalize w3.heap.size = br at *
  clear g1 g2 g3 g4 m2 m3 B1 B2 B3
  go_loopw [29] (fun i wr => ∃ (k : Nat) (l s : Int), k ≤ len1 ∧ i = .int .i64 k ∧ 0 ≤ l ∧ 0 ≤ s ∧ l + s ≤ 9223372036854775807 ∧ Met wr bm l s ∧ Met wr br l s ∧ Below w.heap.size w wr)
    (fun i _ => len1 - (intOf i).toNat)
  case atStart => exact ⟨0, pos a0, 0, Nat.zero_le _, rfl, by omega, by omega, by omega, m4, r4, B4⟩
  case round =>
    obtain ⟨k, l, s, hk, rfl, l0, s0, ls, hm, hr, hB⟩ := hrel
    by_cases hlt : k < len1
    · have hc0 := HX.out k (by omega)
      have hc1 : wr.cell? ⟨b, off + k, none⟩ = some (.int .i64 (zs.getD k 0)) := (hB.cell (World.block_lt_of_cell? w _ hc0)).trans hc0
      have ⟨y0, y1⟩ := range_i64 HW.out k
      have ez : zs.getD k 0 = zs[k]?.getD 0 := by simp
      rw [ez] at hc1
      clear hc0 ez
      generalize zs[k]?.getD 0 = z at *
      have r0 := hr.c0
      have r1 := hr.c1
      by_cases hp : z ≤ l
      · go_wp2_with fail
        refine (refpay_yes _ _ _ _ (by omega) (by omega) (by omega) (by omega)).mono ?_
        rintro e w5 ⟨rfl, g5⟩
        have B5 := Below.byNone hB g5 hB.size
        have m5 := hm.kept g5 (by simp)
        have r5 := hr.kept g5 (by simp)
        clear r0 r1
        go_wp2_with fail
        have n6 := met_box w5 (l - pos z) (s + pos z) 27
        have g6 := World.grownBy_alloc w5 (.cells #[.int .i64 (l - pos z), .int .i64 (s + pos z)] 27) none
        have m6 := m5.kept g6 (by simp)
        have r6 := r5.kept g6 (by simp)
        have B6 := Below.byNone B5 g6 B5.size
        have z5 := r5.lt
        generalize w5.alloc (.cells #[.int .i64 (l - pos z), .int .i64 (s + pos z)] 27) = w6 at *
        generalize w5.heap.size = bx at *
        refine (pay_yes _ _ _ _ _ m6 (by omega) (by omega) (by omega) (by omega)).mono ?_
        rintro e w7 ⟨rfl, m7, g7⟩
        have B7 := Below.byBlock B6 g7 B6.size z1
        have r7 := r6.kept g7 (by simp; omega)
        have n7 := n6.kept g7 (by simp; omega)
        have p2 := pos_ge z
        have p3 := pos_le l0 hp
        generalize pos z = pz at *
        have n70 := n7.c0
        have n71 := n7.c1
        have r70 := r7.c0
        have r71 := r7.c1
        have f70 := r7.f0
        have f71 := r7.f1
        go_wp2
        obtain ⟨_, r8, g8⟩ := paid_of (e := .returned .nilIface) (l' := l - pz) (s' := s + pz) r7 rfl rfl
        have m8 := m7.kept g8 (by simp; omega)
        have B8 := Below.byBlock B7 g8 B7.size (by omega)
        clear n70 n71 r70 r71 f70 f71
        generalize (w7.setCell ⟨br, 0, none⟩ (.int .i64 (l - pz))).setCell ⟨br, 1, none⟩ (.int .i64 (s + pz)) = w8 at *
        have r80 := r8.c0
        have r81 := r8.c1
        go_quiet (first | (go_at_call 14; exact left_quiet m8 _) | (go_at_call 15; exact spent_quiet m8 _))
        go_wp2
        exact ⟨⟨k + 1, l - pz, s + pz, by omega, by go_num, by omega, by omega, by omega, met_drewN m8 _, met_drewN r8 _, ⟨B8.os, B8.tape, B8.output, B8.size, B8.block⟩⟩, by simp [intOf]; omega⟩
      · have hp' : l < z := by omega
        go_wp2_with fail
        refine (refpay_short _ _ _ _ (by omega) (by omega)).mono ?_
        rintro e w5 ⟨rfl, g5⟩
        have B5 := Below.byNone hB g5 hB.size
        have m5 := hm.kept g5 (by simp)
        have r5 := hr.kept g5 (by simp)
        clear r0 r1
        go_wp2_with fail
        have n6 := met_box w5 l s 27
        have g6 := World.grownBy_alloc w5 (.cells #[.int .i64 l, .int .i64 s] 27) none
        have m6 := m5.kept g6 (by simp)
        have r6 := r5.kept g6 (by simp)
        have B6 := Below.byNone B5 g6 B5.size
        have z5 := r5.lt
        generalize w5.alloc (.cells #[.int .i64 l, .int .i64 s] 27) = w6 at *
        have z6 := n6.lt
        generalize w5.heap.size = bx at *
        refine (pay_short _ _ _ _ _ m6 (by omega) (by omega)).mono ?_
        rintro e w7 ⟨rfl, q7, g7⟩
        have B7 := Below.byNone B6 g7 B6.size
        have m7 := m6.kept g7 (by simp)
        have r7 := r6.kept g7 (by simp)
        have n7 := n6.kept g7 (by simp)
        generalize w6.heap.size = bq at *
        go_upto_region 15 with (fail)
        have g8 := World.grownBy_alloc w7 (.cells #[.pointer none] 34) none
        have B8 := Below.byNone B7 g8 B7.size
        have m8 := m7.kept g8 (by simp)
        have r8 := r7.kept g8 (by simp)
        have n8 := n7.kept g8 (by simp)
        have q8 := q7.kept g8 (by simp)
        have t8 := tab_below ht B8
        have c8 := (B8.cell (p := ⟨0, 0, none⟩) (World.block_lt_of_cell? w _ HG0.out)).trans HG0.out
        have d8 := (B8.cell (p := ⟨1, 0, none⟩) (World.block_lt_of_cell? w _ HG1.out)).trans HG1.out
        obtain ⟨s8, f8⟩ := cell_box w7 (.pointer none) 34
        generalize w7.alloc (.cells #[.pointer none] 34) = w8 at *
        have z7 := q7.lt
        have z8 := n7.lt
        have z9 := r7.lt
        have z10 := m7.lt
        generalize w7.heap.size = bs at *
        go_cut [90] (fun v wx => v = .bool false ∧ After w bm br bx l s wx)
        case first =>
          have k0 := text_ne z l
          have lz := Lib.itoa_length_le z y0 y1
          have ll := Lib.itoa_length_le l (by omega) (by omega)
          have k1 : ¬ (9223372036854775807 < (Lib.itoa z).length + 4) := by omega
          have k2 : ¬ (9223372036854775807 < (Lib.itoa z).length + 4 + (Lib.itoa l).length) := by omega
          clear lz ll HX HW hz hl hd hc1 hm hr hB B5 B6 B7 m5 m6 m7 r5 r6 r7 n6 n7 q7 g5 g6 g7 g8 B4 m4 r4 z2 z3 hk hlt HG0 HG1 b0 b0' t8
          go_region_with (first
            | (go_at_call 10; refine (is_short _ _ _ ?_).mono ?_; (exact c8); rintro e w' ⟨rfl, rfl⟩)
            | (go_at_call 11; (refine (as_short _ ⟨bs, 0, none⟩ (.pointer none) _ ?_ ?_ ?_).mono ?_; (exact d8); (exact s8); (exact f8); rintro e w9 ⟨rfl, s9, g9⟩; have g9 := grown_undrew g9; have m9 := m8.kept g9 (by simp; omega); have r9 := r8.kept g9 (by simp; omega); have n9 := n8.kept g9 (by simp; omega); have q9 := q8.kept g9 (by simp; omega); have B9 := Below.byBlock B8 g9 B8.size (show w.heap.size ≤ bs by omega); have t9 := tab_below ht B9; have r90 := r9.c0; have q90 := q9.c0; have q91 := q9.c1))
            | (go_at_call 12; refine (error_any bq z l _ q9 y0 y1 (by omega) (by omega) t9).mono ?_; rintro e w10 ⟨rfl, g10⟩; have m10 := m9.kept g10 (by simp); have r10 := r9.kept g10 (by simp); have n10 := n9.kept g10 (by simp); have B10 := Below.byNone B9 g10 B9.size; have r100 := r10.c0)
            | (go_at_call_of 13 (Value.int IntKind.i64 z); refine (decimal_any _ _ _ (Nat.le_refl _) ?_ ?_).mono ?_; (omega); (omega); rintro e w11 ⟨rfl, g11⟩; have m11 := m10.kept g11 (by simp); have r11 := r10.kept g11 (by simp); have n11 := n10.kept g11 (by simp); have B11 := Below.byNone B10 g11 B10.size; have r110 := r11.c0)
            | (go_at_call_of 13 (Value.int IntKind.i64 l); refine (decimal_any _ _ _ (Nat.le_refl _) ?_ ?_).mono ?_; (omega); (omega); rintro e w12 ⟨rfl, g12⟩; have m12 := m11.kept g12 (by simp); have r12 := r11.kept g12 (by simp); have n12 := n11.kept g12 (by simp); have B12 := Below.byNone B11 g12 B11.size))
          all_goals (go_wp2_with fail; go_meet; exact ⟨rfl, m12, r12, n12, B12⟩)
        case rest =>
          obtain ⟨rfl, m9, r9, n9, B9⟩ := hcut
          have n90 := n9.c0
          have n91 := n9.c1
          have r90 := r9.c0
          have r91 := r9.c1
          have f90 := r9.f0
          have f91 := r9.f1
          go_wp2
          obtain ⟨_, r10, g10⟩ := paid_of (e := .returned .nilIface) (l' := l) (s' := s) r9 rfl rfl
          have m10 := m9.kept g10 (by simp; omega)
          have B10 := Below.byBlock B9 g10 B9.size (by omega)
          clear n90 n91 r90 r91 f90 f91
          generalize (wc.setCell ⟨br, 0, none⟩ (.int .i64 l)).setCell ⟨br, 1, none⟩ (.int .i64 s) = w10 at *
          have r100 := r10.c0
          have r101 := r10.c1
          go_quiet (first | (go_at_call 14; exact left_quiet m10 _) | (go_at_call 15; exact spent_quiet m10 _))
          go_wp2
          exact ⟨⟨k + 1, l, s, by omega, by go_num, by omega, by omega, by omega, met_drewN m10 _, met_drewN r10 _, ⟨B10.os, B10.tape, B10.output, B10.size, B10.block⟩⟩, by simp [intOf]; omega⟩
    · go_wp2
      go_ret
      exact ⟨rfl, hB⟩
end Go.Proofs.YtdfoolllliaegaaDoor.meterPays
