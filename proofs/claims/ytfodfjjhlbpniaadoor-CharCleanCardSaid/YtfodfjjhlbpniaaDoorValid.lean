/- unicode/utf8.Valid at this program's numbers: at every slice of bytes it answers whether all is UTF-8. -/
import Derived.Test.YtfodfjjhlbpniaaDoorNext
import Derived.Test.YtfodfjjhlbpniaaDoorMath2
import Derived.Shelf.Unicode.ValidAny
import Derived.BigQuiet
import Derived.Deep.CutBlock
import Derived.Deep.DeepCutAuto
import Derived.Deep.LoopGhost
import Derived.Deep.QuietTactic
namespace Go.Proofs.YtfodfjjhlbpniaaDoor
open Go.RowKit Go.Lib

theorem elem22 : Tryd.prog.underlying 22 = some (.slice (Tryd.prog.elem 22)) := by kernel_rfl
theorem size22 (W : World) : (Go.sizeOf (Tryd.prog.elem 22)).run Tryd.prog W = .ok 1 W := by
  rw [show Tryd.prog.elem 22 = 5 by kernel_rfl]; exact Tryd.sizeOf5 W

/-- 'p[k:]' -/
theorem cut_run {t : List UInt8} {a : Option Addr} {c : Nat} {w : World} (hs : Sl t a c w) (k : Nat) (kz : Int) (hz : kz = k) (hk : k ≤ t.length) :
    ∃ (A : Option Addr) (c' : Nat) (t' : List UInt8), t' = t.drop k ∧ t'.length + k = t.length ∧ (∀ W, (Instr.slice 22 (.slice a t.length c) (some (.int .i64 kz)) none none).run Tryd.prog W = .ok (.slice A t'.length c') W) ∧ Sl t' A c' w := by
  refine ⟨if c = k then a else a.map (·.add (k * 1)), c - k, t.drop k, rfl, by simp; omega, fun W => ?_, ?_⟩
  · rw [hz, run_slice_l W 22 a t.length c elem22 .i64 k (by omega) (by omega), size22]
    simp [Result.andThen, sliced]
  · obtain ⟨h1, h2⟩ := hs
    refine ⟨by simp; omega, ?_⟩
    rcases h2 with rfl | ⟨b, off, rfl, hc⟩
    · left; simp
    · by_cases e : c = k
      · left
        apply List.drop_of_length_le
        omega
      · right
        refine ⟨b, off + k, ?_, hc.drop k⟩
        rw [if_neg e]
        simp [Addr.add]

/-- 'p[:len(p):len(p)]' -/
theorem cap_run {t : List UInt8} {a : Option Addr} {c : Nat} {w : World} (hs : Sl t a c w) :
    ∃ A, (∀ W, (Instr.slice 22 (.slice a t.length c) none (some (.int .i64 (t.length : Int))) (some (.int .i64 (t.length : Int)))).run Tryd.prog W = .ok (.slice A t.length t.length) W) ∧ Sl t A t.length w := by
  have hcap := hs.1
  refine ⟨if t.length = 0 then a else a.map (·.add (0 * 1)), fun W => ?_, ?_⟩
  · rw [run_slice_hm W 22 a t.length c elem22 .i64 .i64 t.length t.length (by omega) (by omega) (by omega), size22]
    simp [Result.andThen, sliced]
  · obtain ⟨h1, h2⟩ := hs
    refine ⟨Nat.le_refl _, ?_⟩
    rcases h2 with rfl | ⟨b, off, rfl, hc⟩
    · left; rfl
    · by_cases e : t.length = 0
      · left; exact List.eq_nil_of_length_eq_zero e
      · right
        refine ⟨b, off, ?_, hc⟩
        rw [if_neg e]
        simp [Addr.add]

set_option maxHeartbeats 8000000 in
set_option maxRecDepth 100000 in
theorem word_any (t : List UInt8) (b off c : Nat) (w : World) (hc : Cells t b off w) (ht : 8 ≤ t.length) :
    Calls Tryd.prog 25 #[.slice (some ⟨b, off, none⟩) t.length c] w fun e w' => e = .returned (.int .u64 (Lib.leNat [t.getD 0 0, t.getD 1 0, t.getD 2 0, t.getD 3 0, t.getD 4 0, t.getD 5 0, t.getD 6 0, t.getD 7 0])) ∧ ∃ q, w' = w.drewN q := by
  have hb := at0_lt t
  have hv : ((Lib.leNat [t.getD 0 0, t.getD 1 0, t.getD 2 0, t.getD 3 0, t.getD 4 0, t.getD 5 0, t.getD 6 0, t.getD 7 0] : Nat) : Int) = (at0 t 0 : Int) + (at0 t 1 : Int) * 256 + (at0 t 2 : Int) * 65536 + (at0 t 3 : Int) * 16777216 + (at0 t 4 : Int) * 4294967296 + (at0 t 5 : Int) * 1099511627776 + (at0 t 6 : Int) * 281474976710656 + (at0 t 7 : Int) * 72057594037927936 := by
    simp only [Lib.leNat, at0]
    push_cast
    omega
  have h0 := hb 0
  have h1 := hb 1
  have h2 := hb 2
  have h3 := hb 3
  have h4 := hb 4
  have h5 := hb 5
  have h6 := hb 6
  have h7 := hb 7
  have c0 : w.cell? ⟨b, off, none⟩ = some (.int .u8 (at0 t 0 : Int)) := hc 0 (by omega)
  have c1 := hc 1 (by omega)
  have c2 := hc 2 (by omega)
  have c3 := hc 3 (by omega)
  have c4 := hc 4 (by omega)
  have c5 := hc 5 (by omega)
  have c6 := hc 6 (by omega)
  have c7 := hc 7 (by omega)
  have q0 : (0 : Int) < (t.length : Int) := by omega
  have q1 : (1 : Int) < (t.length : Int) := by omega
  have q2 : (2 : Int) < (t.length : Int) := by omega
  have q3 : (3 : Int) < (t.length : Int) := by omega
  have q4 : (4 : Int) < (t.length : Int) := by omega
  have q5 : (5 : Int) < (t.length : Int) := by omega
  have q6 : (6 : Int) < (t.length : Int) := by omega
  have q7 : (7 : Int) < (t.length : Int) := by omega
  have HV := Lib.hid hv
  clear hv hb hc
  generalize at0 t 0 = x0 at *
  generalize at0 t 1 = x1 at *
  generalize at0 t 2 = x2 at *
  generalize at0 t 3 = x3 at *
  generalize at0 t 4 = x4 at *
  generalize at0 t 5 = x5 at *
  generalize at0 t 6 = x6 at *
  generalize at0 t 7 = x7 at *
  generalize Lib.leNat [t.getD 0 0, t.getD 1 0, t.getD 2 0, t.getD 3 0, t.getD 4 0, t.getD 5 0, t.getD 6 0, t.getD 7 0] = V at HV ⊢
  go_enter Tryd.func25, Tryd.ntmps25
  go_wp2
  go_quiet (fail)
  go_wp2
  go_ret
  refine ⟨?_, _, rfl⟩
  simp (disch := omega) only [u64_or8, u64_or16, u64_or24, u64_or32, u64_or40, u64_or48, u64_or56]
  rw [HV.out]
  rfl

def wordL (t : List UInt8) : Nat := Lib.leNat [t.getD 0 0, t.getD 1 0, t.getD 2 0, t.getD 3 0, t.getD 4 0, t.getD 5 0, t.getD 6 0, t.getD 7 0]

theorem wordL_str (t : List UInt8) : Lib.leNat [(⟨t.toArray⟩ : ByteArray).get! 0, (⟨t.toArray⟩ : ByteArray).get! 1, (⟨t.toArray⟩ : ByteArray).get! 2, (⟨t.toArray⟩ : ByteArray).get! 3, (⟨t.toArray⟩ : ByteArray).get! 4, (⟨t.toArray⟩ : ByteArray).get! 5, (⟨t.toArray⟩ : ByteArray).get! 6, (⟨t.toArray⟩ : ByteArray).get! 7] = wordL t := by
  unfold wordL
  simp only [← Lib.getD_get!']

theorem wordL_lt (t : List UInt8) : wordL t < 18446744073709551616 := by
  rw [← wordL_str]; exact Lib.word_lt _

/-- the first so many bytes are below 128 -/
def AscL (t : List UInt8) (k : Nat) : Prop := ∀ b ∈ t.take k, b.toNat < 128

theorem wordL_asc (t : List UInt8) (h : 8 ≤ t.length) (h0 : wordL t &&& 9259542123273814144 = 0) : AscL t 8 := by
  rw [← wordL_str] at h0
  exact (Lib.word_asc ⟨t.toArray⟩ (by rw [show (⟨t.toArray⟩ : ByteArray).size = t.length by simp [ByteArray.size]]; exact h)).1 h0

theorem AscL.add {t : List UInt8} {a b : Nat} (ha : AscL t a) (hb : AscL (t.drop a) b) : AscL t (a + b) := by
  intro x hx
  rw [List.take_add] at hx
  rcases List.mem_append.1 hx with h | h
  · exact ha x h
  · exact hb x h

theorem AscL.skip {t : List UInt8} {k : Nat} (h : AscL t k) : validD (t.drop k) = validD t := (validD_ascii k t h).symm

theorem AscL.one {t : List UInt8} (h0 : 0 < t.length) (h : at0 t 0 < 128) : AscL t 1 := by
  match t, h0 with
  | x :: r, _ => intro b hb; simp at hb; subst hb; exact h

theorem Sl.drewN {t : List UInt8} {a : Option Addr} {c : Nat} {w : World} (h : Sl t a c w) (n : Nat) : Sl t a c (w.drewN n) := h.below (below_drewNv (Below.refl _ _) n)

theorem word_sl {t : List UInt8} {a : Option Addr} {c : Nat} {w : World} (h : Sl t a c w) (ht : 8 ≤ t.length) :
    Calls Tryd.prog 25 #[.slice a t.length c] w fun e w' => e = .returned (.int .u64 (wordL t)) ∧ ∃ q, w' = w.drewN q := by
  obtain ⟨_, rfl | ⟨b, off, rfl, hc⟩⟩ := h
  · simp at ht
  · exact word_any t b off c w hc ht

/-- a fact under its condition, kept from the walk -/
def Given (p q : Prop) : Prop := p → q

theorem cell_alloc_two (w : World) (u v : Value) : (w.alloc (.cells #[u, v] 51)).cell? ⟨w.heap.size, 0, none⟩ = some u ∧ (w.alloc (.cells #[u, v] 51)).cell? ⟨w.heap.size, 1, none⟩ = some v := by
  constructor <;> simp [World.cell?, World.alloc, -World.alloc_eq]

def VRel (w : World) (ANS : Bool) (gk : Nat) (v : Value) (wx : World) : Prop :=
  Below w.heap.size w wx ∧ ∃ (t : List UInt8) (A : Option Addr) (c : Nat), v = .slice A t.length c ∧ Sl t A c w ∧ validD t = ANS ∧ t.length < gk ∧ t.length ≤ 1000000

def VRel2 (w : World) (ANS : Bool) (m gk : Nat) (v : Value) (wx : World) : Prop :=
  Below w.heap.size w wx ∧ ∃ (t : List UInt8) (A : Option Addr) (c : Nat), v = .slice A t.length c ∧ Sl t A c w ∧ validD t = ANS ∧ t.length < gk ∧ t.length ≤ m

set_option maxHeartbeats 16000000 in
set_option maxRecDepth 1000000 in
theorem valid_any (t0 : List UInt8) (a0 : Option Addr) (c0 : Nat) (w : World) (hs0 : Sl t0 a0 c0 w) (hT : Lib.Utf8Tabs 0 1 w) (hl0 : t0.length ≤ 1000000) :
    Calls Tryd.prog 16 #[.slice a0 t0.length c0] w fun e w' => e = .returned (.bool (validD t0)) ∧ Below w.heap.size w w' := by
  obtain ⟨ANS, hANS⟩ : ∃ ANS, validD t0 = ANS := ⟨_, rfl⟩
  rw [hANS]
  obtain ⟨A0, hcap, hsA⟩ := cap_run hs0
  have HANS := Lib.hid hANS
  clear hANS
  go_enter Tryd.func16, Tryd.ntmps16
  go_wp2
  clear hcap
  go_loopg [0] (t0.length + 1) (fun gk v wx => VRel w ANS gk v wx)
  case atStart => exact ⟨Below.refl _ _, t0, A0, t0.length, rfl, hsA, HANS.out, by omega, hl0⟩
  case round =>
    obtain ⟨hbw, t, A, c, rfl, hs, hv, hg, hts⟩ := hrel
    have HV := Lib.hid hv
    clear HANS hv hsA
    have hTr := Utf8Tabs_below hT hbw
    by_cases h0 : 0 < t.length
    · obtain ⟨g', rfl⟩ : ∃ g', gk = g' + 1 := ⟨gk - 1, by omega⟩
      have h0z : (0 : Int) < (t.length : Int) := by omega
      have hex : ∃ b off, A = some ⟨b, off, none⟩ ∧ Cells t b off w := by
        obtain ⟨_, rfl | h⟩ := hs
        · simp at h0
        · exact h
      obtain ⟨b, off, rfl, hcw⟩ := hex
      have hcr := hcw.below hbw
      have k0 : wr.cell? ⟨b, off, none⟩ = some (.int .u8 ((at0 t 0 : Nat) : Int)) := hcr 0 h0
      by_cases hasc : at0 t 0 < 128
      · as_aux_lemma =>
        have hascz : ((at0 t 0 : Nat) : Int) < 128 := by omega
        have a1 : AscL t 1 := AscL.one h0 hasc
        obtain ⟨A1, c1, t1, ht1, z1, r1, s1⟩ := cut_run hs 1 1 rfl (by omega)
        have v1 : validD t1 = ANS := by rw [ht1, a1.skip]; exact HV.out
        have V1 := Lib.hid v1
        clear hTr HV a1 ht1 v1
        by_cases c8 : 8 < t1.length
        · have c8z : (8 : Int) < (t1.length : Int) := by omega
          have cW1 := word_sl (s1.below hbw) (by omega)
          have kA1 := wordL_asc t1 (by omega)
          have lA1 := wordL_lt t1
          obtain ⟨W1, hW1⟩ : ∃ W1, wordL t1 = W1 := ⟨_, rfl⟩
          rw [hW1] at kA1 lA1 cW1
          clear hW1
          have hand1 : bits .and .u64 (W1 : Int) 9259542123273814144 = ((W1 &&& 9259542123273814144 : Nat) : Int) := u64_and_nat W1 9259542123273814144 lA1 (by omega)
          obtain ⟨Z1, hZ1⟩ : ∃ Z1, W1 &&& 9259542123273814144 = Z1 := ⟨_, rfl⟩
          rw [hZ1] at hand1 kA1
          clear hZ1
          by_cases hz1 : Z1 = 0
          · have hz1b : ((Z1 : Int) == 0) = true := by simp [hz1]
            have a8 := kA1 hz1
            obtain ⟨A2, c2, t2, ht2, z2, r2, s2⟩ := cut_run s1 8 8 rfl (by omega)
            have V2 := Lib.hid (show validD t2 = ANS by rw [ht2, a8.skip]; exact V1.out)
            clear kA1 a8 V1 ht2
            go_wp2_with (go_at_call 25; refine cW1.mono ?_; rintro e W1 ⟨rfl, q1, rfl⟩)
            have hb1 : Below w.heap.size w (wr.drewN q1) := below_drewNv hbw q1
            generalize wr.drewN q1 = wq at hb1 ⊢
            clear cW1 hbw hcr k0
            by_cases c16 : 16 < t2.length
            · have c16z : (16 : Int) < (t2.length : Int) := by omega
              obtain ⟨A2b, c2b, t2b, ht2b, z2b, r2b, s2b⟩ := cut_run s2 8 8 rfl (by omega)
              have cW2 : ∀ n, Calls Tryd.prog 25 #[.slice A2 t2.length c2] (wq.drewN n) fun e w' => e = .returned (.int .u64 (wordL t2)) ∧ ∃ q, w' = (wq.drewN n).drewN q := fun n => word_sl ((s2.below hb1).drewN n) (by omega)
              have cW3 : ∀ n, Calls Tryd.prog 25 #[.slice A2b t2b.length c2b] (wq.drewN n) fun e w' => e = .returned (.int .u64 (wordL t2b)) ∧ ∃ q, w' = (wq.drewN n).drewN q := fun n => word_sl ((s2b.below hb1).drewN n) (by omega)
              have kA2 := wordL_asc t2 (by omega)
              have kA3 := wordL_asc t2b (by omega)
              have lA2 := wordL_lt t2
              have lA3 := wordL_lt t2b
              obtain ⟨W2, hW2⟩ : ∃ W2, wordL t2 = W2 := ⟨_, rfl⟩
              obtain ⟨W3, hW3⟩ : ∃ W3, wordL t2b = W3 := ⟨_, rfl⟩
              rw [hW2] at kA2 lA2
              rw [hW3] at kA3 lA3
              simp only [hW2] at cW2
              simp only [hW3] at cW3
              clear hW2 hW3
              have hor2 : bits .or .u64 (W2 : Int) (W3 : Int) = ((W2 ||| W3 : Nat) : Int) := u64_or_nat W2 W3 lA2 lA3
              have lor2 : W2 ||| W3 < 18446744073709551616 := Nat.or_lt_two_pow (n := 64) lA2 lA3
              have hand2 : bits .and .u64 ((W2 ||| W3 : Nat) : Int) 9259542123273814144 = (((W2 ||| W3) &&& 9259542123273814144 : Nat) : Int) := u64_and_nat _ 9259542123273814144 lor2 (by omega)
              have k2 : (W2 ||| W3) &&& 9259542123273814144 = 0 → AscL t2 16 := fun h0' => by
                obtain ⟨e1, e2⟩ := (Lib.or_mask W2 W3 _).1 h0'
                exact (kA2 e1).add (a := 8) (b := 8) (by rw [← ht2b]; exact kA3 e2)
              obtain ⟨O2, hO2⟩ : ∃ O2, W2 ||| W3 = O2 := ⟨_, rfl⟩
              rw [hO2] at hor2 hand2 k2
              obtain ⟨Z2, hZ2⟩ : ∃ Z2, O2 &&& 9259542123273814144 = Z2 := ⟨_, rfl⟩
              rw [hZ2] at hand2 k2
              clear kA2 kA3 lor2 hO2 hZ2 ht2b
              by_cases hz2 : Z2 = 0
              · have hz2b : ((Z2 : Int) == 0) = true := by simp [hz2]
                have a16 := k2 hz2
                obtain ⟨A3, c3, t3, ht3, z3, r3, s3⟩ := cut_run s2 16 16 rfl (by omega)
                have V3 := Lib.hid (show validD t3 = ANS by rw [ht3, a16.skip]; exact V2.out)
                clear k2 a16 V2 ht3
                go_big_quiet (first | (go_at_call 25; with_reducible refine Calls.quiet_of (cW2 _)) | (go_at_call 25; with_reducible refine Calls.quiet_of (cW3 _)))
                have hb2 : Below w.heap.size w (wq.drewN nq) := below_drewNv hb1 nq
                generalize wq.drewN nq = wq2 at hb2 ⊢
                clear cW2 cW3 hb1
                go_wp2
                go_loopg [0] (t3.length + 1) (fun g2 v wx => VRel2 w ANS t3.length g2 v wx)
                case atStart => exact ⟨hb2, t3, A3, c3, rfl, s3, V3.out, by omega, Nat.le_refl _⟩
                case round =>
                  obtain ⟨hbu, u, AU, cu, rfl, su, vu, hgu, hut⟩ := hrel
                  have VU := Lib.hid vu
                  clear vu hb2 V3 r3 s3 r2 s2 r1 s1 r2b s2b hs hcw hand1 hand2 hor2
                  by_cases c32 : 32 < u.length
                  · obtain ⟨g3, rfl⟩ : ∃ g3, gk = g3 + 1 := ⟨gk - 1, by omega⟩
                    have c32z : (32 : Int) < (u.length : Int) := by omega
                    obtain ⟨AB, cb, ub, hub, zub, rb, sb⟩ := cut_run su 8 8 rfl (by omega)
                    obtain ⟨AC, cc, uc, huc, zuc, rc, sc⟩ := cut_run su 16 16 rfl (by omega)
                    obtain ⟨AD, cd, ud, hud, zud, rd, sd⟩ := cut_run su 24 24 rfl (by omega)
                    have d0 : ∀ n, Calls Tryd.prog 25 #[.slice AU u.length cu] (wr.drewN n) fun e w' => e = .returned (.int .u64 (wordL u)) ∧ ∃ q, w' = (wr.drewN n).drewN q := fun n => word_sl ((su.below hbu).drewN n) (by omega)
                    have d1 : ∀ n, Calls Tryd.prog 25 #[.slice AB ub.length cb] (wr.drewN n) fun e w' => e = .returned (.int .u64 (wordL ub)) ∧ ∃ q, w' = (wr.drewN n).drewN q := fun n => word_sl ((sb.below hbu).drewN n) (by omega)
                    have d2 : ∀ n, Calls Tryd.prog 25 #[.slice AC uc.length cc] (wr.drewN n) fun e w' => e = .returned (.int .u64 (wordL uc)) ∧ ∃ q, w' = (wr.drewN n).drewN q := fun n => word_sl ((sc.below hbu).drewN n) (by omega)
                    have d3 : ∀ n, Calls Tryd.prog 25 #[.slice AD ud.length cd] (wr.drewN n) fun e w' => e = .returned (.int .u64 (wordL ud)) ∧ ∃ q, w' = (wr.drewN n).drewN q := fun n => word_sl ((sd.below hbu).drewN n) (by omega)
                    have kB0 := wordL_asc u (by omega)
                    have kB1 := wordL_asc ub (by omega)
                    have kB2 := wordL_asc uc (by omega)
                    have kB3 := wordL_asc ud (by omega)
                    have lB0 := wordL_lt u
                    have lB1 := wordL_lt ub
                    have lB2 := wordL_lt uc
                    have lB3 := wordL_lt ud
                    generalize wordL u = B0 at d0 kB0 lB0
                    generalize wordL ub = B1 at d1 kB1 lB1
                    generalize wordL uc = B2 at d2 kB2 lB2
                    generalize wordL ud = B3 at d3 kB3 lB3
                    have ho1 : bits .or .u64 (B0 : Int) (B1 : Int) = ((B0 ||| B1 : Nat) : Int) := u64_or_nat B0 B1 lB0 lB1
                    have ho2 : bits .or .u64 (B2 : Int) (B3 : Int) = ((B2 ||| B3 : Nat) : Int) := u64_or_nat B2 B3 lB2 lB3
                    have lo1 : B0 ||| B1 < 18446744073709551616 := Nat.or_lt_two_pow (n := 64) lB0 lB1
                    have lo2 : B2 ||| B3 < 18446744073709551616 := Nat.or_lt_two_pow (n := 64) lB2 lB3
                    have ho3 : bits .or .u64 ((B0 ||| B1 : Nat) : Int) ((B2 ||| B3 : Nat) : Int) = (((B0 ||| B1) ||| (B2 ||| B3) : Nat) : Int) := u64_or_nat _ _ lo1 lo2
                    have lo3 : (B0 ||| B1) ||| (B2 ||| B3) < 18446744073709551616 := Nat.or_lt_two_pow (n := 64) lo1 lo2
                    have hand3 : bits .and .u64 (((B0 ||| B1) ||| (B2 ||| B3) : Nat) : Int) 9259542123273814144 = ((((B0 ||| B1) ||| (B2 ||| B3)) &&& 9259542123273814144 : Nat) : Int) := u64_and_nat _ 9259542123273814144 lo3 (by omega)
                    have k3 : ((B0 ||| B1) ||| (B2 ||| B3)) &&& 9259542123273814144 = 0 → AscL u 32 := fun h0' => by
                      obtain ⟨e01, e23⟩ := (Lib.or_mask _ _ _).1 h0'
                      obtain ⟨e0, e1⟩ := (Lib.or_mask _ _ _).1 e01
                      obtain ⟨e2, e3⟩ := (Lib.or_mask _ _ _).1 e23
                      have s16 : AscL u 16 := (kB0 e0).add (a := 8) (b := 8) (by rw [← hub]; exact kB1 e1)
                      have s24 : AscL u 24 := s16.add (a := 16) (b := 8) (by rw [← huc]; exact kB2 e2)
                      exact s24.add (a := 24) (b := 8) (by rw [← hud]; exact kB3 e3)
                    obtain ⟨P1, hP1⟩ : ∃ P1, B0 ||| B1 = P1 := ⟨_, rfl⟩
                    obtain ⟨P2, hP2⟩ : ∃ P2, B2 ||| B3 = P2 := ⟨_, rfl⟩
                    rw [hP1, hP2] at ho3 hand3 k3
                    rw [hP1] at ho1
                    rw [hP2] at ho2
                    obtain ⟨P3, hP3⟩ : ∃ P3, P1 ||| P2 = P3 := ⟨_, rfl⟩
                    rw [hP3] at ho3 hand3 k3
                    obtain ⟨Z3, hZ3⟩ : ∃ Z3, P3 &&& 9259542123273814144 = Z3 := ⟨_, rfl⟩
                    rw [hZ3] at hand3 k3
                    clear kB0 kB1 kB2 kB3 lo1 lo2 lo3 hP1 hP2 hP3 hZ3 hub huc hud
                    by_cases hz3 : Z3 = 0
                    · have hz3b : ((Z3 : Int) == 0) = true := by simp [hz3]
                      have a32 := k3 hz3
                      obtain ⟨A4, c4, t4, ht4, z4, r4, s4⟩ := cut_run su 32 32 rfl (by omega)
                      have V4 := Lib.hid (show validD t4 = ANS by rw [ht4, a32.skip]; exact VU.out)
                      clear k3 a32 ht4
                      go_wp2_with fail
                      go_big_quiet (first | (go_at_call 25; with_reducible refine Calls.quiet_of (d0 _)) | (go_at_call 25; with_reducible refine Calls.quiet_of (d1 _)) | (go_at_call 25; with_reducible refine Calls.quiet_of (d2 _)) | (go_at_call 25; with_reducible refine Calls.quiet_of (d3 _)))
                      go_wp2
                      go_roundg g3
                      case measure => omega
                      case rel => exact ⟨below_drewNv hbu nq, t4, A4, c4, rfl, s4, V4.out, by omega, by omega⟩
                    · have hz3b : ((Z3 : Int) == 0) = false := by simp; omega
                      go_wp2_with fail
                      go_big_quiet (first | (go_at_call 25; with_reducible refine Calls.quiet_of (d0 _)) | (go_at_call 25; with_reducible refine Calls.quiet_of (d1 _)) | (go_at_call 25; with_reducible refine Calls.quiet_of (d2 _)) | (go_at_call 25; with_reducible refine Calls.quiet_of (d3 _)))
                      go_wp2
                      go_roundg g'
                      case measure => omega
                      case rel => exact ⟨below_drewNv hbu nq, u, AU, cu, rfl, su, VU.out, by omega, by omega⟩
                  · have c32z : ¬ ((32 : Int) < (u.length : Int)) := by omega
                    have c32b : decide ((32 : Int) < (u.length : Int)) = false := decide_eq_false c32z
                    go_wp2_with fail
                    go_big_quiet (fail)
                    go_wp2
                    go_roundg g'
                    case measure => omega
                    case rel => exact ⟨below_drewNv hbu nq, u, AU, cu, rfl, su, VU.out, by omega, by omega⟩
              · have hz2b : ((Z2 : Int) == 0) = false := by simp; omega
                go_big_quiet (first | (go_at_call 25; with_reducible refine Calls.quiet_of (cW2 _)) | (go_at_call 25; with_reducible refine Calls.quiet_of (cW3 _)))
                go_wp2
                go_roundg g'
                case measure => omega
                case rel => exact ⟨below_drewNv hb1 nq, t2, A2, c2, rfl, s2, V2.out, by omega, by omega⟩
            · have c16z : ¬ ((16 : Int) < (t2.length : Int)) := by omega
              have c16b : decide ((16 : Int) < (t2.length : Int)) = false := decide_eq_false c16z
              go_big_quiet (fail)
              go_wp2
              go_roundg g'
              case measure => omega
              case rel => exact ⟨below_drewNv hb1 nq, t2, A2, c2, rfl, s2, V2.out, by omega, by omega⟩
          · have hz1b : ((Z1 : Int) == 0) = false := by simp; omega
            go_wp2_with (go_at_call 25; refine cW1.mono ?_; rintro e W1 ⟨rfl, q1, rfl⟩)
            go_roundg g'
            case measure => omega
            case rel => exact ⟨below_drewNv hbw q1, t1, A1, c1, rfl, s1, V1.out, by omega, by omega⟩
        · have c8z : ¬ ((8 : Int) < (t1.length : Int)) := by omega
          go_wp2
          go_roundg g'
          case measure => omega
          case rel => exact ⟨hbw, t1, A1, c1, rfl, s1, V1.out, by omega, by omega⟩
      · have hge : 128 ≤ at0 t 0 := by omega
        have hascz : ¬ (((at0 t 0 : Nat) : Int) < 128) := by omega
        have l0 := at0_lt t 0
        have l1 := at0_lt t 1
        have l2 := at0_lt t 2
        have l3 := at0_lt t 3
        have hne : t ≠ [] := fun h => by rw [h] at h0; simp at h0
        have hlead := validD_lead t hne hge
        rw [HV.out] at hlead
        change ANS = match checkN t.length (at0 t 1) (at0 t 2) (at0 t 3) (firstT (at0 t 0) % 8) (accLo (firstT (at0 t 0) / 16)) (accHi (firstT (at0 t 0) / 16)) with
          | none => false
          | some k => validD (t.drop k) at hlead
        have hf0 := hTr.1 (at0 t 0) l0
        have hXlt : firstT (at0 t 0) < 256 := by rcases firstT_cases (at0 t 0) with h | h | h | h | h | h | h | h | h <;> omega
        have kc1 : 1 < t.length → wr.cell? ⟨b, off + 1, none⟩ = some (.int .u8 ((at0 t 1 : Nat) : Int)) := hcr 1
        have kc2 : 2 < t.length → wr.cell? ⟨b, off + 2, none⟩ = some (.int .u8 ((at0 t 2 : Nat) : Int)) := hcr 2
        have kc3 : 3 < t.length → wr.cell? ⟨b, off + 3, none⟩ = some (.int .u8 ((at0 t 3 : Nat) : Int)) := hcr 3
        have hblk : b < wr.heap.size := cell_lt k0
        generalize at0 t 0 = x0 at *
        generalize at0 t 1 = x1 at *
        generalize at0 t 2 = x2 at *
        generalize at0 t 3 = x3 at *
        obtain ⟨X, hX⟩ : ∃ X, firstT x0 = X := ⟨_, rfl⟩
        rw [hX] at hf0 hXlt hlead
        have h7 := and7 ⟨X, hXlt⟩
        simp only at h7
        have ha0 : wr.cell? ⟨1, X / 16 * 2, none⟩ = some (.int .u8 (accLo (X / 16))) := by rw [Nat.mul_comm]; exact (hTr.2 (X / 16) (by omega)).1
        have ha1 : wr.cell? ⟨1, X / 16 * 2 + 1, none⟩ = some (.int .u8 (accHi (X / 16))) := by rw [Nat.mul_comm]; exact (hTr.2 (X / 16) (by omega)).2
        obtain ⟨LO, hLO⟩ : ∃ LO, accLo (X / 16) = LO := ⟨_, rfl⟩
        obtain ⟨HI, hHI⟩ : ∃ HI, accHi (X / 16) = HI := ⟨_, rfl⟩
        rw [hLO] at ha0 hlead
        rw [hHI] at ha1 hlead
        obtain ⟨SZ, hSZ⟩ : ∃ SZ, X % 8 = SZ := ⟨_, rfl⟩
        rw [hSZ] at hlead
        clear hTr hT hX HV hLO hHI hne hcr hcw
        have W1a := (cell_alloc_two wr (.int .u8 (LO : Int)) (.int .u8 (HI : Int)))
        have hba : Below w.heap.size w (wr.alloc (.cells #[.int .u8 (LO : Int), .int .u8 (HI : Int)] 51)) := hbw.alloc hbw.size _
        have hbr : Below wr.heap.size wr (wr.alloc (.cells #[.int .u8 (LO : Int), .int .u8 (HI : Int)] 51)) := (Below.refl _ wr).alloc (Nat.le_refl _) _
        have kd1 : Given (1 < t.length) ((wr.alloc (.cells #[.int .u8 (LO : Int), .int .u8 (HI : Int)] 51)).cell? ⟨b, off + 1, none⟩ = some (.int .u8 ((x1 : Nat) : Int))) := fun h => (hbr.cell (p := ⟨b, off + 1, none⟩) hblk).trans (kc1 h)
        have kd2 : Given (2 < t.length) ((wr.alloc (.cells #[.int .u8 (LO : Int), .int .u8 (HI : Int)] 51)).cell? ⟨b, off + 2, none⟩ = some (.int .u8 ((x2 : Nat) : Int))) := fun h => (hbr.cell (p := ⟨b, off + 2, none⟩) hblk).trans (kc2 h)
        have kd3 : Given (3 < t.length) ((wr.alloc (.cells #[.int .u8 (LO : Int), .int .u8 (HI : Int)] 51)).cell? ⟨b, off + 3, none⟩ = some (.int .u8 ((x3 : Nat) : Int))) := fun h => (hbr.cell (p := ⟨b, off + 3, none⟩) hblk).trans (kc3 h)
        clear kc1 kc2 kc3 hbr
        have HL := Lib.hid hlead
        clear hlead
        by_cases s2 : SZ = 2
        · as_aux_lemma =>
          subst s2
          have hSZz : (X : Int) % 8 = 2 := by omega
          have HL2 := HL.out
          simp only [checkN, Nat.reduceEqDiff, if_true, if_false] at HL2
          have HL3 := Lib.hid HL2
          clear HL2 HL
          go_upto_region 18 with fail
          generalize wr.alloc (.cells #[.int .u8 (LO : Int), .int .u8 (HI : Int)] 51) = wa at W1a hba kd1 kd2 kd3 ⊢
          obtain ⟨e0, e1⟩ := W1a
          generalize wr.heap.size = G at e0 e1 ⊢
          go_cut [103] from 85 to 103 (fun v wx => v = .bool (decide (t.length < 2 ∨ x1 < LO ∨ HI < x1)) ∧ Below w.heap.size w wx)
          case first =>
            by_cases q0 : t.length < 2
            · have q0z : (t.length : Int) < 2 := by omega
              go_big_quiet (fail)
              go_wp2
              go_meet
              exact ⟨congrArg Value.bool (decide_eq_true (p := t.length < 2 ∨ x1 < LO ∨ HI < x1) (by omega)).symm, below_drewNv hba _⟩
            · have q0z : ¬ ((t.length : Int) < 2) := by omega
              have hz1 : (1 : Int) < (t.length : Int) := by omega
              have kk1 := kd1 (by omega)
              by_cases q1 : x1 < LO
              · have q1z : (x1 : Int) < (LO : Int) := by omega
                go_big_quiet (fail)
                go_wp2
                go_meet
                exact ⟨congrArg Value.bool (decide_eq_true (p := t.length < 2 ∨ x1 < LO ∨ HI < x1) (by omega)).symm, below_drewNv hba _⟩
              · have q1z : ¬ ((x1 : Int) < (LO : Int)) := by omega
                by_cases q2 : HI < x1
                · have q2z : (HI : Int) < (x1 : Int) := by omega
                  go_big_quiet (fail)
                  go_wp2
                  go_meet
                  exact ⟨congrArg Value.bool (decide_eq_true (p := t.length < 2 ∨ x1 < LO ∨ HI < x1) (by omega)).symm, below_drewNv hba _⟩
                · have q2z : ¬ ((HI : Int) < (x1 : Int)) := by omega
                  go_big_quiet (fail)
                  go_wp2
                  go_meet
                  exact ⟨congrArg Value.bool (decide_eq_false (p := t.length < 2 ∨ x1 < LO ∨ HI < x1) (by omega)).symm, below_drewNv hba _⟩
          case rest =>
            obtain ⟨rfl, hbc⟩ := hcut
            by_cases hb : t.length < 2 ∨ x1 < LO ∨ HI < x1
            · have hbd : decide (t.length < 2 ∨ x1 < LO ∨ HI < x1) = true := decide_eq_true hb
              have HL4 := HL3.out
              rw [if_pos hb] at HL4
              simp only at HL4
              subst HL4
              go_wp2
              all_goals (go_ret; exact ⟨rfl, hbc⟩)
            · have hbd : decide (t.length < 2 ∨ x1 < LO ∨ HI < x1) = false := decide_eq_false hb
              have HL4 := HL3.out
              rw [if_neg hb] at HL4
              simp only at HL4
              obtain ⟨A5, c5, t5, ht5, z5, r5, s5⟩ := cut_run hs 2 2 rfl (by omega)
              have V5 := Lib.hid (show validD t5 = ANS by rw [ht5, HL4])
              clear HL4 ht5
              go_wp2
              go_roundg g'
              case measure => omega
              case rel => exact ⟨hbc, t5, A5, c5, rfl, s5, V5.out, by omega, by omega⟩
        by_cases s3 : SZ = 3
        · as_aux_lemma =>
          subst s3
          have hSZz : (X : Int) % 8 = 3 := by omega
          have HL2 := HL.out
          simp only [checkN, Nat.reduceEqDiff, if_true, if_false] at HL2
          have HL3 := Lib.hid HL2
          clear HL2 HL
          go_upto_region 22 with fail
          generalize wr.alloc (.cells #[.int .u8 (LO : Int), .int .u8 (HI : Int)] 51) = wa at W1a hba kd1 kd2 kd3 ⊢
          obtain ⟨e0, e1⟩ := W1a
          generalize wr.heap.size = G at e0 e1 ⊢
          go_cut [138] from 108 to 138 (fun v wx => v = .bool (decide (t.length < 3 ∨ x1 < LO ∨ HI < x1 ∨ x2 < 128 ∨ 191 < x2)) ∧ Below w.heap.size w wx)
          case first =>
            by_cases q0 : t.length < 3
            · have q0z : (t.length : Int) < 3 := by omega
              go_big_quiet (fail)
              go_wp2
              go_meet
              exact ⟨congrArg Value.bool (decide_eq_true (p := t.length < 3 ∨ x1 < LO ∨ HI < x1 ∨ x2 < 128 ∨ 191 < x2) (by omega)).symm, below_drewNv hba _⟩
            · have q0z : ¬ ((t.length : Int) < 3) := by omega
              have hz1 : (1 : Int) < (t.length : Int) := by omega
              have kk1 := kd1 (by omega)
              have hz2 : (2 : Int) < (t.length : Int) := by omega
              have kk2 := kd2 (by omega)
              by_cases q1 : x1 < LO
              · have q1z : (x1 : Int) < (LO : Int) := by omega
                go_big_quiet (fail)
                go_wp2
                go_meet
                exact ⟨congrArg Value.bool (decide_eq_true (p := t.length < 3 ∨ x1 < LO ∨ HI < x1 ∨ x2 < 128 ∨ 191 < x2) (by omega)).symm, below_drewNv hba _⟩
              · have q1z : ¬ ((x1 : Int) < (LO : Int)) := by omega
                by_cases q2 : HI < x1
                · have q2z : (HI : Int) < (x1 : Int) := by omega
                  go_big_quiet (fail)
                  go_wp2
                  go_meet
                  exact ⟨congrArg Value.bool (decide_eq_true (p := t.length < 3 ∨ x1 < LO ∨ HI < x1 ∨ x2 < 128 ∨ 191 < x2) (by omega)).symm, below_drewNv hba _⟩
                · have q2z : ¬ ((HI : Int) < (x1 : Int)) := by omega
                  by_cases q3 : x2 < 128
                  · have q3z : (x2 : Int) < 128 := by omega
                    go_big_quiet (fail)
                    go_wp2
                    go_meet
                    exact ⟨congrArg Value.bool (decide_eq_true (p := t.length < 3 ∨ x1 < LO ∨ HI < x1 ∨ x2 < 128 ∨ 191 < x2) (by omega)).symm, below_drewNv hba _⟩
                  · have q3z : ¬ ((x2 : Int) < 128) := by omega
                    by_cases q4 : 191 < x2
                    · have q4z : (191 : Int) < (x2 : Int) := by omega
                      go_big_quiet (fail)
                      go_wp2
                      go_meet
                      exact ⟨congrArg Value.bool (decide_eq_true (p := t.length < 3 ∨ x1 < LO ∨ HI < x1 ∨ x2 < 128 ∨ 191 < x2) (by omega)).symm, below_drewNv hba _⟩
                    · have q4z : ¬ ((191 : Int) < (x2 : Int)) := by omega
                      go_big_quiet (fail)
                      go_wp2
                      go_meet
                      exact ⟨congrArg Value.bool (decide_eq_false (p := t.length < 3 ∨ x1 < LO ∨ HI < x1 ∨ x2 < 128 ∨ 191 < x2) (by omega)).symm, below_drewNv hba _⟩
          case rest =>
            obtain ⟨rfl, hbc⟩ := hcut
            by_cases hb : t.length < 3 ∨ x1 < LO ∨ HI < x1 ∨ x2 < 128 ∨ 191 < x2
            · have hbd : decide (t.length < 3 ∨ x1 < LO ∨ HI < x1 ∨ x2 < 128 ∨ 191 < x2) = true := decide_eq_true hb
              have HL4 := HL3.out
              rw [if_pos hb] at HL4
              simp only at HL4
              subst HL4
              go_wp2
              all_goals (go_ret; exact ⟨rfl, hbc⟩)
            · have hbd : decide (t.length < 3 ∨ x1 < LO ∨ HI < x1 ∨ x2 < 128 ∨ 191 < x2) = false := decide_eq_false hb
              have HL4 := HL3.out
              rw [if_neg hb] at HL4
              simp only at HL4
              obtain ⟨A5, c5, t5, ht5, z5, r5, s5⟩ := cut_run hs 3 3 rfl (by omega)
              have V5 := Lib.hid (show validD t5 = ANS by rw [ht5, HL4])
              clear HL4 ht5
              go_wp2
              go_roundg g'
              case measure => omega
              case rel => exact ⟨hbc, t5, A5, c5, rfl, s5, V5.out, by omega, by omega⟩
        by_cases s4 : SZ = 4
        · as_aux_lemma =>
          subst s4
          have hSZz : (X : Int) % 8 = 4 := by omega
          have HL2 := HL.out
          simp only [checkN, Nat.reduceEqDiff, if_true, if_false] at HL2
          have HL3 := Lib.hid HL2
          clear HL2 HL
          go_upto_region 26 with fail
          generalize wr.alloc (.cells #[.int .u8 (LO : Int), .int .u8 (HI : Int)] 51) = wa at W1a hba kd1 kd2 kd3 ⊢
          obtain ⟨e0, e1⟩ := W1a
          generalize wr.heap.size = G at e0 e1 ⊢
          go_cut [185] from 143 to 185 (fun v wx => v = .bool (decide (t.length < 4 ∨ x1 < LO ∨ HI < x1 ∨ x2 < 128 ∨ 191 < x2 ∨ x3 < 128 ∨ 191 < x3)) ∧ Below w.heap.size w wx)
          case first =>
            by_cases q0 : t.length < 4
            · have q0z : (t.length : Int) < 4 := by omega
              go_big_quiet (fail)
              go_wp2
              go_meet
              exact ⟨congrArg Value.bool (decide_eq_true (p := t.length < 4 ∨ x1 < LO ∨ HI < x1 ∨ x2 < 128 ∨ 191 < x2 ∨ x3 < 128 ∨ 191 < x3) (by omega)).symm, below_drewNv hba _⟩
            · have q0z : ¬ ((t.length : Int) < 4) := by omega
              have hz1 : (1 : Int) < (t.length : Int) := by omega
              have kk1 := kd1 (by omega)
              have hz2 : (2 : Int) < (t.length : Int) := by omega
              have kk2 := kd2 (by omega)
              have hz3 : (3 : Int) < (t.length : Int) := by omega
              have kk3 := kd3 (by omega)
              by_cases q1 : x1 < LO
              · have q1z : (x1 : Int) < (LO : Int) := by omega
                go_big_quiet (fail)
                go_wp2
                go_meet
                exact ⟨congrArg Value.bool (decide_eq_true (p := t.length < 4 ∨ x1 < LO ∨ HI < x1 ∨ x2 < 128 ∨ 191 < x2 ∨ x3 < 128 ∨ 191 < x3) (by omega)).symm, below_drewNv hba _⟩
              · have q1z : ¬ ((x1 : Int) < (LO : Int)) := by omega
                by_cases q2 : HI < x1
                · have q2z : (HI : Int) < (x1 : Int) := by omega
                  go_big_quiet (fail)
                  go_wp2
                  go_meet
                  exact ⟨congrArg Value.bool (decide_eq_true (p := t.length < 4 ∨ x1 < LO ∨ HI < x1 ∨ x2 < 128 ∨ 191 < x2 ∨ x3 < 128 ∨ 191 < x3) (by omega)).symm, below_drewNv hba _⟩
                · have q2z : ¬ ((HI : Int) < (x1 : Int)) := by omega
                  by_cases q3 : x2 < 128
                  · have q3z : (x2 : Int) < 128 := by omega
                    go_big_quiet (fail)
                    go_wp2
                    go_meet
                    exact ⟨congrArg Value.bool (decide_eq_true (p := t.length < 4 ∨ x1 < LO ∨ HI < x1 ∨ x2 < 128 ∨ 191 < x2 ∨ x3 < 128 ∨ 191 < x3) (by omega)).symm, below_drewNv hba _⟩
                  · have q3z : ¬ ((x2 : Int) < 128) := by omega
                    by_cases q4 : 191 < x2
                    · have q4z : (191 : Int) < (x2 : Int) := by omega
                      go_big_quiet (fail)
                      go_wp2
                      go_meet
                      exact ⟨congrArg Value.bool (decide_eq_true (p := t.length < 4 ∨ x1 < LO ∨ HI < x1 ∨ x2 < 128 ∨ 191 < x2 ∨ x3 < 128 ∨ 191 < x3) (by omega)).symm, below_drewNv hba _⟩
                    · have q4z : ¬ ((191 : Int) < (x2 : Int)) := by omega
                      by_cases q5 : x3 < 128
                      · have q5z : (x3 : Int) < 128 := by omega
                        go_big_quiet (fail)
                        go_wp2
                        go_meet
                        exact ⟨congrArg Value.bool (decide_eq_true (p := t.length < 4 ∨ x1 < LO ∨ HI < x1 ∨ x2 < 128 ∨ 191 < x2 ∨ x3 < 128 ∨ 191 < x3) (by omega)).symm, below_drewNv hba _⟩
                      · have q5z : ¬ ((x3 : Int) < 128) := by omega
                        by_cases q6 : 191 < x3
                        · have q6z : (191 : Int) < (x3 : Int) := by omega
                          go_big_quiet (fail)
                          go_wp2
                          go_meet
                          exact ⟨congrArg Value.bool (decide_eq_true (p := t.length < 4 ∨ x1 < LO ∨ HI < x1 ∨ x2 < 128 ∨ 191 < x2 ∨ x3 < 128 ∨ 191 < x3) (by omega)).symm, below_drewNv hba _⟩
                        · have q6z : ¬ ((191 : Int) < (x3 : Int)) := by omega
                          go_big_quiet (fail)
                          go_wp2
                          go_meet
                          exact ⟨congrArg Value.bool (decide_eq_false (p := t.length < 4 ∨ x1 < LO ∨ HI < x1 ∨ x2 < 128 ∨ 191 < x2 ∨ x3 < 128 ∨ 191 < x3) (by omega)).symm, below_drewNv hba _⟩
          case rest =>
            obtain ⟨rfl, hbc⟩ := hcut
            by_cases hb : t.length < 4 ∨ x1 < LO ∨ HI < x1 ∨ x2 < 128 ∨ 191 < x2 ∨ x3 < 128 ∨ 191 < x3
            · have hbd : decide (t.length < 4 ∨ x1 < LO ∨ HI < x1 ∨ x2 < 128 ∨ 191 < x2 ∨ x3 < 128 ∨ 191 < x3) = true := decide_eq_true hb
              have HL4 := HL3.out
              rw [if_pos hb] at HL4
              simp only at HL4
              subst HL4
              go_wp2
              all_goals (go_ret; exact ⟨rfl, hbc⟩)
            · have hbd : decide (t.length < 4 ∨ x1 < LO ∨ HI < x1 ∨ x2 < 128 ∨ 191 < x2 ∨ x3 < 128 ∨ 191 < x3) = false := decide_eq_false hb
              have HL4 := HL3.out
              rw [if_neg hb] at HL4
              simp only at HL4
              obtain ⟨A5, c5, t5, ht5, z5, r5, s5⟩ := cut_run hs 4 4 rfl (by omega)
              have V5 := Lib.hid (show validD t5 = ANS by rw [ht5, HL4])
              clear HL4 ht5
              go_wp2
              go_roundg g'
              case measure => omega
              case rel => exact ⟨hbc, t5, A5, c5, rfl, s5, V5.out, by omega, by omega⟩
        · have e2 : ¬ ((X : Int) % 8 = 2) := by omega
          have e3 : ¬ ((X : Int) % 8 = 3) := by omega
          have e4 : ¬ ((X : Int) % 8 = 4) := by omega
          have e2b : (((X : Int) % 8) == 2) = false := by simp; omega
          have e3b : (((X : Int) % 8) == 3) = false := by simp; omega
          have e4b : (((X : Int) % 8) == 4) = false := by simp; omega
          have HL2 := HL.out
          simp only [checkN, s2, s3, s4, if_false] at HL2
          subst HL2
          clear HL W1a kd1 kd2 kd3
          go_wp2
          all_goals (go_ret; exact ⟨rfl, hba⟩)
    · have h0z : ¬ ((0 : Int) < (t.length : Int)) := by omega
      have ht0 : t = [] := List.eq_nil_of_length_eq_zero (by omega)
      have hA : ANS = true := by rw [← HV.out, ht0]; rfl
      clear ht0
      subst hA
      go_wp2
      go_ret
      exact ⟨rfl, hbw⟩
end Go.Proofs.YtfodfjjhlbpniaaDoor
