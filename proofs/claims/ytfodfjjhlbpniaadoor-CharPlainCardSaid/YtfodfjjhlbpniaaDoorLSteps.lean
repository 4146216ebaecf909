/- The law CharSteps, walked. -/
import Derived.Test.YtfodfjjhlbpniaaDoorLAll
namespace Go.Proofs.YtfodfjjhlbpniaaDoor
open Go.RowKit Go.Lib

theorem byteZ (z : Int) (n : Nat) (h : z = n) : z.toNat.toUInt8 = UInt8.ofNat n := by subst h; rfl

/-- 'string(c)' of a character that may come out -/
theorem encode_good (c : Nat) (h : good c) : Utf8.encode (c : Int) = ⟨(encodeRune (c : Int)).toArray⟩ := by
  have hv : Utf8.valid (c : Int) = true := by
    unfold Utf8.valid; unfold good at h; simp; omega
  unfold Utf8.encode
  simp only [hv, if_true, Int.toNat_natCast]
  rcases good_cases h with k | k | k | k
  · rw [if_pos (by omega), enc_one c k]; rfl
  · rw [if_neg (by omega), if_pos (by omega), enc_two c k.1 k.2, byteZ _ (192 + c / 64) (by omega), byteZ _ (128 + c % 64) (by omega)]
  · rw [if_neg (by omega), if_neg (by omega), if_pos (by omega), enc_three c k, byteZ _ (224 + c / 4096) (by omega), byteZ _ (128 + c / 64 % 64) (by omega), byteZ _ (128 + c % 64) (by omega)]
  · rw [if_neg (by omega), if_neg (by omega), if_neg (by omega), enc_four c k.1 k.2, byteZ _ (240 + c / 262144) (by omega), byteZ _ (128 + c / 4096 % 64) (by omega), byteZ _ (128 + c / 64 % 64) (by omega), byteZ _ (128 + c % 64) (by omega)]

theorem str_join (p q : List UInt8) : (⟨p.toArray⟩ : ByteArray) ++ (⟨q.toArray⟩ : ByteArray) = ⟨(p ++ q).toArray⟩ := by
  rw [ByteArray.mk_append_mk]

theorem join_enc (p : List UInt8) (c : Nat) (h : good c) : (⟨p.toArray⟩ : ByteArray) ++ Utf8.encode (c : Int) = ⟨(p ++ encodeRune (c : Int)).toArray⟩ := by
  rw [encode_good c h, str_join]

def EncIs (c : Nat) (E : ByteArray) : Prop := E = Utf8.encode (c : Int)
theorem EncIs.join {c : Nat} {E : ByteArray} (h : EncIs c E) (hg : good c) (p : List UInt8) : (⟨p.toArray⟩ : ByteArray) ++ E = ⟨(p ++ encodeRune (c : Int)).toArray⟩ := by
  rw [h, join_enc p c hg]

def StepK (l : List UInt8) (i : Nat) (k : Int) (R : Nat × Nat) : Prop := (i : Int) < k → allFrom l i k = encodeRune (R.1 : Int) ++ allFrom l ((i + R.2 : Nat) : Int) k

def StepRel (l : List UInt8) (k : Int) (w : World) (v5 v6 v7 : Value) (wr : World) : Prop :=
  ∃ (i : Nat) (p q : List UInt8), v5 = .int .i64 i ∧ v6 = .string ⟨p.toArray⟩ ∧ v7 = .string ⟨q.toArray⟩ ∧ i ≤ l.length ∧ p ++ allFrom l i l.length = allFrom l 0 l.length ∧ q ++ allFrom l i k = allFrom l 0 k ∧ Below w.heap.size w wr

set_option maxHeartbeats 1000000 in
set_option maxRecDepth 100000 in
theorem charSteps_long (n : Nat) (a : Option Addr) (cap : Nat) (x : Int) (w : World) (hT : Lib.Utf8Tabs 0 1 w) (h : 400 < n) :
    Calls Tryd.prog 6 #[.slice a n cap, .int .u8 x] w fun e w' => e = .returned (.bool true) ∧ Below w.heap.size w w' := by
  have h1 : (400 : Int) < (n : Int) := by omega
  go_enter Tryd.func6, Tryd.ntmps6
  go_wp2_with fail
  refine (speaks_any w hT).mono ?_
  rintro e w1 ⟨rfl, hb1⟩
  go_wp2_with fail
  refine (speaks_any w1 (Tabs_below hT hb1)).mono ?_
  rintro e w2 ⟨rfl, hb2⟩
  go_wp2
  go_ret
  exact ⟨rfl, hb1.trans (hb2.mono hb1.size)⟩

set_option maxHeartbeats 1000000 in
set_option maxRecDepth 100000 in
theorem charSteps_walk (l : List UInt8) (a : Option Addr) (cap : Nat) (k : Int) (w : World) (hs : Sl l a cap w) (hT : Lib.Utf8Tabs 0 1 w) (h : l.length ≤ 400) (hk0 : 0 ≤ k) (hk1 : k ≤ 255) :
    Calls Tryd.prog 6 #[.slice a l.length cap, .int .u8 k] w fun e w' => e = .returned (.bool true) ∧ Below w.heap.size w w' := by
  have h1 : ¬ ((400 : Int) < (l.length : Int)) := by omega
  go_enter Tryd.func6, Tryd.ntmps6
  go_wp2_with fail
  refine (speaks_any w hT).mono ?_
  rintro e w1 ⟨rfl, B1⟩
  go_wp2
  go_loopw [5, 6, 7] (fun v5 v6 v7 wr => StepRel l k w v5 v6 v7 wr) (fun v5 _ _ _ => ((l.length : Int) - RowKit.intOf v5).toNat)
  case atStart => exact ⟨0, [], [], rfl, rfl, rfl, by omega, rfl, rfl, B1⟩
  case round =>
    obtain ⟨i, p, q, rfl, rfl, rfl, hil, hp, hq, hbw⟩ := hrel
    have hsr := hs.below hbw
    have hTr := Tabs_below hT hbw
    have hsz := hbw.size
    have HP := Lib.hid hp
    have HQ := Lib.hid hq
    have hpl : p.length ≤ 1600 := by
      have := allFrom_len l 0 l.length
      rw [← hp] at this
      simp at this; omega
    have hql : q.length ≤ 1600 := by
      have := allFrom_len l 0 k
      rw [← hq] at this
      simp at this; omega
    clear hp hq
    by_cases hlt : i < l.length
    · have hlt' : (i : Int) < (l.length : Int) := by omega
      have hN := next_any l a cap i wr hsr hTr
      rw [nxAt_in hlt] at hN
      have hne : l.drop i ≠ [] := by
        intro e; have := congrArg List.length e; simp at this; omega
      have hw := nx_width _ hne
      have hg := nx_good (l.drop i)
      have hst := Lib.hid (allFrom_step l i l.length hlt hlt')
      have hsk : StepK l i k (nx (l.drop i)) := allFrom_step l i k hlt
      simp only [List.length_drop] at hw
      clear hne
      generalize nx (l.drop i) = R at hN hw hg hst hsk
      obtain ⟨c, n⟩ := R
      simp only at hw hg hst hN
      have n1 : ¬ (n : Int) < 1 := by omega
      have n4 : ¬ (4 : Int) < (n : Int) := by omega
      have c0 : ((c : Int) == 0) = false := by simpa using hg.1
      have c13 : ((c : Int) == 13) = false := by have := hg.2.1; simp; omega
      have HG := Lib.hid hg
      clear hg
      obtain ⟨E, hE, hel⟩ : ∃ E : ByteArray, Utf8.encode (c : Int) = E ∧ E.size ≤ 4 := ⟨_, rfl, by rw [encode_good c HG.out, str_size]; exact (enc_len _).2⟩
      have HE : EncIs c E := hE.symm
      have hconv : ∀ w, (convert 21 9 (.int .i32 (c : Int))).run Tryd.prog w = .ok (.string E) w := by
        intro w; rw [← hE]; exact run_convert_int_string w 21 9 .i32 c rfl Tryd.underlying9
      have kp : ¬ (9223372036854775807 < p.length + E.size) := by omega
      have kq : ¬ (9223372036854775807 < q.length + E.size) := by omega
      clear hE
      go_wp2_with fail
      refine hN.mono ?_
      rintro e w2 ⟨rfl, hb2⟩
      by_cases hik : (i : Int) < k
      · go_wp2
        go_roundw
        case rel =>
          refine ⟨i + n, p ++ encodeRune (c : Int), q ++ encodeRune (c : Int), by go_num, ?_, ?_, by omega, ?_, ?_, hbw.trans (hb2.mono hsz)⟩
          · rw [HE.join HG.out p]
          · rw [HE.join HG.out q]
          · rw [List.append_assoc, ← hst.out]; exact HP.out
          · rw [List.append_assoc, ← hsk hik]; exact HQ.out
        case measure => simp [RowKit.intOf]; omega
      · have hik' : decide ((i : Int) < k) = false := decide_eq_false hik
        have e1 := allFrom_late l i k hik
        have e2 := allFrom_late l ((i + n : Nat) : Int) k (by omega)
        have HQ' := Lib.hid (show q ++ allFrom l ((i + n : Nat) : Int) k = allFrom l 0 k by rw [e2, ← e1]; exact HQ.out)
        clear e1 e2 hik
        go_wp2
        go_roundw
        case rel =>
          refine ⟨i + n, p ++ encodeRune (c : Int), q, by go_num, ?_, rfl, by omega, ?_, HQ'.out, hbw.trans (hb2.mono hsz)⟩
          · rw [HE.join HG.out p]
          · rw [List.append_assoc, ← hst.out]; exact HP.out
        case measure => simp [RowKit.intOf]; omega
    · obtain rfl : i = l.length := by omega
      have hlt' : ¬ ((l.length : Int) < (l.length : Int)) := by omega
      have e1 := allFrom_out l l.length l.length (by omega)
      have e2 := allFrom_out l l.length k (by omega)
      have ep : p = allFrom l 0 l.length := by rw [← HP.out, e1, List.append_nil]
      have eq : q = allFrom l 0 k := by rw [← HQ.out, e2, List.append_nil]
      subst ep eq
      clear e1 e2 HP HQ
      go_wp2_with fail
      refine (all_any l a cap 0 l.length wr hsr hTr (by omega)).mono ?_
      rintro e w2 ⟨rfl, b2⟩
      have B2 := hbw.trans (b2.mono hsz)
      go_wp2_with fail
      refine (all_any l a cap 0 k w2 (hs.below B2) (Tabs_below hT B2) (by omega)).mono ?_
      rintro e w3 ⟨rfl, b3⟩
      have B3 := B2.trans (b3.mono B2.size)
      go_wp2
      go_ret
      exact ⟨rfl, B3⟩
end Go.Proofs.YtfodfjjhlbpniaaDoor
