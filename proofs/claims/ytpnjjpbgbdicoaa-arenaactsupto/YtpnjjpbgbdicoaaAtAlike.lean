/- The reference's Alike and the library's Equal, walked: they only read. -/
import Derived.Test.YtpnjjpbgbdicoaaAtApp
import Derived.Deep.QuietTactic
import Derived.BigQuiet
import Derived.Laws.StructEq
namespace Go.Proofs.Ytpnjjpbgbdicoaa.At
open Go.RowKit Go.Lib

def alike (L M : List At) : Bool := decide (L = M)

/-- as far as one has looked they are the same -/
def Front (L M : List At) (k : Nat) : Prop := ∀ j, j < k → at0 L j = at0 M j

theorem front_succ {L M : List At} {k : Nat} (h : Front L M k) (he : at0 L k = at0 M k) : Front L M (k + 1) := by
  intro j hj
  rcases Nat.lt_or_ge j k with g | g
  · exact h j g
  · obtain rfl : j = k := by omega
    exact he
theorem alike_not {L M : List At} {k : Nat} (h : at0 L k ≠ at0 M k) : alike L M = false := decide_eq_false (fun e => h (by rw [e]))
theorem alike_yes {L M : List At} (hq : L.length = M.length) (h : ∀ j, j < L.length → at0 L j = at0 M j) : alike L M = true := decide_eq_true (ext_at hq h)

theorem below_drewN {B : Nat} {w w' : World} (h : Below B w w') (n : Nat) : Below B w (w'.drewN n) := ⟨h.os, h.tape, h.output, h.size, h.block⟩


theorem eqA82 (x1 x2 y1 y2 : Str) (w : World) : (Op.equalIn 10000 82 (.agg #[.string ⟨x1.toArray⟩, .string ⟨x2.toArray⟩]) (.agg #[.string ⟨y1.toArray⟩, .string ⟨y2.toArray⟩])).run Try.prog w = .ok (decide ((x1, x2) = (y1, y2))) w := by
  have hS : Try.prog.underlying 82 = some (.struct (Try.prog.fieldsOf 82)) := by kernel_rfl
  have hp : Try.prog.stoodInHeld 82 = false := by kernel_rfl
  have u9 := Try.underlying9
  have a9 := Try.isAgg9
  have z9 := Try.sizeOf9
  rw [show (10000 : Nat) = 9999 + 1 from rfl, run_equalIn_agg w 9999 82 _ _ hS hp]
  simp only [Program.fieldsOf, Try.underlying82]
  go_simp
  by_cases h1 : x1 = y1 <;> by_cases h2 : x2 = y2 <;> simp [h1, h2]

set_option maxHeartbeats 4000000 in
set_option maxRecDepth 100000 in
theorem alike_in (L : List At) (b off cap : Nat) (M : List At) (b2 off2 cap2 : Nat) (w : World) (hc : Cells L b off w) (hc2 : Cells M b2 off2 w) (hl : L.length ≤ 1000000) (hq : L.length = M.length) :
    Calls Try.prog 25 #[.slice (some ⟨b, off, none⟩) L.length cap, .slice (some ⟨b2, off2, none⟩) M.length cap2] w fun e w' => e = .returned (.bool (alike L M)) ∧ ∃ n, w' = w.drewN n := by
  have e1 : ((L.length : Int) != (M.length : Int)) = false := by simp [hq]
  have HQ := Lib.hid hq
  clear hq
  go_enter Try.func25, Try.ntmps25
  go_wp2
  go_loopw [5] (fun v wr => ∃ k : Nat, v = .int .i64 k ∧ k ≤ L.length ∧ Front L M k ∧ ∃ n, wr = w.drewN n) (fun v _ => L.length - (RowKit.intOf v).toNat)
  case atStart => exact ⟨0, rfl, by omega, fun j hj => absurd hj (by omega), 0, rfl⟩
  case round =>
    obtain ⟨k, rfl, hk, hah, nn, rfl⟩ := hrel
    have HA := Lib.hid hah
    clear hah e1
    by_cases hlt : k < L.length
    · obtain ⟨c1, c2⟩ := hc k hlt
      have hlt2 : k < M.length := by have := HQ.out; omega
      obtain ⟨d1, d2⟩ := hc2 k hlt2
      have h1 : (k : Int) < (L.length : Int) := by omega
      have h2 : (k : Int) < (M.length : Int) := by omega
      obtain ⟨⟨x1, x2⟩, hx⟩ : ∃ x, at0 L k = x := ⟨_, rfl⟩
      obtain ⟨⟨y1, y2⟩, hy⟩ : ∃ x, at0 M k = x := ⟨_, rfl⟩
      rw [hx] at c1 c2
      rw [hy] at d1 d2
      simp only at c1 c2 d1 d2
      have HX := Lib.hid hx
      have HY := Lib.hid hy
      clear hx hy hc hc2
      have hE := eqA82 x1 x2 y1 y2
      have hm : Try.prog.eqGuardType Try.prog.depth 82 = false := by kernel_rfl
      by_cases he : (x1, x2) = (y1, y2)
      · rw [decide_eq_true he] at hE
        have HF := Lib.hid (front_succ HA.out (by rw [HX.out, HY.out, he]))
        clear he HX HY HA
        go_wp2
        go_quiet (fail)
        go_wp2
        go_roundw
        case rel => exact ⟨k + 1, by go_num, by omega, HF.out, _, rfl⟩
        case measure => simp [RowKit.intOf]; omega
      · rw [decide_eq_false he] at hE
        have HN := Lib.hid (alike_not (L := L) (M := M) (k := k) (by rw [HX.out, HY.out]; exact he))
        clear he HX HY HA
        go_wp2
        go_quiet (fail)
        go_wp2
        go_ret
        exact ⟨ret_bool HN.out.symm, _, World.drewN_drewN ..⟩
    · have h1 : ¬ ((k : Int) < (L.length : Int)) := by omega
      have HN := Lib.hid (alike_yes HQ.out (fun j hj => HA.out j (by omega)))
      clear hc hc2
      go_wp2
      go_ret
      exact ⟨ret_bool HN.out.symm, _, rfl⟩

set_option maxHeartbeats 2000000 in
set_option maxRecDepth 100000 in
theorem alike_nil (a : Option Addr) (cap : Nat) (a2 : Option Addr) (cap2 : Nat) (w : World) :
    Calls Try.prog 25 #[.slice a 0 cap, .slice a2 0 cap2] w fun e w' => e = .returned (.bool true) ∧ w' = w := by
  go_enter Try.func25, Try.ntmps25
  go_wp2
  go_loop [5] (fun v => v = .int .i64 0) (fun _ => 0)
  case atStart => rfl
  case round =>
    subst hrel
    go_wp2
    go_ret
    exact ⟨rfl, rfl⟩

set_option maxHeartbeats 2000000 in
set_option maxRecDepth 100000 in
theorem alike_any (L : List At) (a : Option Addr) (cap : Nat) (M : List At) (a2 : Option Addr) (cap2 : Nat) (w : World) (hs : Sl L a cap w) (hs2 : Sl M a2 cap2 w) (hl : L.length ≤ 1000000) :
    Calls Try.prog 25 #[.slice a L.length cap, .slice a2 M.length cap2] w fun e w' => e = .returned (.bool (alike L M)) ∧ ∃ n, w' = w.drewN n := by
  by_cases hq : L.length = M.length
  · obtain ⟨hcap, -, h0 | ⟨b, off, rfl, hc⟩⟩ := hs
    · subst h0
      obtain rfl : M = [] := List.eq_nil_of_length_eq_zero hq.symm
      exact (alike_nil a cap a2 cap2 w).mono fun e w' h => ⟨h.1, 0, h.2⟩
    · obtain ⟨hcap2, -, h0 | ⟨b2, off2, rfl, hc2⟩⟩ := hs2
      · subst h0
        obtain rfl : L = [] := List.eq_nil_of_length_eq_zero hq
        exact (alike_nil _ cap a2 cap2 w).mono fun e w' h => ⟨h.1, 0, h.2⟩
      · exact alike_in L b off cap M b2 off2 cap2 w hc hc2 hl hq
  · rw [show alike L M = false from decide_eq_false (fun h => hq (by rw [h]))]
    have h1 : ((L.length : Int) != (M.length : Int)) = true := by simp; omega
    clear hq
    go_enter Try.func25, Try.ntmps25
    go_wp2
    go_ret
    exact ⟨rfl, 0, rfl⟩

theorem eqA83 (x1 x2 y1 y2 : Str) (w : World) : (Op.equalIn 10000 83 (.agg #[.string ⟨x1.toArray⟩, .string ⟨x2.toArray⟩]) (.agg #[.string ⟨y1.toArray⟩, .string ⟨y2.toArray⟩])).run Try.prog w = .ok (decide ((x1, x2) = (y1, y2))) w := by
  have hS : Try.prog.underlying 83 = some (.struct (Try.prog.fieldsOf 83)) := by kernel_rfl
  have hp : Try.prog.stoodInHeld 83 = false := by kernel_rfl
  have u9 := Try.underlying9
  have a9 := Try.isAgg9
  have z9 := Try.sizeOf9
  rw [show (10000 : Nat) = 9999 + 1 from rfl, run_equalIn_agg w 9999 83 _ _ hS hp]
  simp only [Program.fieldsOf, Try.underlying83]
  go_simp
  by_cases h1 : x1 = y1 <;> by_cases h2 : x2 = y2 <;> simp [h1, h2]

set_option maxHeartbeats 4000000 in
set_option maxRecDepth 100000 in
theorem equal_in (L : List At) (b off cap : Nat) (M : List At) (b2 off2 cap2 : Nat) (w : World) (hc : Cells L b off w) (hc2 : Cells M b2 off2 w) (hl : L.length ≤ 1000000) (hq : L.length = M.length) :
    Calls Try.prog 52 #[.slice (some ⟨b, off, none⟩) L.length cap, .slice (some ⟨b2, off2, none⟩) M.length cap2] w fun e w' => e = .returned (.bool (alike L M)) ∧ ∃ n, w' = w.drewN n := by
  have e1 : ((L.length : Int) != (M.length : Int)) = false := by simp [hq]
  have HQ := Lib.hid hq
  clear hq
  go_enter Try.func52, Try.ntmps52
  go_wp2
  go_loopw [13] (fun v wr => ∃ k : Nat, v = .int .i64 k ∧ k ≤ L.length ∧ Front L M k ∧ ∃ n, wr = w.drewN n) (fun v _ => L.length - (RowKit.intOf v).toNat)
  case atStart => exact ⟨0, rfl, by omega, fun j hj => absurd hj (by omega), 0, rfl⟩
  case round =>
    obtain ⟨k, rfl, hk, hah, nn, rfl⟩ := hrel
    have HA := Lib.hid hah
    clear hah e1
    by_cases hlt : k < L.length
    · obtain ⟨c1, c2⟩ := hc k hlt
      have hlt2 : k < M.length := by have := HQ.out; omega
      obtain ⟨d1, d2⟩ := hc2 k hlt2
      have h1 : (k : Int) < (L.length : Int) := by omega
      have h2 : (k : Int) < (M.length : Int) := by omega
      obtain ⟨⟨x1, x2⟩, hx⟩ : ∃ x, at0 L k = x := ⟨_, rfl⟩
      obtain ⟨⟨y1, y2⟩, hy⟩ : ∃ x, at0 M k = x := ⟨_, rfl⟩
      rw [hx] at c1 c2
      rw [hy] at d1 d2
      simp only at c1 c2 d1 d2
      have HX := Lib.hid hx
      have HY := Lib.hid hy
      clear hx hy hc hc2
      have hE := eqA83 x1 x2 y1 y2
      have hm : Try.prog.eqGuardType Try.prog.depth 83 = false := by kernel_rfl
      by_cases he : (x1, x2) = (y1, y2)
      · rw [decide_eq_true he] at hE
        have HF := Lib.hid (front_succ HA.out (by rw [HX.out, HY.out, he]))
        clear he HX HY HA
        go_wp2
        go_quiet (fail)
        go_wp2
        go_roundw
        case rel => exact ⟨k + 1, by go_num, by omega, HF.out, _, rfl⟩
        case measure => simp [RowKit.intOf]; omega
      · rw [decide_eq_false he] at hE
        have HN := Lib.hid (alike_not (L := L) (M := M) (k := k) (by rw [HX.out, HY.out]; exact he))
        clear he HX HY HA
        go_wp2
        go_quiet (fail)
        go_wp2
        go_ret
        exact ⟨ret_bool HN.out.symm, _, World.drewN_drewN ..⟩
    · have h1 : ¬ ((k : Int) < (L.length : Int)) := by omega
      have HN := Lib.hid (alike_yes HQ.out (fun j hj => HA.out j (by omega)))
      clear hc hc2
      go_wp2
      go_ret
      exact ⟨ret_bool HN.out.symm, _, rfl⟩

set_option maxHeartbeats 2000000 in
set_option maxRecDepth 100000 in
theorem equal_nil (a : Option Addr) (cap : Nat) (a2 : Option Addr) (cap2 : Nat) (w : World) :
    Calls Try.prog 52 #[.slice a 0 cap, .slice a2 0 cap2] w fun e w' => e = .returned (.bool true) ∧ w' = w := by
  go_enter Try.func52, Try.ntmps52
  go_wp2
  go_loop [13] (fun v => v = .int .i64 0) (fun _ => 0)
  case atStart => rfl
  case round =>
    subst hrel
    go_wp2
    go_ret
    exact ⟨rfl, rfl⟩

set_option maxHeartbeats 2000000 in
set_option maxRecDepth 100000 in
theorem equal_any (L : List At) (a : Option Addr) (cap : Nat) (M : List At) (a2 : Option Addr) (cap2 : Nat) (w : World) (hs : Sl L a cap w) (hs2 : Sl M a2 cap2 w) (hl : L.length ≤ 1000000) :
    Calls Try.prog 52 #[.slice a L.length cap, .slice a2 M.length cap2] w fun e w' => e = .returned (.bool (alike L M)) ∧ ∃ n, w' = w.drewN n := by
  by_cases hq : L.length = M.length
  · obtain ⟨hcap, -, h0 | ⟨b, off, rfl, hc⟩⟩ := hs
    · subst h0
      obtain rfl : M = [] := List.eq_nil_of_length_eq_zero hq.symm
      exact (equal_nil a cap a2 cap2 w).mono fun e w' h => ⟨h.1, 0, h.2⟩
    · obtain ⟨hcap2, -, h0 | ⟨b2, off2, rfl, hc2⟩⟩ := hs2
      · subst h0
        obtain rfl : L = [] := List.eq_nil_of_length_eq_zero hq
        exact (equal_nil _ cap a2 cap2 w).mono fun e w' h => ⟨h.1, 0, h.2⟩
      · exact equal_in L b off cap M b2 off2 cap2 w hc hc2 hl hq
  · rw [show alike L M = false from decide_eq_false (fun h => hq (by rw [h]))]
    have h1 : ((L.length : Int) != (M.length : Int)) = true := by simp; omega
    clear hq
    go_enter Try.func52, Try.ntmps52
    go_wp2
    go_ret
    exact ⟨rfl, 0, rfl⟩
end Go.Proofs.Ytpnjjpbgbdicoaa.At
