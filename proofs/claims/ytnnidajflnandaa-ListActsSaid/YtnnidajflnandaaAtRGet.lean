/- The reference's Get, walked. -/
import Derived.Test.YtnnidajflnandaaAtMem
namespace Go.Proofs.Ytnnidajflnandaa.At
open Go.RowKit Go.Lib

/-- what Get answers -/
def resG (o : Option Str) : Value := match o with | some v => .tuple #[.string ⟨v.toArray⟩, .bool true] | none => .tuple #[.string ⟨#[]⟩, .bool false]

set_option maxHeartbeats 1000000 in
set_option maxRecDepth 100000 in
theorem rget_any (L : List At) (a : Option Addr) (cap : Nat) (n : Str) (w : World) (hs : Sl L a cap w) (hl : L.length ≤ 1000000) :
    Calls Try.prog 40 #[.slice a L.length cap, .string ⟨n.toArray⟩] w fun e w' => e = .returned (resG (get L n)) ∧ w = w' := by
  go_enter Try.func40, Try.ntmps40
  go_wp2
  go_loop [6] (fun v => ∃ k : Nat, v = .int .i64 k ∧ k ≤ L.length ∧ ∀ j, j < k → (at0 L j).1 ≠ n) (fun v => L.length - (RowKit.intOf v).toNat)
  case atStart => exact ⟨0, rfl, by omega, fun j hj => absurd hj (by omega)⟩
  case round =>
    obtain ⟨k, rfl, hk, hah⟩ := hrel
    have HA := Lib.hid hah
    clear hah
    by_cases hlt : k < L.length
    · obtain ⟨hcap, hnil, h0 | ⟨b, off, rfl, hc⟩⟩ := hs
      · subst h0; simp at hlt
      · obtain ⟨c1, c2⟩ := hc k hlt
        have h1 : (k : Int) < (L.length : Int) := by omega
        clear hnil hc
        cases he : ((at0 L k).1 == n)
        · have hne : (at0 L k).1 ≠ n := by simpa using he
          have HA2 := Lib.hid (ahead_succ HA.out hne)
          clear hne
          go_wp2
          go_round
          case rel => exact ⟨k + 1, by go_num, by omega, HA2.out⟩
          case measure => simp [RowKit.intOf]; omega
        · have hq : (at0 L k).1 = n := by simpa using he
          have HG := Lib.hid (get_at HA.out hlt hq)
          clear hq
          go_wp2
          go_ret2
          rw [HG.out]
          exact ⟨rfl, rfl⟩
    · have h1 : ¬ ((k : Int) < (L.length : Int)) := by omega
      have HG := Lib.hid (get_none (L := L) (n := n) fun j hj => HA.out j (by omega))
      go_wp2
      go_ret2
      rw [HG.out]
      exact ⟨rfl, rfl⟩
end Go.Proofs.Ytnnidajflnandaa.At
