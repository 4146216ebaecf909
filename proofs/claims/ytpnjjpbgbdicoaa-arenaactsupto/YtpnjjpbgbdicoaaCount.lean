/- The program's Count, walked. -/
import Derived.Test.YtpnjjpbgbdicoaaMany
namespace Go.Proofs.Ytpnjjpbgbdicoaa
open Go.RowKit Go.Lib
open At (Str cellsA cellsA_len Sl)

/-- where the loop of Count stands -/
def CountRel (f : F) (b off : Nat) (P : Nat → Prop) (w : World) (v4 v5 v14 : Value) (wr : World) : Prop :=
  ∃ (g : F) (i : Nat), v14 = .int .i64 (i : Int) ∧ i + g.len = f.len ∧ g.wt ≤ f.wt ∧ At4 wr P g b (off + i * 4) ∧ (∃ m : Nat, v4 = .int .i64 (m : Int) ∧ m + g.many = f.many + g.len) ∧ (∃ m : Nat, v5 = .int .i64 (m : Int) ∧ max m g.deep = f.deep) ∧ Below w.heap.size w wr

set_option maxHeartbeats 2000000 in
set_option maxRecDepth 100000 in
theorem count_any (n : Nat) : ∀ (f : F) (P : Nat → Prop) (a : Option Addr) (c : Nat) (w : World), f.wt = n → n ≤ 4000000 → NSl w P f a c →
    Calls Try.prog 36 #[.slice a f.len c] w fun e w' => e = .returned (.tuple #[.int .i64 (f.many : Nat), .int .i64 (f.deep : Nat)]) ∧ Below w.heap.size w w' := by
  induction n using Nat.strongRecOn with
  | _ n ih =>
    intro f P a c w hf hn hs
    have hm := F.many_wt f
    have hd := F.deep_wt f
    have hlm := F.len_many f
    rcases hs.at4 with rfl | ⟨b, off, rfl, h4⟩
    · go_enter Try.func36, Try.ntmps36
      go_wp2
      go_loopw [4, 5, 14] (fun v3 v4 v14 wr => v3 = .int .i64 0 ∧ v4 = .int .i64 0 ∧ v14 = .int .i64 0 ∧ wr = w) (fun _ _ _ _ => 0)
      case atStart => exact ⟨rfl, rfl, rfl, rfl⟩
      case round =>
        obtain ⟨rfl, rfl, rfl, rfl⟩ := hrel
        go_wp2
        go_ret2
        exact ⟨rfl, Below.refl _ _⟩
    · have IH := Lib.hid ih
      have HF := Lib.hid hf
      clear hs ih hf
      go_enter Try.func36, Try.ntmps36
      go_wp2
      go_loopw [4, 5, 14] (fun v4 v5 v14 wr => CountRel f b off P w v4 v5 v14 wr) (fun _ _ v _ => f.len - (RowKit.intOf v).toNat)
      case atStart => exact ⟨f, 0, rfl, by omega, Nat.le_refl _, by simpa using h4, ⟨f.len, rfl, by omega⟩, ⟨0, rfl, by omega⟩, Below.refl _ _⟩
      case round =>
        obtain ⟨g, i, rfl, hi, hw, hat, ⟨m, rfl, hmm⟩, ⟨k, rfl, hk⟩, hb⟩ := hrel
        have HB := Lib.hid hb
        clear hb h4
        cases g with
        | nil =>
          have hi' : i = f.len := by simpa [F.len] using hi
          subst hi'
          have hm' : m = f.many := by simpa [F.len, F.many] using hmm
          have hk' : k = f.deep := by simpa [F.deep] using hk
          have h1 : ¬ ((f.len : Int) < (f.len : Int)) := by omega
          subst hm'
          subst hk'
          clear hat hmm hi hk
          go_wp2
          go_ret2
          exact ⟨rfl, HB.out⟩
        | cons nm ats tx inn rest =>
          simp only [F.len, F.wt, F.many, F.deep] at hi hw hmm hk
          have h1 : (i : Int) < (f.len : Int) := by omega
          obtain ⟨aa, ca, a', c', c0, c1, c2, c3, hsl, hin, hrest⟩ := hat.cons
          have hmi := F.many_wt inn
          have hmr := F.many_wt rest
          have hdi := F.deep_wt inn
          have HR := Lib.hid hrest
          have HI := Lib.hid hi
          have HM := Lib.hid hmm
          have HK := Lib.hid hk
          have HW := Lib.hid hw
          have hs0 : i ≤ 4000000 := by have := HF.out; omega
          have hs1 : m ≤ 8000000 := by have := HF.out; omega
          have hs2 : inn.many ≤ 4000000 := by have := HF.out; omega
          have hs3 : inn.deep ≤ 4000000 := by have := HF.out; omega
          have hA : Below wr.heap.size wr (wr.alloc (.cells #[.string ⟨nm.toArray⟩, .slice aa ats.length ca, .string ⟨tx.toArray⟩, .slice a' inn.len c'] 73)) := At.below_alloc _
          have cI := IH.out inn.wt (by have := HF.out; omega) inn P a' c' _ rfl (by have := HF.out; omega) (hin.below hA)
          have HA := Lib.hid (below_trans HB.out hA)
          have HRA := Lib.hid (HR.out.below hA)
          clear hat hsl hin hrest hmm hw hk hA
          go_wp2_with fail
          refine cI.mono ?_
          rintro e w2 ⟨rfl, hb2⟩
          have HB2 := Lib.hid (below_trans HA.out hb2)
          have HR2 := Lib.hid (HRA.out.below hb2)
          clear hb2 cI c0 c1 c2 c3
          go_wp2
          trace_state
          go_roundw
          case rel =>
            have := HI.out
            have := HM.out
            have := HW.out
            have := HK.out
            refine ⟨rest, i + 1, by go_num, by omega, by omega, ?_, ⟨m + inn.many, by go_num, by omega⟩, ⟨max k (inn.deep + 1), ?_, by omega⟩, HB2.out⟩
            · have h := HR2.out
              rw [show off + i * 4 + 4 = off + (i + 1) * 4 by omega] at h
              exact h
            · go_num
          case measure => simp [RowKit.intOf]; omega
end Go.Proofs.Ytpnjjpbgbdicoaa
