/- The reference's Many and Deep, walked. -/
import Derived.Test.YtpnjjpbgbdicoaaNd
namespace Go.Proofs.Ytpnjjpbgbdicoaa
open Go.RowKit Go.Lib
open At (Str cellsA cellsA_len Sl)

theorem below_trans {w w1 w2 : World} (h : Below w.heap.size w w1) (h2 : Below w1.heap.size w1 w2) : Below w.heap.size w w2 := h.trans (h2.mono h.size)

/-- where the loop of Many stands: g is still to come -/
def ManyRel (f : F) (b off : Nat) (P : Nat → Prop) (w : World) (v3 v4 : Value) (wr : World) : Prop :=
  ∃ (g : F) (i : Nat), v4 = .int .i64 (i : Int) ∧ i + g.len = f.len ∧ g.wt ≤ f.wt ∧ At4 wr P g b (off + i * 4) ∧ (∃ m : Nat, v3 = .int .i64 (m : Int) ∧ m + g.many = f.many + g.len) ∧ Below w.heap.size w wr

set_option maxHeartbeats 2000000 in
set_option maxRecDepth 100000 in
theorem many_any (n : Nat) : ∀ (f : F) (P : Nat → Prop) (a : Option Addr) (c : Nat) (w : World), f.wt = n → n ≤ 2000000 → NSl w P f a c →
    Calls Try.prog 38 #[.slice a f.len c] w fun e w' => e = .returned (.int .i64 (f.many : Nat)) ∧ Below w.heap.size w w' := by
  induction n using Nat.strongRecOn with
  | _ n ih =>
    intro f P a c w hf hn hs
    have hm := F.many_wt f
    have hlm := F.len_many f
    rcases hs.at4 with rfl | ⟨b, off, rfl, h4⟩
    · go_enter Try.func38, Try.ntmps38
      go_wp2
      go_loopw [3, 4] (fun v3 v4 wr => v3 = .int .i64 0 ∧ v4 = .int .i64 0 ∧ wr = w) (fun _ _ _ => 0)
      case atStart => exact ⟨rfl, rfl, rfl⟩
      case round =>
        obtain ⟨rfl, rfl, rfl⟩ := hrel
        go_wp2
        go_ret
        exact ⟨rfl, Below.refl _ _⟩
    · have IH := Lib.hid ih
      have HF := Lib.hid hf
      clear hs ih hf
      go_enter Try.func38, Try.ntmps38
      go_wp2
      go_loopw [3, 4] (fun v3 v4 wr => ManyRel f b off P w v3 v4 wr) (fun _ v4 _ => f.len - (RowKit.intOf v4).toNat)
      case atStart => exact ⟨f, 0, rfl, by omega, Nat.le_refl _, by simpa using h4, ⟨f.len, rfl, by omega⟩, Below.refl _ _⟩
      case round =>
        obtain ⟨g, i, rfl, hi, hw, hat, ⟨m, rfl, hmm⟩, hb⟩ := hrel
        have HB := Lib.hid hb
        clear hb h4
        cases g with
        | nil =>
          have hi' : i = f.len := by simpa [F.len] using hi
          subst hi'
          have hm' : m = f.many := by simpa [F.len, F.many] using hmm
          have h1 : ¬ ((f.len : Int) < (f.len : Int)) := by omega
          subst hm'
          clear hat hmm hi
          go_wp2
          go_ret
          exact ⟨rfl, HB.out⟩
        | cons nm ats tx inn rest =>
          simp only [F.len, F.wt, F.many] at hi hw hmm
          have h1 : (i : Int) < (f.len : Int) := by omega
          obtain ⟨aa, ca, a', c', c0, c1, c2, c3, hsl, hin, hrest⟩ := hat.cons
          have hmi := F.many_wt inn
          have hmr := F.many_wt rest
          have cI := IH.out inn.wt (by have := HF.out; omega) inn P a' c' wr rfl (by have := HF.out; omega) hin
          have c3' : wr.cell? ⟨b, off + i * 4 + 3, none⟩ = some (.slice a' inn.len c') := c3
          have HR := Lib.hid hrest
          have HI := Lib.hid hi
          have HM := Lib.hid hmm
          have HW := Lib.hid hw
          have hs0 : i ≤ 2000000 := by have := HF.out; omega
          have hs1 : m ≤ 4000000 := by have := HF.out; omega
          have hs2 : inn.many ≤ 2000000 := by have := HF.out; omega
          clear hat hsl hin hrest c0 c1 c2 c3 hmm hw
          go_wp2_with fail
          refine cI.mono ?_
          rintro e w2 ⟨rfl, hb2⟩
          have HB2 := Lib.hid (below_trans HB.out hb2)
          have HR2 := Lib.hid (HR.out.below hb2)
          clear hb2 cI c3'
          go_wp2
          go_roundw
          case rel =>
            have := HI.out
            have := HM.out
            have := HW.out
            refine ⟨rest, i + 1, by go_num, by omega, by omega, ?_, ⟨m + inn.many, by go_num, by omega⟩, HB2.out⟩
            have h := HR2.out
            rw [show off + i * 4 + 4 = off + (i + 1) * 4 by omega] at h
            exact h
          case measure => simp [RowKit.intOf]; omega

/-- where the loop of Deep stands -/
def DeepRel (f : F) (b off : Nat) (P : Nat → Prop) (w : World) (v3 v4 : Value) (wr : World) : Prop :=
  ∃ (g : F) (i : Nat), v4 = .int .i64 (i : Int) ∧ i + g.len = f.len ∧ g.wt ≤ f.wt ∧ At4 wr P g b (off + i * 4) ∧ (∃ m : Nat, v3 = .int .i64 (m : Int) ∧ max m g.deep = f.deep) ∧ Below w.heap.size w wr

set_option maxHeartbeats 2000000 in
set_option maxRecDepth 100000 in
theorem deep_any (n : Nat) : ∀ (f : F) (P : Nat → Prop) (a : Option Addr) (c : Nat) (w : World), f.wt = n → n ≤ 2000000 → NSl w P f a c →
    Calls Try.prog 39 #[.slice a f.len c] w fun e w' => e = .returned (.int .i64 (f.deep : Nat)) ∧ Below w.heap.size w w' := by
  induction n using Nat.strongRecOn with
  | _ n ih =>
    intro f P a c w hf hn hs
    have hm := F.deep_wt f
    have hlm := F.len_wt f
    rcases hs.at4 with rfl | ⟨b, off, rfl, h4⟩
    · go_enter Try.func39, Try.ntmps39
      go_wp2
      go_loopw [3, 4] (fun v3 v4 wr => v3 = .int .i64 0 ∧ v4 = .int .i64 0 ∧ wr = w) (fun _ _ _ => 0)
      case atStart => exact ⟨rfl, rfl, rfl⟩
      case round =>
        obtain ⟨rfl, rfl, rfl⟩ := hrel
        go_wp2
        go_ret
        exact ⟨rfl, Below.refl _ _⟩
    · have IH := Lib.hid ih
      have HF := Lib.hid hf
      clear hs ih hf
      go_enter Try.func39, Try.ntmps39
      go_wp2
      go_loopw [3, 4] (fun v3 v4 wr => DeepRel f b off P w v3 v4 wr) (fun _ v4 _ => f.len - (RowKit.intOf v4).toNat)
      case atStart => exact ⟨f, 0, rfl, by omega, Nat.le_refl _, by simpa using h4, ⟨0, rfl, by omega⟩, Below.refl _ _⟩
      case round =>
        obtain ⟨g, i, rfl, hi, hw, hat, ⟨m, rfl, hmm⟩, hb⟩ := hrel
        have HB := Lib.hid hb
        clear hb h4
        cases g with
        | nil =>
          have hi' : i = f.len := by simpa [F.len] using hi
          subst hi'
          have hm' : m = f.deep := by simpa [F.len, F.deep] using hmm
          have h1 : ¬ ((f.len : Int) < (f.len : Int)) := by omega
          subst hm'
          clear hat hmm hi
          go_wp2
          go_ret
          exact ⟨rfl, HB.out⟩
        | cons nm ats tx inn rest =>
          simp only [F.len, F.wt, F.deep] at hi hw hmm
          have h1 : (i : Int) < (f.len : Int) := by omega
          obtain ⟨aa, ca, a', c', c0, c1, c2, c3, hsl, hin, hrest⟩ := hat.cons
          have hmi := F.deep_wt inn
          have cI := IH.out inn.wt (by have := HF.out; omega) inn P a' c' wr rfl (by have := HF.out; omega) hin
          have c3' : wr.cell? ⟨b, off + i * 4 + 3, none⟩ = some (.slice a' inn.len c') := c3
          have HR := Lib.hid hrest
          have HI := Lib.hid hi
          have HM := Lib.hid hmm
          have HW := Lib.hid hw
          have hs0 : i ≤ 2000000 := by have := HF.out; omega
          have hs1 : inn.deep ≤ 2000000 := by have := HF.out; omega
          have hL : ∀ (M : Nat) (v3 v4 : Value), M = max m (inn.deep + 1) → v3 = .int .i64 (M : Int) → v4 = .int .i64 ((i + 1 : Nat) : Int) → ∀ wx, At4 wx P rest b (off + i * 4 + 4) → Below w.heap.size w wx → DeepRel f b off P w v3 v4 wx := by
            intro M v3 v4 hM h3 h4 wx h hbx
            rw [show off + i * 4 + 4 = off + (i + 1) * 4 by omega] at h
            exact ⟨rest, i + 1, h4, by omega, by omega, h, ⟨M, h3, by omega⟩, hbx⟩
          have HL := Lib.hid hL
          clear hat hsl hin hrest c0 c1 c2 c3 hmm hw hL
          by_cases hd : m < inn.deep + 1
          · have hd' : (m : Int) < (inn.deep : Int) + 1 := by omega
            go_wp2_with fail
            refine cI.mono ?_
            rintro e w2 ⟨rfl, hb2⟩
            have HB2 := Lib.hid (below_trans HB.out hb2)
            have HR2 := Lib.hid (HR.out.below hb2)
            clear hb2 cI c3'
            go_wp2
            go_roundw
            case rel => exact HL.out (inn.deep + 1) _ _ (by omega) (by go_num) (by go_num) _ HR2.out HB2.out
            case measure => simp [RowKit.intOf]; omega
          · have hd' : ¬ ((m : Int) < (inn.deep : Int) + 1) := by omega
            go_wp2_with fail
            refine cI.mono ?_
            rintro e w2 ⟨rfl, hb2⟩
            have HB2 := Lib.hid (below_trans HB.out hb2)
            have HR2 := Lib.hid (HR.out.below hb2)
            clear hb2 cI c3'
            go_wp2
            go_roundw
            case rel => exact HL.out m _ _ (by omega) (by go_num) (by go_num) _ HR2.out HB2.out
            case measure => simp [RowKit.intOf]; omega

/-- few nodes -/
def fewF (f : F) : Bool := decide (f.many ≤ 60) && decide (f.deep ≤ 20)

set_option maxHeartbeats 2000000 in
set_option maxRecDepth 100000 in
theorem few_any (f : F) (P : Nat → Prop) (a : Option Addr) (c : Nat) (w : World) (hf : f.wt ≤ 2000000) (hs : NSl w P f a c) :
    Calls Try.prog 34 #[.slice a f.len c] w fun e w' => e = .returned (.bool (fewF f)) ∧ Below w.heap.size w w' := by
  have c1 := many_any f.wt f P a c w rfl hf hs
  have c2 := fun wx (hb : Below w.heap.size w wx) => deep_any f.wt f P a c wx rfl hf (hs.below hb)
  unfold fewF
  by_cases h1 : f.many ≤ 60
  · have h1' : (f.many : Int) ≤ 60 := by omega
    have hd1 : decide (f.many ≤ 60) = true := decide_eq_true h1
    by_cases h2 : f.deep ≤ 20
    · have h2' : (f.deep : Int) ≤ 20 := by omega
      rw [hd1, decide_eq_true h2]
      clear hd1
      go_enter Try.func34, Try.ntmps34
      go_wp2_with fail
      refine c1.mono ?_
      rintro e w2 ⟨rfl, hb2⟩
      have c3 := c2 w2 hb2
      have HB2 := Lib.hid hb2
      clear hb2 c1
      go_wp2_with fail
      refine c3.mono ?_
      rintro e w3 ⟨rfl, hb3⟩
      go_wp2
      go_ret
      exact ⟨rfl, below_trans HB2.out hb3⟩
    · have h2' : ¬ (f.deep : Int) ≤ 20 := by omega
      rw [hd1, decide_eq_false h2]
      clear hd1
      go_enter Try.func34, Try.ntmps34
      go_wp2_with fail
      refine c1.mono ?_
      rintro e w2 ⟨rfl, hb2⟩
      have c3 := c2 w2 hb2
      have HB2 := Lib.hid hb2
      clear hb2 c1
      go_wp2_with fail
      refine c3.mono ?_
      rintro e w3 ⟨rfl, hb3⟩
      go_wp2
      go_ret
      exact ⟨At.ret_bool (decide_eq_false (by omega)), below_trans HB2.out hb3⟩
  · have h1' : ¬ (f.many : Int) ≤ 60 := by omega
    rw [decide_eq_false h1]
    go_enter Try.func34, Try.ntmps34
    go_wp2_with fail
    refine c1.mono ?_
    rintro e w2 ⟨rfl, hb2⟩
    go_wp2
    go_ret
    exact ⟨rfl, hb2⟩
end Go.Proofs.Ytpnjjpbgbdicoaa
