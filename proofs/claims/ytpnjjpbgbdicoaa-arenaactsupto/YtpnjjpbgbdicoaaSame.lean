/- The reference's Same, walked: it only reads. -/
import Derived.Test.YtpnjjpbgbdicoaaAtAlike
import Derived.Test.YtpnjjpbgbdicoaaApp
import Derived.Test.YtpnjjpbgbdicoaaMany
namespace Go.Proofs.Ytpnjjpbgbdicoaa
open Go.RowKit Go.Lib
open At (Str cellsA cellsA_len Sl alike below_drewN)

/-- the same nodes -/
def sameF : F → F → Bool
  | .nil, .nil => true
  | .cons nm ats tx inn rest, .cons nm' ats' tx' inn' rest' => (nm == nm') && ((tx == tx') && (alike ats ats' && (sameF inn inn' && sameF rest rest')))
  | _, _ => false

theorem sameF_iff : ∀ {f g : F}, sameF f g = true ↔ f = g
  | .nil, .nil => by simp [sameF]
  | .cons .., .nil => by simp [sameF]
  | .nil, .cons .. => by simp [sameF]
  | .cons nm ats tx inn rest, .cons nm' ats' tx' inn' rest' => by
    simp only [sameF, Bool.and_eq_true, beq_iff_eq, F.cons.injEq, sameF_iff (f := inn) (g := inn'), sameF_iff (f := rest) (g := rest')]
    unfold alike
    simp only [decide_eq_true_eq]
    constructor
    · rintro ⟨h1, h2, h3, h4, h5⟩; exact ⟨h1, h3, h2, h4, h5⟩
    · rintro ⟨h1, h3, h2, h4, h5⟩; exact ⟨h1, h2, h3, h4, h5⟩

theorem sameF_refl (f : F) : sameF f f = true := sameF_iff.2 rfl
theorem sameF_len {f g : F} (h : f.len ≠ g.len) : sameF f g = false := by
  rw [Bool.eq_false_iff]
  intro e
  exact h (by rw [sameF_iff.1 e])

/-- where the loop of Same stands -/
def SameRel (f g : F) (b off b2 off2 : Nat) (P Q : Nat → Prop) (w : World) (v5 : Value) (wr : World) : Prop :=
  ∃ (f' g' : F) (i : Nat), v5 = .int .i64 (i : Int) ∧ i + f'.len = f.len ∧ i + g'.len = g.len ∧ f'.wt ≤ f.wt ∧ f'.small 1000000 ∧ At4 w P f' b (off + i * 4) ∧ At4 w Q g' b2 (off2 + i * 4) ∧ sameF f g = sameF f' g' ∧ ∃ k, wr = w.drewN k

set_option maxHeartbeats 8000000 in
set_option maxRecDepth 100000 in
theorem rsame_any (n : Nat) : ∀ (f g : F) (P Q : Nat → Prop) (a a2 : Option Addr) (c c2 : Nat) (w : World), f.wt = n → f.small 1000000 → f.len ≤ 1000000 → NSl w P f a c → NSl w Q g a2 c2 →
    Calls Try.prog 29 #[.slice a f.len c, .slice a2 g.len c2] w fun e w' => e = .returned (.bool (sameF f g)) ∧ ∃ k, w' = w.drewN k := by
  induction n using Nat.strongRecOn with
  | _ n ih =>
    intro f g P Q a a2 c c2 w hf hsm hl hs ht
    by_cases hq : f.len = g.len
    · rcases hs.at4 with rfl | ⟨b, off, rfl, h4⟩
      · obtain rfl := F.len_zero hq.symm
        go_enter Try.func29, Try.ntmps29
        go_wp2
        go_loop [5] (fun v => v = .int .i64 0) (fun _ => 0)
        case atStart => rfl
        case round =>
          subst hrel
          go_wp2
          go_ret
          exact ⟨rfl, 0, rfl⟩
      · rcases ht.at4 with rfl | ⟨b2, off2, rfl, k4⟩
        · obtain rfl := F.len_zero (f := f) hq
          go_enter Try.func29, Try.ntmps29
          go_wp2
          go_loop [5] (fun v => v = .int .i64 0) (fun _ => 0)
          case atStart => rfl
          case round =>
            subst hrel
            go_wp2
            go_ret
            exact ⟨rfl, 0, rfl⟩
        · have IH := Lib.hid ih
          have HF := Lib.hid hf
          have e1 : ((f.len : Int) != (g.len : Int)) = false := by simp [hq]
          have HQ := Lib.hid hq
          have HSM := Lib.hid hsm
          clear hs ht ih hf hq hsm
          go_enter Try.func29, Try.ntmps29
          go_wp2
          go_loopw [5] (fun v wr => SameRel f g b off b2 off2 P Q w v wr) (fun v _ => f.len - (RowKit.intOf v).toNat)
          case atStart => exact ⟨f, g, 0, rfl, by omega, by omega, Nat.le_refl _, HSM.out, by simpa using h4, by simpa using k4, rfl, 0, rfl⟩
          case round =>
            obtain ⟨f', g', i, rfl, hi, hi2, hw, hsm, hat0, hat20, hsame, kk, hwr⟩ := hrel
            clear h4 k4 e1
            have hbw : Below w.heap.size w wr := by rw [hwr]; exact below_drewN (Below.refl _ w) kk
            have HW := Lib.hid hwr
            have hat := hat0.below hbw
            have hat2 := hat20.below hbw
            clear hwr
            cases f' with
            | nil =>
              have hi' : i = f.len := by simpa [F.len] using hi
              have hg0 : g' = .nil := F.len_zero (by have := HQ.out; simp only [F.len] at hi; omega)
              subst hi' hg0
              have h1 : ¬ ((f.len : Int) < (f.len : Int)) := by omega
              have HS := Lib.hid (show sameF f g = true from hsame)
              clear hat hat2 hi hi2 hsame hat0 hat20 hbw
              go_wp2
              go_ret
              exact ⟨At.ret_bool HS.out.symm, _, HW.out⟩
            | cons nm ats tx inn rest =>
              cases g' with
              | nil => exfalso; have := HQ.out; simp only [F.len] at hi hi2; omega
              | cons nm' ats' tx' inn' rest' =>
                simp only [F.len, F.wt] at hi hi2 hw
                have h1 : (i : Int) < (f.len : Int) := by omega
                have h2 : (i : Int) < (g.len : Int) := by have := HQ.out; omega
                obtain ⟨aa, ca, a', c', c0, c1, c2, c3, ⟨hsl, -⟩, hin, -⟩ := hat.cons
                obtain ⟨ab, cb, a'', c'', d0, d1, d2, d3, ⟨hsl2, -⟩, hin2, -⟩ := hat2.cons
                obtain ⟨-, -, -, -, -, -, -, -, -, -, hrest⟩ := hat0.cons
                obtain ⟨-, -, -, -, -, -, -, -, -, -, hrest2⟩ := hat20.cons
                have cA := fun wx (hb : Below wr.heap.size wr wx) => At.alike_any ats aa ca ats' ab cb wx (hsl.below hb) (hsl2.below hb) hsm.1
                have cS := fun wx (hb : Below wr.heap.size wr wx) => IH.out inn.wt (by have := HF.out; omega) inn inn' P Q a' a'' c' c'' wx rfl hsm.2.2.1 hsm.2.1 (hin.below hb) (hin2.below hb)
                have CA := Lib.hid cA
                have CS := Lib.hid cS
                clear cA cS
                have HREL := Lib.hid (show ∀ q, (nm == nm') = true → (tx == tx') = true → alike ats ats' = true → sameF inn inn' = true → SameRel f g b off b2 off2 P Q w (.int .i64 ((i + 1 : Nat) : Int)) (wr.drewN q) from fun q e1 e2 e3 e4 => by
                  refine ⟨rest, rest', i + 1, rfl, by omega, by omega, by omega, hsm.2.2.2, ?_, ?_, ?_, kk + q, by rw [HW.out, World.drewN_drewN]⟩
                  · rw [show off + (i + 1) * 4 = off + i * 4 + 4 by omega]; exact hrest
                  · rw [show off2 + (i + 1) * 4 = off2 + i * 4 + 4 by omega]; exact hrest2
                  · rw [hsame]; simp only [sameF, e1, e2, e3, e4, Bool.true_and])
                have HNO := Lib.hid (show ((nm == nm') && ((tx == tx') && (alike ats ats' && sameF inn inn'))) = false → sameF f g = false from fun e => by
                  rw [hsame]
                  simp only [sameF]
                  rw [← Bool.and_assoc (alike ats ats'), ← Bool.and_assoc (tx == tx'), ← Bool.and_assoc (nm == nm'), e, Bool.false_and])
                clear hat hat2 hsl hsl2 hin hin2 hrest hrest2 hsame hsm hi2 hw hat0 hat20 hbw
                cases hN : (nm == nm')
                · rw [hN] at HNO
                  have HE := Lib.hid (HNO.out rfl)
                  have hN' : (nm != nm') = true := by simp [bne, hN]
                  clear HNO HREL
                  go_wp2
                  go_quiet (fail)
                  go_wp2
                  go_ret
                  exact ⟨At.ret_bool HE.out.symm, kk + nq, by rw [HW.out, World.drewN_drewN]⟩
                · obtain rfl : nm = nm' := by simpa using hN
                  rw [hN] at HNO
                  cases hT : (tx == tx')
                  · rw [hT] at HNO
                    have HE := Lib.hid (HNO.out rfl)
                    have hT' : (tx != tx') = true := by simp [bne, hT]
                    clear HNO HREL hN
                    go_wp2
                    go_quiet (fail)
                    go_wp2
                    go_ret
                    exact ⟨At.ret_bool HE.out.symm, kk + nq, by rw [HW.out, World.drewN_drewN]⟩
                  · obtain rfl : tx = tx' := by simpa using hT
                    rw [hT] at HNO
                    cases hA : alike ats ats'
                    · rw [hA] at HNO CA
                      have HE := Lib.hid (HNO.out rfl)
                      clear HNO HREL hN hT hA
                      go_wp2
                      go_quiet (first | (go_at_call 25; refine Calls.quiet_of (CA.out _ ?_); exact ⟨rfl, rfl, rfl, Nat.le_refl _, fun _ _ => rfl⟩) | (go_at_call 29; refine Calls.quiet_of (CS.out _ ?_); exact ⟨rfl, rfl, rfl, Nat.le_refl _, fun _ _ => rfl⟩))
                      go_wp2
                      go_ret
                      exact ⟨At.ret_bool HE.out.symm, kk + nq, by rw [HW.out, World.drewN_drewN]⟩
                    · rw [hA] at HNO CA
                      cases hI : sameF inn inn'
                      · rw [hI] at HNO CS
                        have HE := Lib.hid (HNO.out rfl)
                        clear HNO HREL hN hT hA hI
                        go_wp2
                        go_quiet (first | (go_at_call 25; refine Calls.quiet_of (CA.out _ ?_); exact ⟨rfl, rfl, rfl, Nat.le_refl _, fun _ _ => rfl⟩) | (go_at_call 29; refine Calls.quiet_of (CS.out _ ?_); exact ⟨rfl, rfl, rfl, Nat.le_refl _, fun _ _ => rfl⟩))
                        go_wp2
                        go_ret
                        exact ⟨At.ret_bool HE.out.symm, kk + nq, by rw [HW.out, World.drewN_drewN]⟩
                      · rw [hI] at CS
                        have HR := Lib.hid (fun q => HREL.out q hN hT hA hI)
                        have hib : i ≤ 1000000 := by omega
                        clear HNO HREL hN hT hA hI
                        go_wp2
                        go_quiet (first | (go_at_call 25; refine Calls.quiet_of (CA.out _ ?_); exact ⟨rfl, rfl, rfl, Nat.le_refl _, fun _ _ => rfl⟩) | (go_at_call 29; refine Calls.quiet_of (CS.out _ ?_); exact ⟨rfl, rfl, rfl, Nat.le_refl _, fun _ _ => rfl⟩))
                        go_wp2
                        go_roundw
                        case rel => exact HR.out nq
                        case measure => simp [RowKit.intOf]; omega
    · rw [sameF_len hq]
      have h1 : ((f.len : Int) != (g.len : Int)) = true := by simp; omega
      clear hq ih hs ht
      go_enter Try.func29, Try.ntmps29
      go_wp2
      go_ret
      exact ⟨rfl, 0, rfl⟩
end Go.Proofs.Ytpnjjpbgbdicoaa
