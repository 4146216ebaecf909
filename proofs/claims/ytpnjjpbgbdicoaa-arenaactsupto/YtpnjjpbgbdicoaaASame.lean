/- The arena's Same, walked: the library's EqualFunc with a closure. -/
import Derived.Test.YtpnjjpbgbdicoaaSame
import Derived.Lib.SmallJoins
namespace Go.Proofs.Ytpnjjpbgbdicoaa
open Go.RowKit Go.Lib
open At (Str cellsA cellsA_len Sl alike below_drewN)

/-- what Same answers, of what is not greater than n -/
def SameC (n : Nat) : Prop := ∀ (f g : F) (P Q : Nat → Prop) (a a2 : Option Addr) (c c2 : Nat) (w : World), f.wt < n → f.small 1000000 → f.len ≤ 1000000 → NSl w P f a c → NSl w Q g a2 c2 →
    Calls Try.prog 37 #[.slice a f.len c, .slice a2 g.len c2] w fun e w' => e = .returned (.bool (sameF f g)) ∧ Below w.heap.size w w'

set_option maxHeartbeats 4000000 in
set_option maxRecDepth 100000 in
theorem same1_any {n : Nat} (ih : SameC n) (nm tx nm' tx' : List UInt8) (ats ats' : List At.At) (inn inn' : F) (P Q : Nat → Prop) (aa ab a a2 : Option Addr) (ca cb c c2 : Nat) (w : World) (hn : inn.wt < n) (hsm : inn.small 1000000) (hl : inn.len ≤ 1000000) (hal : ats.length ≤ 1000000)
    (h1 : Sl ats aa ca w) (h2 : Sl ats' ab cb w) (h3 : NSl w P inn a c) (h4 : NSl w Q inn' a2 c2) :
    Calls Try.prog 51 #[.agg #[.string ⟨nm.toArray⟩, .slice aa ats.length ca, .string ⟨tx.toArray⟩, .slice a inn.len c], .agg #[.string ⟨nm'.toArray⟩, .slice ab ats'.length cb, .string ⟨tx'.toArray⟩, .slice a2 inn'.len c2]] w
      fun e w' => e = .returned (.bool ((nm == nm') && ((tx == tx') && (alike ats ats' && sameF inn inn')))) ∧ Below w.heap.size w w' := by
  have hb : Below w.heap.size w ((w.alloc (.cells #[.string ⟨nm.toArray⟩, .slice aa ats.length ca, .string ⟨tx.toArray⟩, .slice a inn.len c] 73)).alloc (.cells #[.string ⟨nm'.toArray⟩, .slice ab ats'.length cb, .string ⟨tx'.toArray⟩, .slice a2 inn'.len c2] 73)) := (At.below_alloc _).alloc (by simp) _
  obtain ⟨W, hW⟩ : ∃ W, (w.alloc (.cells #[.string ⟨nm.toArray⟩, .slice aa ats.length ca, .string ⟨tx.toArray⟩, .slice a inn.len c] 73)).alloc (.cells #[.string ⟨nm'.toArray⟩, .slice ab ats'.length cb, .string ⟨tx'.toArray⟩, .slice a2 inn'.len c2] 73) = W := ⟨_, rfl⟩
  rw [hW] at hb
  have cA := At.equal_any ats aa ca ats' ab cb W (h1.below hb) (h2.below hb) hal
  have CS := Lib.hid (fun wx (hx : Below W.heap.size W wx) => ih inn inn' P Q a a2 c c2 wx hn hsm hl ((h3.below hb).below hx) ((h4.below hb).below hx))
  have HB := Lib.hid hb
  clear h1 h2 h3 h4 hb ih
  cases hN : (nm == nm')
  · clear cA CS
    subst hW
    go_enter Try.func51, Try.ntmps51
    go_wp2
    go_ret
    exact ⟨rfl, HB.out⟩
  · cases hT : (tx == tx')
    · clear cA CS
      subst hW
      go_enter Try.func51, Try.ntmps51
      go_wp2
      go_ret
      exact ⟨rfl, HB.out⟩
    · have k1 : W.cell? ⟨w.heap.size, 0, none⟩ = some (.string ⟨nm.toArray⟩) := by rw [← hW]; simp
      have k2 : W.cell? ⟨w.heap.size, 1, none⟩ = some (.slice aa ats.length ca) := by rw [← hW]; simp
      have k3 : W.cell? ⟨w.heap.size, 2, none⟩ = some (.string ⟨tx.toArray⟩) := by rw [← hW]; simp
      have k4 : W.cell? ⟨w.heap.size, 3, none⟩ = some (.slice a inn.len c) := by rw [← hW]; simp
      have j1 : W.cell? ⟨w.heap.size + 1, 0, none⟩ = some (.string ⟨nm'.toArray⟩) := by rw [← hW]; simp
      have j2 : W.cell? ⟨w.heap.size + 1, 1, none⟩ = some (.slice ab ats'.length cb) := by rw [← hW]; simp
      have j3 : W.cell? ⟨w.heap.size + 1, 2, none⟩ = some (.string ⟨tx'.toArray⟩) := by rw [← hW]; simp
      have j4 : W.cell? ⟨w.heap.size + 1, 3, none⟩ = some (.slice a2 inn'.len c2) := by rw [← hW]; simp
      cases hA : alike ats ats'
      · rw [hA] at cA
        clear CS hA
        go_enter Try.func51, Try.ntmps51
        go_wp2_with fail
        refine cA.mono ?_
        rintro e w2 ⟨rfl, q, rfl⟩
        have HB2 := Lib.hid (below_drewN HB.out q)
        go_wp2
        go_ret
        exact ⟨rfl, HB2.out⟩
      · rw [hA] at cA
        have cS := fun q => CS.out (W.drewN q) (below_drewN (Below.refl _ W) q)
        cases hI : sameF inn inn' <;> rw [hI] at cS
        all_goals
          clear CS hA hI
          go_enter Try.func51, Try.ntmps51
          go_wp2_with fail
          refine cA.mono ?_
          rintro e w2 ⟨rfl, q, rfl⟩
          have cs2 := cS q
          go_wp2_with fail
          refine cs2.mono ?_
          rintro e w3 ⟨rfl, hb3⟩
          have HB3 := Lib.hid ((below_drewN HB.out q).trans (hb3.mono HB.out.size))
          clear hb3 cs2 cS cA
          go_wp2
          go_ret
          exact ⟨rfl, HB3.out⟩

/-- where the loop of EqualFunc stands -/
def EqRel (f g : F) (b off b2 off2 : Nat) (P Q : Nat → Prop) (w : World) (v17 : Value) (wr : World) : Prop :=
  ∃ (f' g' : F) (i : Nat), v17 = .int .i64 (i : Int) ∧ i + f'.len = f.len ∧ i + g'.len = g.len ∧ f'.wt ≤ f.wt ∧ f'.small 1000000 ∧ At4 w P f' b (off + i * 4) ∧ At4 w Q g' b2 (off2 + i * 4) ∧ sameF f g = sameF f' g' ∧ Below w.heap.size w wr

set_option maxHeartbeats 8000000 in
set_option maxRecDepth 100000 in
theorem equalFunc_any (f g : F) (P Q : Nat → Prop) (a a2 : Option Addr) (c c2 : Nat) (w : World) (ih : SameC f.wt) (hsm : f.small 1000000) (hl : f.len ≤ 1000000) (hs : NSl w P f a c) (ht : NSl w Q g a2 c2) :
    Calls Try.prog 50 #[.slice a f.len c, .slice a2 g.len c2, .func (.func 51) #[] #[]] w fun e w' => e = .returned (.bool (sameF f g)) ∧ Below w.heap.size w w' := by
  by_cases hq : f.len = g.len
  · have nil_case : ∀ (a a2 : Option Addr) (c c2 : Nat), Calls Try.prog 50 #[.slice a 0 c, .slice a2 0 c2, .func (.func 51) #[] #[]] w fun e w' => e = .returned (.bool true) ∧ Below w.heap.size w w' := by
      intro a a2 c c2
      clear ih hs ht hsm hl hq
      go_enter Try.func50, Try.ntmps50
      go_wp2
      go_loop [17] (fun v => v = .int .i64 0) (fun _ => 0)
      case atStart => rfl
      case round =>
        subst hrel
        go_wp2
        go_ret
        exact ⟨rfl, Below.refl _ _⟩
    rcases hs.at4 with rfl | ⟨b, off, rfl, h4⟩
    · obtain rfl := F.len_zero hq.symm
      exact nil_case _ _ _ _
    · rcases ht.at4 with rfl | ⟨b2, off2, rfl, k4⟩
      · obtain rfl := F.len_zero (f := f) hq
        exact nil_case _ _ _ _
      · have e1 : ((f.len : Int) != (g.len : Int)) = false := by simp [hq]
        have HQ := Lib.hid hq
        have HSM := Lib.hid hsm
        have IH := Lib.hid ih
        clear hs ht hq hsm nil_case ih
        go_enter Try.func50, Try.ntmps50
        go_wp2
        go_loopw [17] (fun v wr => EqRel f g b off b2 off2 P Q w v wr) (fun v _ => f.len - (RowKit.intOf v).toNat)
        case atStart => exact ⟨f, g, 0, rfl, by omega, by omega, Nat.le_refl _, HSM.out, by simpa using h4, by simpa using k4, rfl, Below.refl _ _⟩
        case round =>
          obtain ⟨f', g', i, rfl, hi, hi2, hw, hsm, hat0, hat20, hsame, hbw⟩ := hrel
          have hat := hat0.below hbw
          have hat2 := hat20.below hbw
          have HBW := Lib.hid hbw
          clear h4 k4 e1
          cases f' with
          | nil =>
            have hi' : i = f.len := by simpa [F.len] using hi
            have hg0 : g' = .nil := F.len_zero (by have := HQ.out; simp only [F.len] at hi; omega)
            subst hi' hg0
            have h1 : ¬ ((f.len : Int) < (f.len : Int)) := by omega
            have HS := Lib.hid (show sameF f g = true from hsame)
            clear hat hat2 hi hi2 hsame hat0 hat20 hbw
            go_wp2
            go_ret
            exact ⟨At.ret_bool HS.out.symm, HBW.out⟩
          | cons nm ats tx inn rest =>
            cases g' with
            | nil => exfalso; have := HQ.out; simp only [F.len] at hi hi2; omega
            | cons nm' ats' tx' inn' rest' =>
              simp only [F.len, F.wt] at hi hi2 hw
              have h1 : (i : Int) < (f.len : Int) := by omega
              have h2 : (i : Int) < (g.len : Int) := by have := HQ.out; omega
              obtain ⟨aa, ca, a', c', c0, c1, c2, c3, ⟨hsl, -⟩, hin, -⟩ := hat.cons
              obtain ⟨ab, cb, a'', c'', d0, d1, d2, d3, ⟨hsl2, -⟩, hin2, -⟩ := hat2.cons
              obtain ⟨-, -, -, -, -, -, -, -, -, -, hrest⟩ := hat0.cons
              obtain ⟨-, -, -, -, -, -, -, -, -, -, hrest2⟩ := hat20.cons
              have hA1 : Below wr.heap.size wr (wr.alloc (.cells #[.string ⟨nm.toArray⟩, .slice aa ats.length ca, .string ⟨tx.toArray⟩, .slice a' inn.len c'] 73)) := At.below_alloc _
              have hA2 : Below wr.heap.size wr ((wr.alloc (.cells #[.string ⟨nm.toArray⟩, .slice aa ats.length ca, .string ⟨tx.toArray⟩, .slice a' inn.len c'] 73)).alloc (.cells #[.string ⟨nm'.toArray⟩, .slice ab ats'.length cb, .string ⟨tx'.toArray⟩, .slice a'' inn'.len c''] 73)) := hA1.alloc (by simp) _
              have x0 := (World.cell?_of_block (a := ⟨b2, off2 + i * 4, none⟩) (hA1.block b2 (World.block_lt_of_cell? wr _ d0))).trans d0
              have x1 := (World.cell?_of_block (a := ⟨b2, off2 + i * 4 + 1, none⟩) (hA1.block b2 (World.block_lt_of_cell? wr _ d0))).trans d1
              have x2 := (World.cell?_of_block (a := ⟨b2, off2 + i * 4 + 2, none⟩) (hA1.block b2 (World.block_lt_of_cell? wr _ d0))).trans d2
              have x3 := (World.cell?_of_block (a := ⟨b2, off2 + i * 4 + 3, none⟩) (hA1.block b2 (World.block_lt_of_cell? wr _ d0))).trans d3
              have c1' := same1_any IH.out nm tx nm' tx' ats ats' inn inn' P Q aa ab a' a'' ca cb c' c'' _ (by omega) hsm.2.2.1 hsm.2.1 hsm.1 (hsl.below hA2) (hsl2.below hA2) (hin.below hA2) (hin2.below hA2)
              have HA2 := Lib.hid (below_trans hbw hA2)
              have hib : i ≤ 1000000 := by omega
              have HREL := Lib.hid (show ∀ wx, ((nm == nm') && ((tx == tx') && (alike ats ats' && sameF inn inn'))) = true → Below w.heap.size w wx → EqRel f g b off b2 off2 P Q w (.int .i64 ((i + 1 : Nat) : Int)) wx from fun wx e hb => by
                refine ⟨rest, rest', i + 1, rfl, by omega, by omega, by omega, hsm.2.2.2, ?_, ?_, ?_, hb⟩
                · rw [show off + (i + 1) * 4 = off + i * 4 + 4 by omega]; exact hrest
                · rw [show off2 + (i + 1) * 4 = off2 + i * 4 + 4 by omega]; exact hrest2
                · rw [hsame]
                  simp only [Bool.and_eq_true] at e
                  obtain ⟨e1, e2, e3, e4⟩ := e
                  simp only [sameF, e1, e2, e3, e4, Bool.true_and])
              have HNO := Lib.hid (show ((nm == nm') && ((tx == tx') && (alike ats ats' && sameF inn inn'))) = false → sameF f g = false from fun e => by
                rw [hsame]
                simp only [sameF]
                rw [← Bool.and_assoc (alike ats ats'), ← Bool.and_assoc (tx == tx'), ← Bool.and_assoc (nm == nm'), e, Bool.false_and])
              clear hat hat2 hsl hsl2 hin hin2 hrest hrest2 hsame hsm hi2 hw hat0 hat20 hbw hA1 hA2
              generalize ((nm == nm') && ((tx == tx') && (alike ats ats' && sameF inn inn'))) = R at c1' HREL HNO
              cases R
              · have HE := Lib.hid (HNO.out rfl)
                clear HNO HREL
                go_wp2_with fail
                refine c1'.mono ?_
                rintro e w2 ⟨rfl, hb2⟩
                have HB2 := Lib.hid (below_trans HA2.out hb2)
                clear hb2 c1'
                go_wp2
                go_ret
                exact ⟨At.ret_bool HE.out.symm, HB2.out⟩
              · have HR := Lib.hid (fun wx hb => HREL.out wx rfl hb)
                clear HNO HREL
                go_wp2_with fail
                refine c1'.mono ?_
                rintro e w2 ⟨rfl, hb2⟩
                have HB2 := Lib.hid (below_trans HA2.out hb2)
                clear hb2 c1'
                go_wp2
                go_roundw
                case rel => exact HR.out _ HB2.out
                case measure => simp [RowKit.intOf]; omega
  · rw [sameF_len hq]
    have h1 : ((f.len : Int) != (g.len : Int)) = true := by simp; omega
    clear hq ih hs ht
    go_enter Try.func50, Try.ntmps50
    go_wp2
    go_ret
    exact ⟨rfl, Below.refl _ _⟩

set_option maxRecDepth 100000 in
theorem asame_all (n : Nat) : SameC n := by
  induction n with
  | zero => intro f g P Q a a2 c c2 w hf; omega
  | succ n ih =>
    intro f g P Q a a2 c c2 w hf hsm hl hs ht
    have c1 := equalFunc_any f g P Q a a2 c c2 w (fun f' g' P' Q' b b2 d d2 wx hf' => ih f' g' P' Q' b b2 d d2 wx (by omega)) hsm hl hs ht
    clear hs ht ih hf hsm hl
    go_enter Try.func37, Try.ntmps37
    go_wp2_with fail
    refine c1.mono ?_
    rintro e w2 ⟨rfl, hb2⟩
    go_wp2
    go_ret
    exact ⟨rfl, hb2⟩
theorem asame_any (f g : F) (P Q : Nat → Prop) (a a2 : Option Addr) (c c2 : Nat) (w : World) (hsm : f.small 1000000) (hl : f.len ≤ 1000000) (hs : NSl w P f a c) (ht : NSl w Q g a2 c2) :
    Calls Try.prog 37 #[.slice a f.len c, .slice a2 g.len c2] w fun e w' => e = .returned (.bool (sameF f g)) ∧ Below w.heap.size w w' := asame_all (f.wt + 1) f g P Q a a2 c c2 w (Nat.lt_succ_self _) hsm hl hs ht
end Go.Proofs.Ytpnjjpbgbdicoaa
