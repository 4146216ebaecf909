/- The law's Of and To, walked: nodes copied into rows of one's own. -/
import Derived.Test.YtpnjjpbgbdicoaaApp
import Derived.Test.YtpnjjpbgbdicoaaMany
import Derived.Deep.RegionHeld3
import Derived.Lib.SmallJoins
namespace Go.Proofs.Ytpnjjpbgbdicoaa
open Go.RowKit Go.Lib
open At (Str cellsA cellsA_len Sl)

/-- an append whose run is known, as one step of a region that draws -/
theorem step_run {ops : Array Oper} {o : Oper} {a : Act} {w : World} {K : Act → World → Prop} {Q : Exit → Act → World → Prop} {E : Prop}
    (hg : o.guard = none) (s x : Operand) (t u : TypeId) (hop : o.op = Op.call { callee := Callee.builtin Builtin.append, args := #[s, x], argTypes := #[t, u] })
    (vs vx : Value) (hs : a.eval s = vs) (hx : a.eval x = vx) (v' : Value) (w' : World) (hr : (Builtin.append_ #[t, u] o.type #[vs, vx]).run Try.prog w = .ok v' w') (hK : K (a.put o.dst v') w') :
    if Region.wanted o (yielded ops a.tmps) = true then Oper.wp Try.prog o a w K Q else E := by
  rw [if_pos (by simp [Region.wanted, hg])]
  exact Lib.wp_append_run w s x t u hop vs vx hs hx v' w' hr hK


theorem cell_of_grown {w w' : World} {row : Option Nat} (hg : w.grownBy w' row) {p : Addr} {u : Value} (h : w.cell? p = some u) (hr : some p.block ≠ row) : w'.cell? p = some u :=
  (World.cell?_of_block (hg.block p.block (World.block_lt_of_cell? w _ h) hr)).trans h

/-- the loop's variable, in whichever world -/
abbrev Var4 (g : Nat) (v0 v1 v2 v3 : Value) (w : World) : Prop :=
  w.cell? ⟨g, 0, none⟩ = some v0 ∧ w.cell? ⟨g, 1, none⟩ = some v1 ∧ w.cell? ⟨g, 2, none⟩ = some v2 ∧ w.cell? ⟨g, 3, none⟩ = some v3

theorem Var4.below {g : Nat} {v0 v1 v2 v3 : Value} {w w' : World} (h : Var4 g v0 v1 v2 v3 w) (hb : Below w.heap.size w w') : Var4 g v0 v1 v2 v3 w' := by
  obtain ⟨h0, h1, h2, h3⟩ := h
  have hl : g < w.heap.size := World.block_lt_of_cell? w _ h0
  exact ⟨(hb.cell (p := ⟨g, 0, none⟩) hl).trans h0, (hb.cell (p := ⟨g, 1, none⟩) hl).trans h1, (hb.cell (p := ⟨g, 2, none⟩) hl).trans h2, (hb.cell (p := ⟨g, 3, none⟩) hl).trans h3⟩

/-- what a round of Of and To does behind both calls: the attributes' copy, the inner nodes' copy, and the append -/
theorem of_step {e ea t : TypeId} (E : ElemN t e) (w wr W w3 w4 : World) (d inn : F) (nm tx : List UInt8) (ats : List At.At) (u3 va vn : Value) (v0 v1 v2 v3 : Value)
    (hbw : Below w.heap.size w wr) (hbW : Below wr.heap.size wr W) (hv : Var4 wr.heap.size v0 v1 v2 v3 W)
    (hown : NOwn wr w.heap.size e (fun b => w.heap.size ≤ b) u3 d)
    (hoa : w3.ownsRow W.heap.size ea 2 va ats.length (cellsA ats)) (hb3 : Below W.heap.size W w3)
    (hon : NOwn w4 w3.heap.size e (fun b => w3.heap.size ≤ b) vn inn) (hb4 : Below w3.heap.size w3 w4) (hl : d.len + 1 ≤ 8000000) :
    ∃ a6 c6 a7 c7 v' w5, va = .slice a6 ats.length c6 ∧ vn = .slice a7 inn.len c7 ∧
      (Builtin.append_ #[t, t] t #[u3, .slice (some ⟨w4.heap.size, 0, none⟩) 1 1]).run Try.prog (w4.alloc (.cells #[.string ⟨nm.toArray⟩, .slice a6 ats.length c6, .string ⟨tx.toArray⟩, .slice a7 inn.len c7] e)) = .ok v' w5 ∧
      Var4 wr.heap.size v0 v1 v2 v3 w4 ∧ Var4 wr.heap.size v0 v1 v2 v3 (w4.alloc (.cells #[.string ⟨nm.toArray⟩, .slice a6 ats.length c6, .string ⟨tx.toArray⟩, .slice a7 inn.len c7] e)) ∧ Var4 wr.heap.size v0 v1 v2 v3 w5 ∧
      NOwn w5 w.heap.size e (fun b => w.heap.size ≤ b) v' (d.app (.cons nm ats tx inn .nil)) ∧ Below w.heap.size w w5 := by
  have hsz : w.heap.size ≤ wr.heap.size := hbw.size
  have hszW : wr.heap.size ≤ W.heap.size := hbW.size
  have hsz3 : W.heap.size ≤ w3.heap.size := hb3.size
  have hsz4 : w3.heap.size ≤ w4.heap.size := hb4.size
  have how4 : NOwn w4 w.heap.size e (fun b => w.heap.size ≤ b) u3 d := ((hown.below hbW).below hb3).below hb4
  have hlt : ∀ g, u3.ownBlock = some g → w.heap.size ≤ g ∧ g < wr.heap.size := by
    intro g hg
    obtain ⟨us, h1, -⟩ := hown
    exact h1.lt g hg
  have hv4 := (hv.below hb3).below hb4
  obtain ⟨a6, c6, rfl, hsl6⟩ := At.sl_own (At.ownsRow_below hoa hb4)
  obtain ⟨a7, c7, rfl, hsl7⟩ := hon.sl
  have hne : ∀ b, W.heap.size ≤ b → Off (fun b => w.heap.size ≤ b) u3 b := by
    intro b hb
    refine ⟨by omega, ?_⟩
    intro he
    have := (hlt b he.symm).2
    omega
  obtain ⟨v', w5, hr, how5, hgr, -⟩ := app_node E w4 w.heap.size (fun b => w.heap.size ≤ b) u3 d nm tx ats inn a6 a7 c6 c7 w4.heap.size rfl how4
    ⟨hsl6, fun _ ad had => hne _ (by
      subst had
      have ho : (Value.slice (some ad) ats.length c6).ownBlock = some ad.block := rfl
      exact (hoa.lt ad.block ho).1)⟩
    (hsl7.mono fun b hb => hne b (by rcases hb with ⟨h, -⟩ | ⟨-, h⟩ <;> omega)) hl (by omega)
  have hva := hv4.below (At.below_alloc (.cells #[.string ⟨nm.toArray⟩, .slice a6 ats.length c6, .string ⟨tx.toArray⟩, .slice a7 inn.len c7] e))
  have hbl : Below w.heap.size w w4 := ((hbw.trans (hbW.mono hsz)).trans (hb3.mono (by omega))).trans (hb4.mono (by omega))
  refine ⟨a6, c6, a7, c7, v', w5, rfl, rfl, hr, hv4, hva, ?_, how5, hbl.grown hgr (by omega) (fun g hg => (hlt g hg).1)⟩
  have hn : some wr.heap.size ≠ u3.ownBlock := by
    intro he
    have := (hlt _ he.symm).2
    omega
  obtain ⟨q0, q1, q2, q3⟩ := hv4
  exact ⟨cell_of_grown hgr q0 hn, cell_of_grown hgr q1 hn, cell_of_grown hgr q2 hn, cell_of_grown hgr q3 hn⟩

/-- where the loop of Of stands: g is still to come, the row holds those ahead -/
def OfRel (e : TypeId) (f : F) (b off : Nat) (P : Nat → Prop) (w : World) (v3 v8 : Value) (wr : World) : Prop :=
  ∃ (g d : F) (i : Nat), v8 = .int .i64 (i : Int) ∧ i = d.len ∧ i + g.len = f.len ∧ g.wt ≤ f.wt ∧ d.app g = f ∧ At4 w P g b (off + i * 4) ∧ NOwn wr w.heap.size e (fun b => w.heap.size ≤ b) v3 d ∧ Below w.heap.size w wr

/-- what Of answers -/
def OfPost (e : TypeId) (f : F) (w : World) (r : Ending) (w' : World) : Prop :=
  ∃ v, r = .returned v ∧ NOwn w' w.heap.size e (fun b => w.heap.size ≤ b) v f ∧ Below w.heap.size w w'

set_option maxHeartbeats 4000000 in
set_option maxRecDepth 100000 in
theorem of_any (n : Nat) : ∀ (f : F) (P : Nat → Prop) (a : Option Addr) (c : Nat) (w : World), f.wt = n → f.small 400000 → f.len ≤ 400000 → NSl w P f a c →
    Calls Try.prog 35 #[.slice a f.len c] w (OfPost 73 f w) := by
  induction n using Nat.strongRecOn with
  | _ n ih =>
    intro f P a c w hf hsm hlm hs
    have HSM := Lib.hid hsm
    clear hsm
    rcases hs.at4 with rfl | ⟨b, off, rfl, h4⟩
    · go_enter Try.func35, Try.ntmps35
      go_wp2
      go_loopw [3, 8] (fun v3 v8 wr => v3 = .slice none 0 0 ∧ v8 = .int .i64 0 ∧ wr = w) (fun _ _ _ => 0)
      case atStart => exact ⟨rfl, rfl, rfl⟩
      case round =>
        obtain ⟨rfl, rfl, rfl⟩ := hrel
        go_wp2
        go_ret
        exact ⟨_, rfl, NOwn.nil _ _ _ _, Below.refl _ _⟩
    · have IH := Lib.hid ih
      have HF := Lib.hid hf
      clear hs ih hf
      go_enter Try.func35, Try.ntmps35
      go_wp2
      go_loopw [3, 8] (fun v3 v8 wr => OfRel 73 f b off P w v3 v8 wr) (fun _ v _ => f.len - (RowKit.intOf v).toNat)
      case atStart => exact ⟨f, .nil, 0, rfl, rfl, by omega, Nat.le_refl _, rfl, by simpa using h4, NOwn.nil _ _ _ _, Below.refl _ _⟩
      case round =>
        obtain ⟨g, d, i, rfl, hid, hi, hw, hdg, hat, hown, hb⟩ := hrel
        have HB := Lib.hid hb
        have HO := Lib.hid hown
        clear h4 hown
        cases g with
        | nil =>
          have hi' : i = f.len := by simpa [F.len] using hi
          subst hi'
          rw [F.app_nil] at hdg
          subst hdg
          have h1 : ¬ ((d.len : Int) < (d.len : Int)) := by omega
          clear hat hi hid hb
          go_wp2
          go_ret
          exact ⟨_, rfl, HO.out, HB.out⟩
        | cons nm ats tx inn rest =>
          simp only [F.len, F.wt] at hi hw
          have h1 : (i : Int) < (f.len : Int) := by omega
          obtain ⟨aa, ca, a', c', c0, c1, c2, c3, ⟨hsl, -⟩, hin, -⟩ := (hat.below hb).cons
          have hsml := F.small_app (N := 400000) (d := d) (by rw [hdg]; exact HSM.out)
          have hatl : ats.length ≤ 400000 := hsml.1
          have hs0 : i ≤ 400000 := by omega
          have hd8 : d.len + 1 ≤ 8000000 := by omega
          have HSI := Lib.hid hsml.2
          clear hsml
          obtain ⟨W, hW⟩ : ∃ W, wr.alloc (.cells #[.string ⟨nm.toArray⟩, .slice aa ats.length ca, .string ⟨tx.toArray⟩, .slice a' inn.len c'] 69) = W := ⟨_, rfl⟩
          have hA : Below wr.heap.size wr W.drew := by rw [← hW]; exact (At.below_alloc _).drew
          have hV : Var4 wr.heap.size (.string ⟨nm.toArray⟩) (.slice aa ats.length ca) (.string ⟨tx.toArray⟩) (.slice a' inn.len c') W.drew := by rw [← hW]; exact ⟨by simp, by simp, by simp, by simp⟩
          obtain ⟨d0, d1, d2, d3⟩ := id hV
          have cA := At.of_any ats aa ca W.drew (hsl.below hA) hatl
          have HI := Lib.hid (fun wx hbx => IH.out inn.wt (by have := HF.out; omega) inn P a' c' wx rfl HSI.out.2.1 HSI.out.1 ((hin.below hA).below hbx))
          have ST := Lib.hid (fun w3 w4 va vn hoa hb3 hon hb4 => of_step (ea := 83) elem56 w wr W.drew w3 w4 d inn nm tx ats u3 va vn _ _ _ _ HB.out hA hV HO.out hoa hb3 hon hb4 hd8)
          have HV := Lib.hid hV
          have HH := Lib.hid (show i + (rest.len + 1) = f.len ∧ nm.length + F.atw ats + tx.length + inn.wt + rest.wt + 5 ≤ f.wt ∧ d.app (.cons nm ats tx inn rest) = f ∧ i = d.len ∧ At4 w P (.cons nm ats tx inn rest) b (off + i * 4) from ⟨hi, hw, hdg, hid, hat⟩)
          clear hat hsl hin hw hdg hA HO hid hi hatl hb hV
          go_wp2_with fail
          go_region_held3 (fun wx => wx.cell? ⟨wr.heap.size, 0, none⟩ = some (.string ⟨nm.toArray⟩) ∧ wx.cell? ⟨wr.heap.size, 1, none⟩ = some (.slice aa ats.length ca) ∧ wx.cell? ⟨wr.heap.size, 2, none⟩ = some (.string ⟨tx.toArray⟩) ∧ wx.cell? ⟨wr.heap.size, 3, none⟩ = some (.slice a' inn.len c'))
            (first | with_reducible exact p4 | with_reducible exact p5 | with_reducible exact p6 | with_reducible exact p3 | with_reducible exact HV.out)
            (first
              | (go_at_call 14; refine cA.mono ?_; rintro e w3 ⟨va, rfl, hoa, hb3⟩; obtain ⟨q0, q1, q2, q3⟩ := HV.out.below hb3; have p3 := HV.out.below hb3; have HOA := Lib.hid hoa; have HB3 := Lib.hid hb3; obtain ⟨a6, c6, rfl, -⟩ := At.sl_own hoa; clear hoa hb3)
              | (go_at_call 35; refine (HI.out w3 HB3.out).mono ?_; rintro e w4 ⟨vn, rfl, hon, hb4⟩; obtain ⟨a6', c6', a7, c7, v', w5, ea6, rfl, hrun, p4, p5, p6, hown5, hbel5⟩ := ST.out w3 w4 _ _ HOA.out HB3.out hon hb4; cases ea6; obtain ⟨r0, r1, r2, r3⟩ := id p4; have HR := Lib.hid hrun; have H5 := Lib.hid hown5; have HB5 := Lib.hid hbel5; clear hrun hown5 hbel5 hon hb4)
              | (refine step_run rfl (.tmp 12) (.tmp 24) 56 56 rfl _ _ rfl rfl v' w5 HR.out ?_))
          go_wp2
          go_roundw
          case rel =>
            obtain ⟨hi, hw, hdg, hid, hat⟩ := HH.out
            refine ⟨rest, d.app (.cons nm ats tx inn .nil), i + 1, by go_num, by rw [F.app_len]; simp only [F.len]; omega, by omega, by omega, by rw [F.app_assoc]; exact hdg, ?_, H5.out, HB5.out⟩
            obtain ⟨_, _, _, _, -, -, -, -, -, -, hr⟩ := hat.cons
            rw [show off + i * 4 + 4 = off + (i + 1) * 4 by omega] at hr
            exact hr
          case measure => simp [RowKit.intOf]; omega
set_option maxHeartbeats 4000000 in
set_option maxRecDepth 100000 in
theorem to_any (n : Nat) : ∀ (f : F) (P : Nat → Prop) (a : Option Addr) (c : Nat) (w : World), f.wt = n → f.small 400000 → f.len ≤ 400000 → NSl w P f a c →
    Calls Try.prog 30 #[.slice a f.len c] w (OfPost 69 f w) := by
  induction n using Nat.strongRecOn with
  | _ n ih =>
    intro f P a c w hf hsm hlm hs
    have HSM := Lib.hid hsm
    clear hsm
    rcases hs.at4 with rfl | ⟨b, off, rfl, h4⟩
    · go_enter Try.func30, Try.ntmps30
      go_wp2
      go_loopw [3, 8] (fun v3 v8 wr => v3 = .slice none 0 0 ∧ v8 = .int .i64 0 ∧ wr = w) (fun _ _ _ => 0)
      case atStart => exact ⟨rfl, rfl, rfl⟩
      case round =>
        obtain ⟨rfl, rfl, rfl⟩ := hrel
        go_wp2
        go_ret
        exact ⟨_, rfl, NOwn.nil _ _ _ _, Below.refl _ _⟩
    · have IH := Lib.hid ih
      have HF := Lib.hid hf
      clear hs ih hf
      go_enter Try.func30, Try.ntmps30
      go_wp2
      go_loopw [3, 8] (fun v3 v8 wr => OfRel 69 f b off P w v3 v8 wr) (fun _ v _ => f.len - (RowKit.intOf v).toNat)
      case atStart => exact ⟨f, .nil, 0, rfl, rfl, by omega, Nat.le_refl _, rfl, by simpa using h4, NOwn.nil _ _ _ _, Below.refl _ _⟩
      case round =>
        obtain ⟨g, d, i, rfl, hid, hi, hw, hdg, hat, hown, hb⟩ := hrel
        have HB := Lib.hid hb
        have HO := Lib.hid hown
        clear h4 hown
        cases g with
        | nil =>
          have hi' : i = f.len := by simpa [F.len] using hi
          subst hi'
          rw [F.app_nil] at hdg
          subst hdg
          have h1 : ¬ ((d.len : Int) < (d.len : Int)) := by omega
          clear hat hi hid hb
          go_wp2
          go_ret
          exact ⟨_, rfl, HO.out, HB.out⟩
        | cons nm ats tx inn rest =>
          simp only [F.len, F.wt] at hi hw
          have h1 : (i : Int) < (f.len : Int) := by omega
          obtain ⟨aa, ca, a', c', c0, c1, c2, c3, ⟨hsl, -⟩, hin, -⟩ := (hat.below hb).cons
          have hsml := F.small_app (N := 400000) (d := d) (by rw [hdg]; exact HSM.out)
          have hatl : ats.length ≤ 400000 := hsml.1
          have hs0 : i ≤ 400000 := by omega
          have hd8 : d.len + 1 ≤ 8000000 := by omega
          have HSI := Lib.hid hsml.2
          clear hsml
          obtain ⟨W, hW⟩ : ∃ W, wr.alloc (.cells #[.string ⟨nm.toArray⟩, .slice aa ats.length ca, .string ⟨tx.toArray⟩, .slice a' inn.len c'] 73) = W := ⟨_, rfl⟩
          have hA : Below wr.heap.size wr W.drew := by rw [← hW]; exact (At.below_alloc _).drew
          have hV : Var4 wr.heap.size (.string ⟨nm.toArray⟩) (.slice aa ats.length ca) (.string ⟨tx.toArray⟩) (.slice a' inn.len c') W.drew := by rw [← hW]; exact ⟨by simp, by simp, by simp, by simp⟩
          obtain ⟨d0, d1, d2, d3⟩ := id hV
          have cA := At.to_any ats aa ca W.drew (hsl.below hA) hatl
          have HI := Lib.hid (fun wx hbx => IH.out inn.wt (by have := HF.out; omega) inn P a' c' wx rfl HSI.out.2.1 HSI.out.1 ((hin.below hA).below hbx))
          have ST := Lib.hid (fun w3 w4 va vn hoa hb3 hon hb4 => of_step (ea := 82) elem54 w wr W.drew w3 w4 d inn nm tx ats u3 va vn _ _ _ _ HB.out hA hV HO.out hoa hb3 hon hb4 hd8)
          have HV := Lib.hid hV
          have HH := Lib.hid (show i + (rest.len + 1) = f.len ∧ nm.length + F.atw ats + tx.length + inn.wt + rest.wt + 5 ≤ f.wt ∧ d.app (.cons nm ats tx inn rest) = f ∧ i = d.len ∧ At4 w P (.cons nm ats tx inn rest) b (off + i * 4) from ⟨hi, hw, hdg, hid, hat⟩)
          clear hat hsl hin hw hdg hA HO hid hi hatl hb hV
          go_wp2_with fail
          go_region_held3 (fun wx => wx.cell? ⟨wr.heap.size, 0, none⟩ = some (.string ⟨nm.toArray⟩) ∧ wx.cell? ⟨wr.heap.size, 1, none⟩ = some (.slice aa ats.length ca) ∧ wx.cell? ⟨wr.heap.size, 2, none⟩ = some (.string ⟨tx.toArray⟩) ∧ wx.cell? ⟨wr.heap.size, 3, none⟩ = some (.slice a' inn.len c'))
            (first | with_reducible exact p4 | with_reducible exact p5 | with_reducible exact p6 | with_reducible exact p3 | with_reducible exact HV.out)
            (first
              | (go_at_call 26; refine cA.mono ?_; rintro e w3 ⟨va, rfl, hoa, hb3⟩; obtain ⟨q0, q1, q2, q3⟩ := HV.out.below hb3; have p3 := HV.out.below hb3; have HOA := Lib.hid hoa; have HB3 := Lib.hid hb3; obtain ⟨a6, c6, rfl, -⟩ := At.sl_own hoa; clear hoa hb3)
              | (go_at_call 30; refine (HI.out w3 HB3.out).mono ?_; rintro e w4 ⟨vn, rfl, hon, hb4⟩; obtain ⟨a6', c6', a7, c7, v', w5, ea6, rfl, hrun, p4, p5, p6, hown5, hbel5⟩ := ST.out w3 w4 _ _ HOA.out HB3.out hon hb4; cases ea6; obtain ⟨r0, r1, r2, r3⟩ := id p4; have HR := Lib.hid hrun; have H5 := Lib.hid hown5; have HB5 := Lib.hid hbel5; clear hrun hown5 hbel5 hon hb4)
              | (refine step_run rfl (.tmp 12) (.tmp 24) 54 54 rfl _ _ rfl rfl v' w5 HR.out ?_))
          go_wp2
          go_roundw
          case rel =>
            obtain ⟨hi, hw, hdg, hid, hat⟩ := HH.out
            refine ⟨rest, d.app (.cons nm ats tx inn .nil), i + 1, by go_num, by rw [F.app_len]; simp only [F.len]; omega, by omega, by omega, by rw [F.app_assoc]; exact hdg, ?_, H5.out, HB5.out⟩
            obtain ⟨_, _, _, _, -, -, -, -, -, -, hr⟩ := hat.cons
            rw [show off + i * 4 + 4 = off + (i + 1) * 4 by omega] at hr
            exact hr
          case measure => simp [RowKit.intOf]; omega
end Go.Proofs.Ytpnjjpbgbdicoaa
