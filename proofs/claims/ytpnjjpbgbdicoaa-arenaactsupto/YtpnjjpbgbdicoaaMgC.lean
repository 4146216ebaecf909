/- Merge, walked. -/
import Derived.Test.YtpnjjpbgbdicoaaMgB
import Derived.Test.YtpnjjpbgbdicoaaLCounts
import Derived.Test.YtpnjjpbgbdicoaaApd
namespace Go.Proofs.Ytpnjjpbgbdicoaa
open Go.RowKit Go.Lib
open At (Str cellsA cellsA_len Sl)

theorem F.lastT_addT (t tx0 : List UInt8) : ∀ {d : F}, d.lastT = some tx0 → (d.addT t).lastT = some (tx0 ++ t)
  | .nil, h => by simp [F.lastT] at h
  | .cons nm ats tx inn .nil, h => by
    simp only [F.lastT] at h
    split at h
    · rename_i hn
      injection h with h
      subst h
      rw [F.addT, if_pos hn, F.lastT, if_pos hn]
    · cases h
  | .cons nm ats tx inn (.cons nm2 ats2 tx2 inn2 rest), h => by
    rw [F.lastT] at h
    have ih := F.lastT_addT t tx0 h
    rw [F.addT]
    generalize hg : F.addT (.cons nm2 ats2 tx2 inn2 rest) t = g at ih ⊢
    cases g with
    | nil => simp [F.lastT] at ih
    | cons a b c d e => rw [F.lastT]; exact ih
theorem F.lastT_app (nm : List UInt8) (ats : List At.At) (tx : List UInt8) (inn : F) : ∀ d : F, (d.app (.cons nm ats tx inn .nil)).lastT = if nm = [] then some tx else none
  | .nil => rfl
  | .cons _ _ _ _ .nil => rfl
  | .cons nm1 _ _ _ (.cons nm2 ats2 tx2 inn2 rest) => by
    have := F.lastT_app nm ats tx inn (.cons nm2 ats2 tx2 inn2 rest)
    rw [F.app, F.app, F.lastT]
    rw [F.app] at this
    exact this

/-- where the loop of Merge stands -/
def MgRel (f : F) (b0 b off : Nat) (P : Nat → Prop) (w : World) (v3 v10 : Value) (wr : World) : Prop :=
  ∃ (g d : F) (i : Nat), v10 = .int .i64 (i : Int) ∧ d.len ≤ i ∧ i + g.len = f.len ∧ g.wt ≤ f.wt ∧ (∀ t, d.lastT = some t → t.length + g.wt ≤ f.wt) ∧ F.mg d g = F.mg .nil f ∧ At4 w P g b (off + i * 4) ∧ g.small 400000 ∧ NOwn wr w.heap.size 69 (Pm b0 w.heap.size) v3 d ∧ Below w.heap.size w wr

/-- what Merge answers -/
def MgPost (f : F) (b0 : Nat) (w : World) (r : Ending) (w' : World) : Prop :=
  ∃ v, r = .returned v ∧ NOwn w' w.heap.size 69 (Pm b0 w.heap.size) v (F.mg .nil f) ∧ Below w.heap.size w w'

theorem mg_none (w : World) (b0 : Nat) : NOwn (w.alloc (.cells #[] 69)) w.heap.size 69 (Pm b0 w.heap.size) (.slice (some ⟨w.heap.size, 0, none⟩) 0 0) .nil :=
  ⟨[], ⟨by simp [F.len], Or.inr ⟨w.heap.size, 0, #[], rfl, Nat.le_refl _, heap_alloc_new w _, Nat.le_refl _, Nat.zero_le _, rfl, rfl⟩⟩, rfl⟩

theorem join_one (a b : List UInt8) : (⟨a.toArray⟩ ++ ⟨b.toArray⟩ : ByteArray) = ⟨(a ++ b).toArray⟩ := by
  apply ByteArray.ext
  simp [ByteArray.data_append]

theorem str_ne {nm : List UInt8} (h : nm ≠ []) : (nm == []) = false := by simpa using h

set_option maxHeartbeats 4000000 in
set_option maxRecDepth 100000 in
theorem merge_any (n : Nat) : ∀ (f : F) (P : Nat → Prop) (b0 : Nat) (a : Option Addr) (c : Nat) (w : World), f.wt = n → f.small 400000 → f.len ≤ 400000 → f.wt ≤ 4000000 → (∀ b, P b → b < b0) → b0 ≤ w.heap.size → NSl w P f a c →
    Calls Try.prog 41 #[.slice a f.len c] w (MgPost f b0 w) := by
  induction n using Nat.strongRecOn with
  | _ n ih =>
    intro f P b0 a c w hf hsm hlm hw4 hP hb0 hs
    have HSM := Lib.hid hsm
    have HPb := Lib.hid hP
    have HB0 := Lib.hid hb0
    clear hsm hP hb0
    rcases hs.at4 with rfl | ⟨b, off, rfl, h4⟩
    · have HN := Lib.hid (mg_none w b0)
      have HA := Lib.hid (At.below_alloc (w := w) (.cells #[] 69))
      go_enter Try.func41, Try.ntmps41
      go_wp2
      go_loopw [3, 10] (fun v3 v10 wr => v3 = .slice (some ⟨w.heap.size, 0, none⟩) 0 0 ∧ v10 = .int .i64 0 ∧ wr = w.alloc (.cells #[] 69)) (fun _ _ _ => 0)
      case atStart => exact ⟨rfl, rfl, rfl⟩
      case round =>
        obtain ⟨rfl, rfl, rfl⟩ := hrel
        go_wp2
        go_ret
        exact ⟨_, rfl, HN.out, HA.out⟩
    · have IH := Lib.hid ih
      have HF := Lib.hid hf
      have HS := Lib.hid hs
      clear hs ih hf
      go_enter Try.func41, Try.ntmps41
      go_wp2
      go_loopw [3, 10] (fun v3 v10 wr => MgRel f b0 b off P w v3 v10 wr) (fun _ v _ => f.len - (RowKit.intOf v).toNat)
      case atStart => exact ⟨f, .nil, 0, rfl, Nat.le_refl _, by omega, Nat.le_refl _, fun t ht => by simp [F.lastT] at ht, rfl, by simpa using h4, HSM.out, mg_none w b0, At.below_alloc _⟩
      case round =>
        obtain ⟨g, d, i, rfl, hid, hi, hw, hlast, hdg, hat, hgs, hown, hb⟩ := hrel
        have HB := Lib.hid hb
        have HO := Lib.hid hown
        clear h4 hown
        cases g with
        | nil =>
          have hi' : i = f.len := by simpa [F.len] using hi
          subst hi'
          have hdg' : d = F.mg .nil f := hdg
          subst hdg'
          have h1 : ¬ ((f.len : Int) < (f.len : Int)) := by omega
          clear hat hi hid hb hlast
          go_wp2
          go_ret
          exact ⟨_, rfl, HO.out, HB.out⟩
        | cons nm ats tx inn rest =>
          simp only [F.len, F.wt] at hi hw
          have h1 : (i : Int) < (f.len : Int) := by omega
          obtain ⟨aa, ca, a', c', k0, k1, k2, k3, ⟨hsl, hpa⟩, hin, -⟩ := hat.cons
          have hbl : b < w.heap.size := World.block_lt_of_cell? w _ k0
          have c0 := (hb.cell (p := ⟨b, off + i * 4, none⟩) hbl).trans k0
          have c1 := (hb.cell (p := ⟨b, off + i * 4 + 1, none⟩) hbl).trans k1
          have c2 := (hb.cell (p := ⟨b, off + i * 4 + 2, none⟩) hbl).trans k2
          have c3 := (hb.cell (p := ⟨b, off + i * 4 + 3, none⟩) hbl).trans k3
          have hs0 : i ≤ 400000 := by omega
          have hd8 : d.len + 1 ≤ 8000000 := by omega
          have HP' := Lib.hid (fun (hne : ats ≠ []) (ad : Addr) (had : aa = some ad) => HPb.out _ (hpa hne ad had))
          have HSI := Lib.hid hgs
          have HH := Lib.hid (show i + (rest.len + 1) = f.len ∧ nm.length + F.atw ats + tx.length + inn.wt + rest.wt + 5 ≤ f.wt ∧ (∀ t, d.lastT = some t → t.length + (F.cons nm ats tx inn rest).wt ≤ f.wt) ∧ F.mg d (.cons nm ats tx inn rest) = F.mg .nil f ∧ d.len ≤ i ∧ At4 w P (.cons nm ats tx inn rest) b (off + i * 4) from ⟨hi, hw, hlast, hdg, hid, hat⟩)
          by_cases hnm : nm = []
          · subst hnm
            obtain ⟨W, hW⟩ : ∃ W, wr.alloc (.cells #[.string ⟨([] : List UInt8).toArray⟩, .slice aa ats.length ca, .string ⟨tx.toArray⟩, .slice a' inn.len c'] 69) = W := ⟨_, rfl⟩
            have hA : Below wr.heap.size wr W := by rw [← hW]; exact At.below_alloc _
            have hV : Var4 wr.heap.size (.string ⟨([] : List UInt8).toArray⟩) (.slice aa ats.length ca) (.string ⟨tx.toArray⟩) (.slice a' inn.len c') W := by rw [← hW]; exact ⟨by simp, by simp, by simp, by simp⟩
            obtain ⟨d0, -, d2, -⟩ := id hV
            have htl : tx.length ≤ 4000000 := by omega
            have HA := Lib.hid hA
            have HV := Lib.hid hV
            have HOW := Lib.hid (HO.out.below hA)
            have HBW := Lib.hid (below_trans HB.out hA)
            clear hat hsl hin hw hdg hid hi hb hlast hgs hpa k0 k1 k2 k3 hbl hA hV
            rcases hlt : d.lastT with _ | tx0
            · rcases hdl : d.len with _ | m
              · obtain ⟨a3, c3', hv3, -⟩ := HOW.out.sl
                rw [hdl] at hv3
                subst hv3
                have NEW := Lib.hid (mg_new b0 w wr W d tx _ _ _ _ _ HB.out HA.out HV.out HO.out hd8)
                clear hd8
                by_cases htx : tx = []
                · subst htx
                  go_wp2
                  go_roundw
                  case rel =>
                    obtain ⟨hi, hw, hlast, hdg, hid, hat⟩ := HH.out
                    rw [F.mg, if_pos rfl] at hdg
                    simp only [F.wt] at hlast
                    obtain ⟨_, _, _, _, -, -, -, -, -, -, hr⟩ := hat.cons
                    rw [show off + i * 4 + 4 = off + (i + 1) * 4 by omega] at hr
                    refine ⟨rest, d.addT [], i + 1, by go_num, by have := F.addT_len [] d; omega, by omega, by omega, fun t ht => (by rw [F.addT_none [] hlt, show F.one [] = .nil from rfl, F.app_nil, hlt] at ht; cases ht), hdg, hr, HSI.out.2.2.2, (by rw [F.addT_none [] hlt, show F.one [] = .nil from rfl, F.app_nil]; exact HOW.out), HBW.out⟩
                  case measure => simp [RowKit.intOf]; omega
                · have hne : (tx == []) = false := str_ne htx
                  obtain ⟨v', w5, hr, hv5, hown5, hbel5⟩ := NEW.out
                  have HR := Lib.hid hr
                  have H5 := Lib.hid hown5
                  have HB5 := Lib.hid hbel5
                  have hadd : d.addT tx = d.app (.cons [] [] tx .nil .nil) := by rw [F.addT_none tx hlt]; unfold F.one; rw [if_neg htx]
                  clear hr hown5 hbel5 hv5 htx
                  go_wp2_with (at_builtin; refine Lib.wpList_append_run _ rfl (.tmp 55) (.tmp 59) 54 54 rfl _ _ rfl rfl v' w5 HR.out ?_)
                  go_roundw
                  case rel =>
                    obtain ⟨hi, hw, hlast, hdg, hid, hat⟩ := HH.out
                    rw [F.mg, if_pos rfl] at hdg
                    simp only [F.wt] at hlast
                    obtain ⟨_, _, _, _, -, -, -, -, -, -, hr⟩ := hat.cons
                    rw [show off + i * 4 + 4 = off + (i + 1) * 4 by omega] at hr
                    refine ⟨rest, d.addT tx, i + 1, by go_num, by have := F.addT_len tx d; omega, by omega, by omega, fun t ht => (by rw [hadd, F.lastT_app, if_pos rfl] at ht; injection ht with ht; subst ht; omega), hdg, hr, HSI.out.2.2.2, (by rw [hadd]; exact H5.out), HB5.out⟩
                  case measure => simp [RowKit.intOf]; omega
              · obtain ⟨g3, c3', nm', rfl, hn', hg3, e0⟩ := HOW.out.named hlt hdl
                have hne' : (nm' == []) = false := str_ne hn'
                have NEW := Lib.hid (mg_new b0 w wr W d tx _ _ _ _ _ HB.out HA.out HV.out HO.out hd8)
                have hmb : m ≤ 8000000 := by omega
                clear hd8
                by_cases htx : tx = []
                · subst htx
                  go_wp2
                  go_roundw
                  case rel =>
                    obtain ⟨hi, hw, hlast, hdg, hid, hat⟩ := HH.out
                    rw [F.mg, if_pos rfl] at hdg
                    simp only [F.wt] at hlast
                    obtain ⟨_, _, _, _, -, -, -, -, -, -, hr⟩ := hat.cons
                    rw [show off + i * 4 + 4 = off + (i + 1) * 4 by omega] at hr
                    refine ⟨rest, d.addT [], i + 1, by go_num, by have := F.addT_len [] d; omega, by omega, by omega, fun t ht => (by rw [F.addT_none [] hlt, show F.one [] = .nil from rfl, F.app_nil, hlt] at ht; cases ht), hdg, hr, HSI.out.2.2.2, (by rw [F.addT_none [] hlt, show F.one [] = .nil from rfl, F.app_nil]; exact HOW.out), HBW.out⟩
                  case measure => simp [RowKit.intOf]; omega
                · have hne : (tx == []) = false := str_ne htx
                  obtain ⟨v', w5, hr, hv5, hown5, hbel5⟩ := NEW.out
                  have HR := Lib.hid hr
                  have H5 := Lib.hid hown5
                  have HB5 := Lib.hid hbel5
                  have hadd : d.addT tx = d.app (.cons [] [] tx .nil .nil) := by rw [F.addT_none tx hlt]; unfold F.one; rw [if_neg htx]
                  clear hr hown5 hbel5 hv5 htx
                  go_wp2_with (at_builtin; refine Lib.wpList_append_run _ rfl (.tmp 55) (.tmp 59) 54 54 rfl _ _ rfl rfl v' w5 HR.out ?_)
                  go_roundw
                  case rel =>
                    obtain ⟨hi, hw, hlast, hdg, hid, hat⟩ := HH.out
                    rw [F.mg, if_pos rfl] at hdg
                    simp only [F.wt] at hlast
                    obtain ⟨_, _, _, _, -, -, -, -, -, -, hr⟩ := hat.cons
                    rw [show off + i * 4 + 4 = off + (i + 1) * 4 by omega] at hr
                    refine ⟨rest, d.addT tx, i + 1, by go_num, by have := F.addT_len tx d; omega, by omega, by omega, fun t ht => (by rw [hadd, F.lastT_app, if_pos rfl] at ht; injection ht with ht; subst ht; omega), hdg, hr, HSI.out.2.2.2, (by rw [hadd]; exact H5.out), HB5.out⟩
                  case measure => simp [RowKit.intOf]; omega
            · have hX := join_one tx0 tx
              have hlX : tx0.length ≤ 4000000 := by have := HH.out.2.2.1 tx0 hlt; omega
              obtain ⟨gg, m, cc, rfl, hm, -, hgl, e0, e2, hfz, hown', hgr⟩ := (HOW.out.below (below_drew W)).more tx tx0 hlt
              have e0' : W.cell? ⟨gg, m * 4, none⟩ = some (.string ⟨([] : List UInt8).toArray⟩) := e0
              have e2' : W.cell? ⟨gg, m * 4 + 2, none⟩ = some (.string ⟨tx0.toArray⟩) := e2
              have hfz' : W.frozen? ⟨gg, m * 4 + 2, none⟩ = false := hfz
              have hmb : m ≤ 8000000 := by omega
              have HN' := Lib.hid hown'
              have HG' := Lib.hid hgr
              have hge : w.heap.size ≤ gg := by
                obtain ⟨us, q1, -⟩ := HO.out
                exact (q1.lt gg rfl).1
              clear hown' hgr e0 e2 hfz hd8 hgl
              have hwr : IntKind.i64.wrap (m : Int) = (m : Int) := wrap_small _ (by omega) (by omega)
              have hml : (m : Int) < (m : Int) + 1 := by omega
              have hjl : ¬ (9223372036854775807 < tx0.length + tx.length) := by omega
              go_wp2_with fail
              go_region_law (fail)
              all_goals go_wp2
              all_goals
                go_roundw
                case rel =>
                  obtain ⟨hi, hw, hlast, hdg, hid, hat⟩ := HH.out
                  rw [F.mg, if_pos rfl] at hdg
                  have hlast' := hlast tx0 hlt
                  simp only [F.wt] at hlast'
                  obtain ⟨_, _, _, _, -, -, -, -, -, -, hr⟩ := hat.cons
                  rw [show off + i * 4 + 4 = off + (i + 1) * 4 by omega] at hr
                  refine ⟨rest, d.addT tx, i + 1, by go_num, by have := F.addT_len tx d; omega, by omega, by omega, fun t ht => (by rw [F.lastT_addT tx tx0 hlt] at ht; injection ht with ht; subst ht; rw [List.length_append]; omega), hdg, hr, HSI.out.2.2.2, HN'.out, ?_⟩
                  exact (below_trans HBW.out (below_drew W)).grown HG'.out (by have := HBW.out.size; exact this) (fun q hq => by injection hq with hq; omega)
                case measure => simp [RowKit.intOf]; omega
          · have hne : (nm == []) = false := str_ne hnm
            obtain ⟨W, hW⟩ : ∃ W, wr.alloc (.cells #[.string ⟨nm.toArray⟩, .slice aa ats.length ca, .string ⟨tx.toArray⟩, .slice a' inn.len c'] 69) = W := ⟨_, rfl⟩
            have hA : Below wr.heap.size wr W.drew := by rw [← hW]; exact (At.below_alloc _).drew
            have hV : Var4 wr.heap.size (.string ⟨nm.toArray⟩) (.slice aa ats.length ca) (.string ⟨tx.toArray⟩) (.slice a' inn.len c') W.drew := by rw [← hW]; exact ⟨by simp, by simp, by simp, by simp⟩
            have dW : W.cell? ⟨wr.heap.size, 0, none⟩ = some (.string ⟨nm.toArray⟩) := by rw [← hW]; simp
            obtain ⟨d0, d1, d2, d3⟩ := id hV
            have HI := IH.out inn.wt (by have := HF.out; omega) inn P b0 a' c' W.drew rfl HSI.out.2.2.1 HSI.out.2.1 (by omega) HPb.out (by have := HB0.out; have := HB.out.size; have := hA.size; omega) ((hin.below hb).below hA)
            have ST := Lib.hid (fun w4 vn hon hb4 => mg_step b0 w wr W.drew w4 d (F.mg .nil inn) nm ats u3 vn aa ca _ _ _ _ HB0.out HB.out hA hV HO.out hsl HP'.out hon hb4 hd8)
            have HV := Lib.hid hV
            clear hat hsl hin hw hdg hA HO hid hi hb hV hlast hgs hpa k0 k1 k2 k3 hbl
            go_wp2_with fail
            go_region_held3 (fun wx => wx.cell? ⟨wr.heap.size, 0, none⟩ = some (.string ⟨nm.toArray⟩) ∧ wx.cell? ⟨wr.heap.size, 1, none⟩ = some (.slice aa ats.length ca) ∧ wx.cell? ⟨wr.heap.size, 2, none⟩ = some (.string ⟨tx.toArray⟩) ∧ wx.cell? ⟨wr.heap.size, 3, none⟩ = some (.slice a' inn.len c'))
              (first | with_reducible exact p4 | with_reducible exact p5 | with_reducible exact p6 | with_reducible exact HV.out)
              (first
                | (go_at_call 41; refine HI.mono ?_; rintro e w4 ⟨vn, rfl, hon, hb4⟩; obtain ⟨a7, c7, v', w5, rfl, hrun, p4, p5, p6, hown5, hbel5⟩ := ST.out w4 _ hon hb4; obtain ⟨r0, r1, r2, r3⟩ := id p4; have HR := Lib.hid hrun; have H5 := Lib.hid hown5; have HB5 := Lib.hid hbel5; clear hrun hown5 hbel5 hon hb4)
                | (refine step_run rfl (.tmp 17) (.tmp 26) 54 54 rfl _ _ rfl rfl v' w5 HR.out ?_))
            go_wp2
            go_roundw
            case rel =>
              obtain ⟨hi, hw, hlast, hdg, hid, hat⟩ := HH.out
              refine ⟨rest, d.app (.cons nm ats [] (F.mg .nil inn) .nil), i + 1, by go_num, by rw [F.app_len]; simp only [F.len]; omega, by omega, by omega, fun t ht => (by rw [F.lastT_app, if_neg hnm] at ht; cases ht), by rw [F.mg, if_neg hnm] at hdg; exact hdg, ?_, HSI.out.2.2.2, H5.out, HB5.out⟩
              obtain ⟨_, _, _, _, -, -, -, -, -, -, hr⟩ := hat.cons
              rw [show off + i * 4 + 4 = off + (i + 1) * 4 by omega] at hr
              exact hr
            case measure => simp [RowKit.intOf]; omega
end Go.Proofs.Ytpnjjpbgbdicoaa
