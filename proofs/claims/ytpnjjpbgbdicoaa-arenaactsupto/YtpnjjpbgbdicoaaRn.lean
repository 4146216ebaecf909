/- The document's Nodes, walked. -/
import Derived.Test.YtpnjjpbgbdicoaaRg
namespace Go.Proofs.Ytpnjjpbgbdicoaa
open Go.RowKit Go.Lib
open At (Str cellsA cellsA_len Sl below_drewN)

/-- what stays while the answer's row grows -/
def Kp (w : World) (row : Option Nat) (w' : World) : Prop := w.heap.size ≤ w'.heap.size ∧ ∀ q, q < w.heap.size → some q ≠ row → w'.heap[q]? = w.heap[q]?
theorem Kp.of_below {w w' : World} (h : Below w.heap.size w w') (row : Option Nat) : Kp w row w' := ⟨h.size, fun q hq _ => h.block q hq⟩
theorem Kp.grown {w w1 w' : World} {row : Option Nat} (h : Below w.heap.size w w1) (hg : w1.grownBy w' row) : Kp w row w' := ⟨Nat.le_trans h.size hg.size, fun q hq hne => (hg.block q (Nat.lt_of_lt_of_le hq h.size) hne).trans (h.block q hq)⟩

theorem rn_step (b0 : Nat) (w wr W w4 : World) (d inn : F) (nm : List UInt8) (ats : List At.At) (u3 vn : Value) (aa : Option Addr) (ca : Nat)
    (hb0 : b0 ≤ w.heap.size) (hbw : Below w.heap.size w wr) (hbW : Below wr.heap.size wr W)
    (hown : NOwn wr w.heap.size 69 (Pm b0 w.heap.size) u3 d) (hsl : Sl ats aa ca w) (hlt0 : ats ≠ [] → ∀ ad, aa = some ad → ad.block < b0)
    (hon : NOwn w4 W.heap.size 69 (Pm b0 W.heap.size) vn inn) (hb4 : Below W.heap.size W w4) (hl : d.len + 1 ≤ 8000000) :
    ∃ a7 c7 v' w5, vn = .slice a7 inn.len c7 ∧
      (Builtin.append_ #[54, 54] 54 #[u3, .slice (some ⟨w4.heap.size, 0, none⟩) 1 1]).run Try.prog (w4.alloc (.cells #[.string ⟨nm.toArray⟩, .slice aa ats.length ca, .string ⟨([] : List UInt8).toArray⟩, .slice a7 inn.len c7] 69)) = .ok v' w5 ∧
      Kp W u3.ownBlock w4 ∧ Kp W u3.ownBlock (w4.alloc (.cells #[.string ⟨nm.toArray⟩, .slice aa ats.length ca, .string ⟨([] : List UInt8).toArray⟩, .slice a7 inn.len c7] 69)) ∧ Kp W u3.ownBlock w5 ∧
      NOwn w5 w.heap.size 69 (Pm b0 w.heap.size) v' (d.app (.cons nm ats [] inn .nil)) ∧ Below w.heap.size w w5 := by
  have hsz : w.heap.size ≤ wr.heap.size := hbw.size
  have hszW : wr.heap.size ≤ W.heap.size := hbW.size
  have hsz4 : W.heap.size ≤ w4.heap.size := hb4.size
  have how4 : NOwn w4 w.heap.size 69 (Pm b0 w.heap.size) u3 d := (hown.below hbW).below hb4
  have hlt : ∀ g, u3.ownBlock = some g → w.heap.size ≤ g ∧ g < wr.heap.size := by
    intro g hg
    obtain ⟨us, h1, -⟩ := hown
    exact h1.lt g hg
  obtain ⟨a7, c7, rfl, hsl7⟩ := hon.sl
  have hbl : Below w.heap.size w w4 := (hbw.trans (hbW.mono hsz)).trans (hb4.mono (by omega))
  have hn7 : NSl w4 (Off (Pm b0 w.heap.size) u3) inn a7 c7 := by
    refine hsl7.mono fun b hb => ?_
    have hb' : b < b0 ∨ W.heap.size ≤ b := by
      rcases hb with ⟨h, -⟩ | ⟨-, h⟩
      · exact h
      · exact Or.inr h
    refine ⟨by rcases hb' with h | h; exact Or.inl h; exact Or.inr (by omega), fun he => ?_⟩
    have := hlt _ he.symm
    omega
  obtain ⟨v', w5, hr, how5, hgr, -⟩ := app_node elem54 w4 w.heap.size (Pm b0 w.heap.size) u3 d nm [] ats inn aa a7 ca c7 w4.heap.size rfl how4
    ⟨hsl.below hbl, fun hne ad had => ⟨Or.inl (hlt0 hne ad had), fun he => by
      have h1 := (hlt _ he.symm).1
      have h2 := hlt0 hne ad had
      omega⟩⟩ hn7 hl (by omega)
  exact ⟨a7, c7, v', w5, rfl, hr, Kp.of_below hb4 _, Kp.of_below (hb4.alloc hsz4 _) _, Kp.grown hb4 hgr, how5, hbl.grown hgr (by omega) (fun g hg => (hlt g hg).1)⟩

theorem rn_new (b0 : Nat) (w wr W : World) (d : F) (tx : List UInt8) (u3 : Value)
    (hbw : Below w.heap.size w wr) (hbW : Below wr.heap.size wr W)
    (hown : NOwn wr w.heap.size 69 (Pm b0 w.heap.size) u3 d) (hl : d.len + 1 ≤ 8000000) :
    ∃ v' w5, (Builtin.append_ #[54, 54] 54 #[u3, .slice (some ⟨W.heap.size, 0, none⟩) 1 1]).run Try.prog (W.alloc (.cells #[.string ⟨([] : List UInt8).toArray⟩, .slice none 0 0, .string ⟨tx.toArray⟩, .slice none 0 0] 69)) = .ok v' w5 ∧
      Kp W u3.ownBlock w5 ∧ NOwn w5 w.heap.size 69 (Pm b0 w.heap.size) v' (d.app (.cons [] [] tx .nil .nil)) ∧ Below w.heap.size w w5 := by
  have hsz : w.heap.size ≤ wr.heap.size := hbw.size
  have hszW : wr.heap.size ≤ W.heap.size := hbW.size
  have hlt : ∀ g, u3.ownBlock = some g → w.heap.size ≤ g ∧ g < wr.heap.size := by
    intro g hg
    obtain ⟨us, h1, -⟩ := hown
    exact h1.lt g hg
  have hbl : Below w.heap.size w W := hbw.trans (hbW.mono hsz)
  obtain ⟨v', w5, hr, how5, hgr, -⟩ := app_node elem54 W w.heap.size (Pm b0 w.heap.size) u3 d [] tx [] .nil none none 0 0 W.heap.size rfl (hown.below hbW)
    ⟨⟨Nat.le_refl _, fun _ => ⟨rfl, rfl⟩, Or.inl rfl⟩, fun hne => absurd rfl hne⟩ ⟨⟨Nat.le_refl _, fun _ => ⟨rfl, rfl⟩⟩, Or.inl rfl⟩ hl (by omega)
  exact ⟨v', w5, hr, Kp.grown (Below.refl _ _) hgr, how5, hbl.grown hgr (by omega) (fun g hg => (hlt g hg).1)⟩

/-- where the loop of Nodes stands -/
def RnRel (M : List MN) (f : F) (l : List (Nat × List UInt8)) (b0 : Nat) (w : World) (v5 v6 : Value) (wr : World) : Prop :=
  ∃ (g d : F) (i : Nat), v6 = .int .i64 (i : Int) ∧ i = d.len ∧ i + g.len = f.len ∧ g.wt ≤ f.wt ∧ d.app g = f ∧ T M (l.drop i) g ∧ g.small 400000 ∧ NOwn wr w.heap.size 69 (Pm b0 w.heap.size) v5 d ∧ Below w.heap.size w wr

def RnPost (f : F) (b0 : Nat) (w : World) (r : Ending) (w' : World) : Prop :=
  ∃ v, r = .returned v ∧ NOwn w' w.heap.size 69 (Pm b0 w.heap.size) v f ∧ Below w.heap.size w w'

set_option maxHeartbeats 8000000 in
set_option maxRecDepth 100000 in
theorem rnodes_any (N : Nat) : ∀ (f : F) {b0 : Nat} {w : World} {v0 v1 v2 v3 : Value} {M : List MN} (cp k : Nat) (n : MN), f.wt = N → RA b0 w v0 v1 v2 v3 M → b0 ≤ w.heap.size → M[k]? = some n → T M n.inn f → f.small 400000 → f.len ≤ 400000 → M.length ≤ 4000000 →
    Calls Try.prog 32 #[rv v0 v1 v2 v3 cp, .int .i64 (k : Int)] w (RnPost f b0 w) := by
  induction N using Nat.strongRecOn with
  | _ N ih =>
    intro f b0 w v0 v1 v2 v3 M cp k n hf h hb0 hk hT hsm hlf hM
    have hRA := h
    obtain ⟨hnm, ⟨xa, ha, ha'⟩, ⟨xi, hxi, hxi'⟩, hp⟩ := h
    obtain ⟨a0, c0, rfl, -⟩ := hnm.slice
    obtain ⟨a1, c1, rfl, -⟩ := ha.slice
    obtain ⟨a2, c2, rfl, -⟩ := hxi.slice
    obtain ⟨a3, c3, rfl, -⟩ := hp.slice
    have hkl := (List.getElem?_eq_some_iff.1 hk).1
    obtain ⟨vk, hvk, hik⟩ := hxi' k n hk
    obtain ⟨ak, ck, rfl, -⟩ := hik.slice
    have hlen : n.inn.length = f.len := hT.len
    obtain ⟨WA, hWA⟩ : ∃ WA, w.alloc (.cells #[.slice a0 M.length c0, .slice a1 M.length c1, .slice a2 M.length c2, .slice a3 M.length c3, .int .i64 (cp : Int)] 31) = WA := ⟨_, rfl⟩
    have bx : Bx w.heap.size #[.slice a0 M.length c0, .slice a1 M.length c1, .slice a2 M.length c2, .slice a3 M.length c3, .int .i64 (cp : Int)] 31 WA := by rw [← hWA]; exact bx_new w _ 31
    have hA : Below w.heap.size w WA := by rw [← hWA]; exact At.below_alloc _
    obtain ⟨WB, hWB⟩ : ∃ WB, WA.alloc (.cells #[] 69) = WB := ⟨_, rfl⟩
    have hB : Below w.heap.size w WB := by rw [← hWB]; exact hA.alloc hA.size _
    have bxB : Bx w.heap.size #[.slice a0 M.length c0, .slice a1 M.length c1, .slice a2 M.length c2, .slice a3 M.length c3, .int .i64 (cp : Int)] 31 WB := by rw [← hWB]; exact bx.below (At.below_alloc _)
    have hrow : NOwn WB WA.heap.size 69 (Pm b0 WA.heap.size) (.slice (some ⟨WA.heap.size, 0, none⟩) 0 0) .nil := by rw [← hWB]; exact mg_none WA b0
    have hBA : Below WA.heap.size WA WB := by rw [← hWB]; exact At.below_alloc _
    have hsA : w.heap.size < WA.heap.size := by rw [← hWA]; simp
    have HBA := Lib.hid hBA
    have HSA := Lib.hid hsA
    have HAA := Lib.hid hA
    have HBXA := Lib.hid bx
    clear hBA hsA
    have HRA := Lib.hid hRA
    have HA' := Lib.hid ha'
    have HXI := Lib.hid hxi'
    have HNM := Lib.hid hnm
    have HAT := Lib.hid ha
    have HIN := Lib.hid hxi
    have HIK := Lib.hid hik
    have HVK := Lib.hid hvk
    have HB0 := Lib.hid hb0
    have HF := Lib.hid hf
    have HT := Lib.hid hT
    have HSM := Lib.hid hsm
    have HBX := Lib.hid bxB
    have HBB := Lib.hid hB
    have HR := Lib.hid hrow
    have HK := Lib.hid hk
    have HLN := Lib.hid hlen
    have IH := Lib.hid ih
    have hkI : (k : Int) < (M.length : Int) := by omega
    clear hRA hnm ha ha' hxi hxi' hp hk hT hsm hf hb0 hik hvk bx bxB hA hB hrow ih hlen
    go_enter Try.func32, Try.ntmps32
    go_wp2
    go_loopw [5, 6] (fun v5 v6 wr => RnRel M f n.inn b0 WA v5 v6 wr) (fun _ v _ => f.len - (RowKit.intOf v).toNat)
    case atStart => exact ⟨f, .nil, 0, rfl, rfl, by omega, Nat.le_refl _, rfl, HT.out, HSM.out, HR.out, HBA.out⟩
    case round =>
      obtain ⟨g, d, i, rfl, hid, hi, hw, hdg, hTg, hgs, hown, hb⟩ := hrel
      have hbw : Below w.heap.size w wr := HAA.out.trans (hb.mono HAA.out.size)
      have bxr := HBXA.out.below hb
      have q0 := bxr.cell 0
      have q1 := bxr.cell 1
      have q2 := bxr.cell 2
      have q3 := bxr.cell 3
      have q4 := bxr.cell 4
      obtain ⟨g2, c2', hv2, -, -, -, x2, -⟩ := (HIN.out.below hbw).el HVK.out
      injection hv2 with e1 _ e3
      subst e1 e3
      have HBW := Lib.hid hbw
      have HB := Lib.hid hb
      have HO := Lib.hid hown
      cases g with
      | nil =>
        have hi' : i = f.len := by simpa [F.len] using hi
        have hil : i = n.inn.length := by rw [HLN.out]; exact hi'
        rw [F.app_nil] at hdg
        subst hdg
        subst hil
        have h1 : ¬ ((n.inn.length : Int) < (n.inn.length : Int)) := by omega
        have HPP := Lib.hid (show RnPost d b0 w (.returned u5) wr from ⟨_, rfl, (hown.base HAA.out.size).mono (fun q hq _ => by rcases hq with hq | hq; exact Or.inl hq; exact Or.inr (Nat.le_trans HAA.out.size hq)), hbw⟩)
        clear hTg hi hid hb hbw hown bxr
        go_wp2
        go_ret
        exact HPP.out
      | cons nm ats tx inn rest =>
        simp only [F.len, F.wt] at hi hw
        rw [T] at hTg
        obtain ⟨p, r, hpr, hTr, hpe⟩ := hTg
        have hil : i < n.inn.length := by rw [HLN.out]; omega
        have hp : n.inn[i]? = some p := by
          have : (n.inn.drop i)[0]? = some p := by rw [hpr]; rfl
          rwa [List.getElem?_drop, Nat.add_zero] at this
        have hdr : n.inn.drop (i + 1) = r := by
          have := congrArg List.tail hpr
          rw [List.tail_drop] at this
          exact this
        have h1 : (i : Int) < (n.inn.length : Int) := by omega
        obtain ⟨gk, cck, hvk', -, -, k0, k1⟩ := Its.item (w := wr) (l := n.inn) (Rw.below HIK.out hbw) hp
        injection hvk' with e1 _ e3
        subst e1 e3
        have hd8 : d.len + 1 ≤ 8000000 := by omega
        have hi8 : i ≤ 400000 := by omega
        have HDR := Lib.hid hdr
        have HH := Lib.hid (show i + (rest.len + 1) = f.len ∧ nm.length + F.atw ats + tx.length + inn.wt + rest.wt + 5 ≤ f.wt ∧ d.app (.cons nm ats tx inn rest) = f ∧ i = d.len ∧ T M r rest from ⟨hi, hw, hdg, hid, hTr⟩)
        have HSI := Lib.hid hgs
        obtain ⟨W, hW⟩ : ∃ W, wr.alloc (.cells #[.string ⟨p.2.toArray⟩, .int .i64 (p.1 : Int)] 88) = W := ⟨_, rfl⟩
        have hAW : Below wr.heap.size wr W := by rw [← hW]; exact At.below_alloc _
        have w0 : W.cell? ⟨wr.heap.size, 0, none⟩ = some (.string ⟨p.2.toArray⟩) := by rw [← hW]; simp
        have w1 : W.cell? ⟨wr.heap.size, 1, none⟩ = some (.int .i64 (p.1 : Int)) := by rw [← hW]; simp
        have HAW := Lib.hid hAW
        rcases hpe with ⟨hp0, rfl, rfl, htx, rfl⟩ | ⟨hp0, htx, m, hm, hnm', hats', hTm⟩
        · obtain ⟨v', w5, hr, hkp, hown5, hbel5⟩ := rn_new b0 WA wr (wr.alloc (.cells #[.string ⟨tx.toArray⟩, .int .i64 0] 88)) d tx u5 hb (At.below_alloc _) hown hd8
          have hsw : (wr.alloc (.cells #[.string ⟨tx.toArray⟩, .int .i64 0] 88)).heap.size = wr.heap.size + 1 := by simp
          rw [hsw] at hr
          have HR5 := Lib.hid hr
          have H5 := Lib.hid hown5
          have HB5 := Lib.hid hbel5
          rw [← htx] at k0
          rw [hp0] at k1
          clear hr hkp hown5 hbel5 hb hbw hown hAW hi hw hdg hid hTr hpr hp hdr hgs hil bxr htx hp0 hW w0 w1 HAW hsw
          go_wp2_with (at_builtin; refine Lib.wpList_append_run _ rfl (.tmp 30) (.tmp 34) 54 54 rfl _ _ rfl rfl v' w5 HR5.out ?_)
          go_roundw
          case rel =>
            obtain ⟨hi, hw, hdg, hid, hTr⟩ := HH.out
            exact ⟨rest, d.app (.cons [] [] tx .nil .nil), i + 1, by go_num, by rw [F.app_len]; simp only [F.len]; omega, by omega, by omega, by rw [F.app_assoc]; exact hdg, by rw [HDR.out]; exact hTr, HSI.out.2.2.2, H5.out, HB5.out⟩
          case measure => have := HH.out.1; simp [RowKit.intOf]; omega
        · have hq0 : ((p.1 : Int) == 0) = false := beq_eq_false_iff_ne.2 (by omega)
          have hml := (List.getElem?_eq_some_iff.1 hm).1
          have hmI : (p.1 : Int) < (M.length : Int) := by omega
          obtain ⟨gn, cn, hvn, -, -, -, xn, -⟩ := HNM.out.el (j := p.1) (x := .string ⟨m.nm.toArray⟩) (by rw [List.getElem?_map, hm]; rfl)
          obtain ⟨sa, ca, hxa, hsl, hsb⟩ := HA'.out p.1 m hm
          obtain ⟨ga, cga, hva, -, -, -, xat, -⟩ := HAT.out.el hxa
          injection hvn with e1 _ e3
          subst e1 e3
          injection hva with e1 _ e3
          subst e1 e3
          have hWd : Below wr.heap.size wr W.drew := hAW.drew
          have hlt : ∀ o, u5.ownBlock = some o → WA.heap.size ≤ o ∧ o < wr.heap.size := by
            obtain ⟨us, z1, -⟩ := hown
            exact fun o ho => z1.lt o ho
          have hwd : Below w.heap.size w W.drew := hbw.trans (hWd.mono hbw.size)
          have b1 : w.heap.size < W.drew.heap.size := Nat.lt_of_lt_of_le bxr.lt hWd.size
          have b2 : wr.heap.size < W.drew.heap.size := World.block_lt_of_cell? W _ w0
          have b3 : gn < w.heap.size := World.block_lt_of_cell? w _ xn
          have b4 : ga < w.heap.size := World.block_lt_of_cell? w _ xat
          have hWAw : w.heap.size < WA.heap.size := HSA.out
          have bxd := bxr.below hWd
          have CS := Lib.hid (fun u (hu : Kp W.drew u5.ownBlock u) => (show (u.cell? ⟨w.heap.size, 0, none⟩ = some (.slice (some ⟨gn, 0, none⟩) M.length c0) ∧ u.cell? ⟨w.heap.size, 1, none⟩ = some (.slice (some ⟨ga, 0, none⟩) M.length c1) ∧ u.cell? ⟨w.heap.size, 2, none⟩ = some (.slice (some ⟨g2, 0, none⟩) M.length c2) ∧ u.cell? ⟨w.heap.size, 3, none⟩ = some (.slice a3 M.length c3) ∧ u.cell? ⟨w.heap.size, 4, none⟩ = some (.int .i64 (cp : Int)) ∧ u.cell? ⟨wr.heap.size, 1, none⟩ = some (.int .i64 (p.1 : Int)) ∧ u.cell? ⟨gn, p.1, none⟩ = some (.string ⟨m.nm.toArray⟩) ∧ u.cell? ⟨ga, p.1, none⟩ = some (.slice sa m.ats.length ca)) from by
            have n1 : some w.heap.size ≠ u5.ownBlock := fun e => by have := hlt _ e.symm; omega
            have n2 : some wr.heap.size ≠ u5.ownBlock := fun e => by have := hlt _ e.symm; omega
            have n3 : some gn ≠ u5.ownBlock := fun e => by have := hlt _ e.symm; omega
            have n4 : some ga ≠ u5.ownBlock := fun e => by have := hlt _ e.symm; omega
            have hbx : Bx w.heap.size _ 31 u := (hu.2 w.heap.size b1 n1).trans bxd
            refine ⟨hbx.cell 0, hbx.cell 1, hbx.cell 2, hbx.cell 3, hbx.cell 4, (World.cell?_of_block (a := ⟨wr.heap.size, 1, none⟩) (hu.2 _ b2 n2)).trans w1, ?_, ?_⟩
            · exact (World.cell?_of_block (a := ⟨gn, p.1, none⟩) (hu.2 gn (Nat.lt_trans b3 b1) n3)).trans ((hwd.cell (p := ⟨gn, p.1, none⟩) b3).trans xn)
            · exact (World.cell?_of_block (a := ⟨ga, p.1, none⟩) (hu.2 ga (Nat.lt_trans b4 b1) n4)).trans ((hwd.cell (p := ⟨ga, p.1, none⟩) b4).trans xat)))
          have p1 := CS.out W.drew ⟨Nat.le_refl _, fun _ _ _ => rfl⟩
          have cN : Calls Try.prog 32 #[rv (.slice (some ⟨gn, 0, none⟩) M.length c0) (.slice (some ⟨ga, 0, none⟩) M.length c1) (.slice (some ⟨g2, 0, none⟩) M.length c2) (.slice a3 M.length c3) cp, .int .i64 (p.1 : Int)] W.drew (RnPost inn b0 W.drew) := IH.out inn.wt (by have := HF.out; omega) inn cp p.1 m rfl (HRA.out.below hwd) (Nat.le_trans HB0.out hwd.size) hm hTm hgs.2.2.1 hgs.2.1 hM
          have ST := Lib.hid (fun w4 vn hon hb4 => rn_step b0 WA wr W.drew w4 d inn m.nm m.ats u5 vn sa ca (Nat.le_trans HB0.out (Nat.le_of_lt HSA.out)) hb hWd hown (hsl.below HAA.out) hsb hon hb4 hd8)
          have HNA := Lib.hid (show nm = m.nm ∧ ats = m.ats from ⟨hnm', hats'⟩)
          have HTX := Lib.hid htx
          clear hb hbw hown hAW hi hw hdg hid hTr hpr hp hdr hgs hil bxr htx hp0 hm hml hxa hsl hsb hWd hlt hwd b1 b2 b3 b4 hWAw bxd xn xat hTm hnm' hats'
          obtain ⟨s0, s1, s2, s3, s4, s5, s6, s7⟩ := id p1
          go_wp2_with fail
          go_region_held3 (fun wx => wx.cell? ⟨w.heap.size, 0, none⟩ = some (.slice (some ⟨gn, 0, none⟩) M.length c0) ∧ wx.cell? ⟨w.heap.size, 1, none⟩ = some (.slice (some ⟨ga, 0, none⟩) M.length c1) ∧ wx.cell? ⟨w.heap.size, 2, none⟩ = some (.slice (some ⟨g2, 0, none⟩) M.length c2) ∧ wx.cell? ⟨w.heap.size, 3, none⟩ = some (.slice a3 M.length c3) ∧ wx.cell? ⟨w.heap.size, 4, none⟩ = some (.int .i64 (cp : Int)) ∧ wx.cell? ⟨wr.heap.size, 1, none⟩ = some (.int .i64 (p.1 : Int)) ∧ wx.cell? ⟨gn, p.1, none⟩ = some (.string ⟨m.nm.toArray⟩) ∧ wx.cell? ⟨ga, p.1, none⟩ = some (.slice sa m.ats.length ca))
            (first | with_reducible exact p1 | with_reducible exact p4 | with_reducible exact p5 | with_reducible exact p6)
            (first
              | (go_at_call 32; refine cN.mono ?_; rintro e w4 ⟨vn, rfl, hon, hb4⟩; obtain ⟨a7, c7, v', w5, rfl, hrun, kp4, kp5, kp6, hown5, hbel5⟩ := ST.out w4 _ hon hb4; have p4 := CS.out _ kp4; have p5 := CS.out _ kp5; have p6 := CS.out _ kp6; obtain ⟨r0, r1, r2, r3, r4, r5, r6, r7⟩ := id p4; have HR := Lib.hid hrun; have H5 := Lib.hid hown5; have HB5 := Lib.hid hbel5; clear hrun hown5 hbel5 hon hb4 kp4 kp5 kp6)
              | (refine step_run rfl (.tmp 36) (.tmp 54) 54 54 rfl _ _ rfl rfl v' w5 HR.out ?_))
          go_wp2
          go_roundw
          case rel =>
            obtain ⟨hi, hw, hdg, hid, hTr⟩ := HH.out
            obtain ⟨rfl, rfl⟩ := HNA.out
            have htx := HTX.out
            subst htx
            exact ⟨rest, d.app (.cons m.nm m.ats [] inn .nil), i + 1, by go_num, by rw [F.app_len]; simp only [F.len]; omega, by omega, by omega, by rw [F.app_assoc]; exact hdg, by rw [HDR.out]; exact hTr, HSI.out.2.2.2, H5.out, HB5.out⟩
          case measure => have := HH.out.1; simp [RowKit.intOf]; omega
end Go.Proofs.Ytpnjjpbgbdicoaa
