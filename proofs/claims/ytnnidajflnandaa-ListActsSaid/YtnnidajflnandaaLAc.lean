/- The law ListActs, walked. -/
import Derived.Test.YtnnidajflnandaaLq
import Derived.Deep.CutBlock
import Derived.Deep.DeepCutAuto
namespace Go.Proofs.Ytnnidajflnandaa
open Go.RowKit Go.Lib
open At (Str cellsA cellsA_len Sl)

set_option maxRecDepth 100000 in
set_option maxHeartbeats 4000000 in
theorem acts_any (l : List Ac) (a : Option Addr) (c : Nat) (w : World) (hs : AcSl l a c w) :
    Calls Try.prog 3 #[.slice a l.length c] w fun e w' => e = .returned (.bool true) ∧ Below w.heap.size w w' := by
  by_cases h40 : 40 < l.length
  · exact acts_long l.length a c w h40
  · have hgt : ¬ ((l.length : Int) > 40) := by omega
    go_enter Try.func3, Try.ntmps3
    go_wp2_with fail
    refine (speaks_any w).mono ?_
    rintro e w1 ⟨rfl, hb1⟩
    go_wp2_with fail
    refine (new_any w1).mono ?_
    rintro e w2 ⟨R, vn, rfl, ha, hb2⟩
    have hb12 := below_trans hb1 hb2
    go_wp2_with fail
    refine (rnew_any w2 w.heap.size hb12.size).mono ?_
    rintro e w3 ⟨d0, d1, d2, d3, rfl, hra, hb3⟩
    have h0 := hra.nms.slice
    have h1 := hra.ats
    have h2 := hra.inn
    have h3 := hra.par.slice
    obtain ⟨a0, c0, rfl, -⟩ := h0
    obtain ⟨xa, q1, -⟩ := h1
    obtain ⟨a1, c1, rfl, -⟩ := q1.slice
    obtain ⟨xi, q2, -⟩ := h2
    obtain ⟨a2, c2, rfl, -⟩ := q2.slice
    obtain ⟨a3, c3, rfl, -⟩ := h3
    have e1 : M0.length = 1 := rfl
    rw [e1] at hra ⊢
    obtain ⟨W4, hW4⟩ : ∃ W4, w3.alloc (.cells #[.slice a0 1 c0, .slice a1 1 c1, .slice a2 1 c2, .slice a3 1 c3, .int .i64 0] 31) = W4 := ⟨_, rfl⟩
    have hA4 : Below w3.heap.size w3 W4 := by rw [← hW4]; exact At.below_alloc _
    have hbx4 : Bx w3.heap.size #[.slice a0 1 c0, .slice a1 1 c1, .slice a2 1 c2, .slice a3 1 c3, .int .i64 0] 31 W4 := by rw [← hW4]; exact bx_new w3 _ 31
    have hb24 : Below w2.heap.size w2 W4 := below_trans hb3 hA4
    have cN := st_new (ha.below hb24) (Nat.le_trans hb2.size hb24.size)
    have H4 := Lib.hid (And.intro (hra.below hA4) hbx4)
    have HB := Lib.hid (below_trans hb12 hb24)
    have hwB : w.heap.size ≤ w1.heap.size := hb1.size
    have hBg : w1.heap.size ≤ w3.heap.size := Nat.le_trans hb2.size hb3.size
    have HW4 := Lib.hid hW4
    clear hra ha hb1 hb2 hb3 hb12 q1 q2 hA4 hbx4 hb24 hW4
    go_wp2_with fail
    rw [HW4.out]
    refine cN.mono ?_
    rintro e w5 ⟨rfl, h5, hb5⟩
    obtain ⟨Ls, hLs⟩ : ∃ Ls, W4.heap.size = Ls := ⟨_, rfl⟩
    obtain ⟨B, hB⟩ : ∃ B, w1.heap.size = B := ⟨_, rfl⟩
    obtain ⟨G, hG⟩ : ∃ G, w3.heap.size = G := ⟨_, rfl⟩
    rw [hLs, hB] at h5
    rw [hB] at hwB hBg
    rw [hG] at hBg H4
    rw [hLs, hG]
    have H5 := Lib.hid (And.intro (H4.out.1.below hb5) (H4.out.2.below hb5))
    have HS5 := Lib.hid h5
    have HB5 := Lib.hid (HB.out.trans (hb5.mono HB.out.size))
    clear cN H4 HB hb5 h5 hLs hB hG
    go_wp2
    have hlp : Lp w.heap.size B G w w5 R Ls 0 rootL [] vn (.slice none 0 0) (.slice a0 1 c0) (.slice a1 1 c1) (.slice a2 1 c2) (.slice a3 1 c3) (.slice none 0 0) :=
      ⟨HS5.out, H5.out.1, H5.out.2, Rw.nil _ _ _ _, Apart.symm (Or.inl rfl), Or.inl rfl, On.nil, Nat.zero_le _, rfl, HB5.out⟩
    clear H5 HS5 HB5
    go_loopw [6, 37] (fun u x wr => ∃ k : Nat, x = .int .i64 (k : Int) ∧ k ≤ l.length ∧ ∃ L E vn v d0 d1 d2 d3, Lp w.heap.size B G w wr R Ls k L E vn v d0 d1 d2 d3 u) (fun _ x _ => l.length - (RowKit.intOf x).toNat)
    case atStart => exact ⟨0, rfl, by omega, _, _, _, _, _, _, _, _, hlp⟩
    case round =>
      obtain ⟨k, rfl, hk, L, E, vn', v, d0, d1, d2, d3, hl⟩ := hrel
      clear hlp
      by_cases hlt : k < l.length
      · have hlt' : (k : Int) < (l.length : Int) := by omega
        obtain ⟨x, hx⟩ : ∃ x, l[k]? = some x := ⟨_, List.getElem?_eq_getElem hlt⟩
        obtain ⟨hf, h0 | ⟨b, off, rfl, hat⟩⟩ := hs
        · subst h0; simp at hlt
        · obtain ⟨aa, ca, p0, p1, p2, p3, hsl, hsb, hn⟩ := hat k x hx
          have up : ∀ (j : Nat) (y : Value), w.cell? ⟨b, j, none⟩ = some y → wr.cell? ⟨b, j, none⟩ = some y := fun j y hy => (hl.below.cell (p := ⟨b, j, none⟩) (World.block_lt_of_cell? w _ hy)).trans hy
          have z0 := up _ _ p0
          have z1 := up _ _ p1
          have z2 := up _ _ p2
          have z3 := up _ _ p3
          obtain ⟨d, n, s, ats⟩ := x
          simp only at z0 z1 z2 z3 hn hsl hsb
          have HX := Lib.hid hx
          have HSL := Lib.hid (And.intro hsl hsb)
          have HN := Lib.hid hn
          have HLP := Lib.hid hl
          clear hx hsl hsb hn hl p0 p1 p2 p3 up
          by_cases hse : (s == ([] : List UInt8)) = true
          · go_wp2
            go_ret
            exact ⟨rfl, HLP.out.below.trans ((At.below_alloc _).mono HLP.out.below.size)⟩
          · have hse' : (s == ([] : List UInt8)) = false := by simpa using hse
            by_cases h10 : 10 < ats.length
            · have h10' : (ats.length : Int) > 10 := by omega
              go_wp2
              go_ret
              exact ⟨rfl, HLP.out.below.trans ((At.below_alloc _).mono HLP.out.below.size)⟩
            · have h10' : ¬ (ats.length : Int) > 10 := by omega
              obtain ⟨W1, hW1⟩ : ∃ W1, wr.alloc (.cells #[.int .i64 d, .int .i64 n, .string ⟨s.toArray⟩, .slice aa ats.length ca] 37) = W1 := ⟨_, rfl⟩
              have hA : Below wr.heap.size wr W1 := by rw [← hW1]; exact At.below_alloc _
              have hg : Bx wr.heap.size #[.int .i64 d, .int .i64 n, .string ⟨s.toArray⟩, .slice aa ats.length ca] 37 W1 := by rw [← hW1]; exact bx_new wr _ 37
              have hGl := HLP.out.box.lt
              have hl1 := HLP.out.more hA
              obtain ⟨x0, y0, x1, y1, x2, y2, x3, y3, rfl, rfl, rfl, rfl⟩ := hl1.ra.vals (n := L.length) (List.length_map ..)
              obtain ⟨au, cu, rfl, -⟩ := hl1.want.slice
              have q0 := hl1.box.cell 0
              have q1 := hl1.box.cell 1
              have q2 := hl1.box.cell 2
              have q3 := hl1.box.cell 3
              have q4 := hl1.box.cell 4
              have g0 := hg.cell 0
              have g1 := hg.cell 1
              have g2 := hg.cell 2
              have g3 := hg.cell 3
              have hw1 : Below w.heap.size w W1 := hl1.below
              have cE := relem0 hl1.ra hw1.size s ats aa ca (Sl.below HSL.out.1 hw1) HSL.out.2 (by have := hl1.all; omega)
              have HL1 := Lib.hid hl1
              have HGL := Lib.hid hGl
              have HG1 := Lib.hid hg
              clear hl1 hg hA hGl hw1
              obtain ⟨zz, hz⟩ : ∃ zz : Nat, max n (wrap64 (-wrap64 (n + 1))) = (zz : Int) := by
                have := HN.out
                refine ⟨(max n (wrap64 (-wrap64 (n + 1)))).toNat, (Int.toNat_of_nonneg ?_).symm⟩
                unfold wrap64
                omega
              obtain ⟨i, hi⟩ : ∃ i : Nat, zz % (E.length + 1) = i := ⟨_, rfl⟩
              have hil : i ≤ E.length := by have := Nat.mod_lt zz (show 0 < E.length + 1 by omega); omega
              have hEl : E.length ≤ 40 := by have := HLP.out.len; omega
              have hW : wrap64 ((E.length : Int) + 1) = ((E.length + 1 : Nat) : Int) := by
                unfold wrap64
                omega
              have hkq : (zz : Int) % ((E.length + 1 : Nat) : Int) = (i : Int) := by rw [← hi]; omega
              have HIL := Lib.hid hil
              have HEL := Lib.hid hEl
              clear hil hEl hi HN
              go_wp2_with fail
              rw [show (zz : Int) % ((E.length : Int) + 1) = (i : Int) from hkq]
              refine cE.mono ?_
              rintro e w5 ⟨N, A0, C0, A1, C1, A2, C2, A3, C3, rfl, hr5, hb5, hf5⟩
              obtain ⟨W6, hW6⟩ : ∃ W6, w5.alloc (.cells #[.slice A0 N C0, .slice A1 N C1, .slice A2 N C2, .slice A3 N C3, .int .i64 0] 31) = W6 := ⟨_, rfl⟩
              have bN : Bx w5.heap.size #[.slice A0 N C0, .slice A1 N C1, .slice A2 N C2, .slice A3 N C3, .int .i64 0] 31 W6 := by rw [← hW6]; exact bx_new w5 _ 31
              have hA6 : Below w5.heap.size w5 W6 := by rw [← hW6]; exact At.below_alloc _
              have hb6 : Below W1.heap.size W1 W6 := hb5.trans (hA6.mono hb5.size)
              have n0 := bN.cell 0
              have n1 := bN.cell 1
              have n2 := bN.cell 2
              have n3 := bN.cell 3
              have n4 := bN.cell 4
              have bx6 := HL1.out.box.below hb6
              have m0 := bx6.cell 0
              have m1 := bx6.cell 1
              have m2 := bx6.cell 2
              have m3 := bx6.cell 3
              have m4 := bx6.cell 4
              have y0 := bx6.fr 0
              have y1 := bx6.fr 1
              have y2 := bx6.fr 2
              have y3 := bx6.fr 3
              have y4 := bx6.fr 4
              obtain ⟨W7, hW7⟩ : ∃ W7, ((((W6.setCell ⟨G, 0, none⟩ (.slice A0 N C0)).setCell ⟨G, 1, none⟩ (.slice A1 N C1)).setCell ⟨G, 2, none⟩ (.slice A2 N C2)).setCell ⟨G, 3, none⟩ (.slice A3 N C3)).setCell ⟨G, 4, none⟩ (.int .i64 0) = W7 := ⟨_, rfl⟩
              have hap : Apart (.slice A3 N C3) v := by
                cases ho : (Value.slice A3 N C3).ownBlock with
                | none => exact Or.inl ho
                | some g =>
                  refine Or.inr fun e => ?_
                  have h1 := hf5 g ho
                  have h2 := (HL1.out.st.lr.row.lt g (by rw [← e, ho])).2
                  omega
              have hst := Lq.store HL1.out.lq hb6 (Nat.le_trans hwB hBg) (Nat.le_trans hwB hBg) (hr5.below hA6) hap hW7
              have hne : wr.heap.size ≠ G := by have := HGL.out; omega
              have hg7 : Bx wr.heap.size #[.int .i64 d, .int .i64 n, .string ⟨s.toArray⟩, .slice aa ats.length ca] 37 W7 := by
                rw [← hW7]
                exact ((((((HG1.out.below hb6).other hne 0 _).other hne 1 _).other hne 2 _).other hne 3 _).other hne 4 _)
              have HW6 := Lib.hid hW6
              have HW7 := Lib.hid hW7
              have HM7 := Lib.hid hst
              have HG7 := Lib.hid hg7
              clear hst hap hg7 hr5 hf5 hb5 hb6 hA6 bN bx6 cE q0 q1 q2 q3 q4 hW6 hW7
              go_upto_region 17 with fail
              rw [HW6.out]
              have hW7 := HW7.out
              go_wp2_with fail
              have hd7 : Below W7.heap.size W7 W7.drew := below_drew W7
              have hl8 : L.length + 1 ≤ 8000000 := by have := HLP.out.all; omega
              have hx7 := HM7.out.more hd7
              have cO := At.of_any ats aa ca W7.drew (Sl.below HSL.out.1 hx7.below) (by omega)
              have hg8 := HG7.out.below hd7
              have p7 : W7.drew.cell? ⟨wr.heap.size, 2, none⟩ = some (.string ⟨s.toArray⟩) ∧ W7.drew.cell? ⟨wr.heap.size, 3, none⟩ = some (.slice aa ats.length ca) := ⟨hg8.cell 2, hg8.cell 3⟩
              have HX7 := Lib.hid hx7
              have HG8 := Lib.hid hg8
              clear hx7 hg8 hd7 hW7 HW6 HW7 n0 n1 n2 n3 n4 m0 m1 m2 m3 m4 y0 y1 y2 y3 y4 g0 g1 g2 g3 hkq hz hW
              go_region_held3 (fun wx => wx.cell? ⟨wr.heap.size, 2, none⟩ = some (.string ⟨s.toArray⟩) ∧ wx.cell? ⟨wr.heap.size, 3, none⟩ = some (.slice aa ats.length ca))
                (first | with_reducible exact p7 | with_reducible exact p8 | with_reducible exact p9)
                (first
                  | (go_at_call 13; (with_reducible refine cO.mono ?_); rintro e w8 ⟨va, rfl, hoa, hb8⟩; obtain ⟨a8, c8, rfl, hs8⟩ := At.sl_own hoa; have HM8 := Lib.hid (HX7.out.more hb8); have HG8 := Lib.hid (HG8.out.below hb8); have p8 : w8.cell? ⟨wr.heap.size, 2, none⟩ = some (.string ⟨s.toArray⟩) ∧ w8.cell? ⟨wr.heap.size, 3, none⟩ = some (.slice aa ats.length ca) := ⟨HG8.out.cell 2, HG8.out.cell 3⟩; have cE2 := st_elem HM8.out.st s ats a8 c8 hs8 hl8 (by omega); clear hoa hb8 hs8 cO)
                  | (go_at_call 12; (with_reducible refine cE2.mono ?_); rintro e w9 ⟨rfl, sa, vn9, h9, ev9⟩; have HQ9 := Lib.hid (HM8.out.lq hwB hwB h9 ev9); have HG9 := Lib.hid (ev9.bx HM8.out.st.lr.row HG8.out (by decide) (by decide) (by decide) (by decide) (by decide) (by decide)); have p9 : w9.cell? ⟨wr.heap.size, 2, none⟩ = some (.string ⟨s.toArray⟩) ∧ w9.cell? ⟨wr.heap.size, 3, none⟩ = some (.slice aa ats.length ca) := ⟨HG9.out.cell 2, HG9.out.cell 3⟩; clear h9 ev9 cE2))
              go_upto_region 20 with fail
              obtain ⟨qn, hqn⟩ : ∃ qn : QN, (⟨s, ats, sa, -1, [], .slice none 0 0⟩ : QN) = qn := ⟨_, rfl⟩
              obtain ⟨LL, hLL⟩ : ∃ LL, L ++ [qn] = LL := ⟨_, rfl⟩
              have hq9 := HQ9.out
              rw [hqn, hLL] at hq9
              have HLL := Lib.hid (show LL.length = L.length + 1 from by rw [← hLL]; simp)
              have HLN := Lib.hid (show LL[L.length]? = some qn from by rw [← hLL]; simp)
              have HLK := Lib.hid (show L.length = k + 1 from HLP.out.all)
              have HNI := Lib.hid (show ((L.length : Nat) : Int) ∉ E from HLP.out.st.ok.notin L.length (Nat.le_refl _))
              have HON := Lib.hid HLP.out.on
              have HEK := Lib.hid HLP.out.len
              have HQ := Lib.hid hq9
              have hk39 : k + 1 ≤ l.length := hlt
              have HK := Lib.hid hk39
              have g0 := HG9.out.cell 0
              clear hqn hLL HQ9 hq9 HM7 HG7 HX7 HM8 HG8 HL1 HG1 HGL HX HSL p7 p8 p9 hk39 HEL
              go_cut [12] (fun v wx => v = .bool (isB E i) ∧ wx = w9)
              case first =>
                by_cases hi : i < E.length
                · have hi' : (i : Int) < (E.length : Int) := by omega
                  obtain ⟨x, hx⟩ : ∃ x, E[i]? = some x := ⟨_, List.getElem?_eq_getElem hi⟩
                  obtain ⟨bw, rfl, hcw⟩ := HQ.out.ri.cell hx
                  have HI := Lib.hid (isB_at hx)
                  clear hx g0
                  by_cases hx1 : x = -1
                  · subst hx1
                    go_wp2_with fail
                    go_meet
                    exact ⟨by rw [HI.out]; rfl, rfl⟩
                  · have hxb : (x != -1) = true := bne_iff_ne.2 hx1
                    go_wp2_with fail
                    go_meet
                    exact ⟨by rw [HI.out, hxb], rfl⟩
                · have hi' : ¬ ((i : Int) < (E.length : Int)) := by omega
                  have HI := Lib.hid (isB_end (E := E) (i := i) (by omega))
                  clear g0
                  go_wp2_with fail
                  go_meet
                  exact ⟨by rw [HI.out], rfl⟩
              case rest =>
                obtain ⟨rfl, rfl⟩ := hcut
                go_upto_block 2 with fail
                go_cut [6, 12] (fun v _ wx => ∃ E' v', Lp w.heap.size B G w wx R Ls (k + 1) LL E' vn9 v' (.slice A0 N C0) (.slice A1 N C1) (.slice A2 N C2) (.slice A3 N C3) v)
                case first =>
                  by_cases hd0 : d = 0
                  · as_aux_lemma =>
                      subst hd0
                      have cP := st_push HQ.out.st (by have := HEK.out; have := HK.out; omega) L.length qn (by have := HLK.out; omega) HLN.out
                      clear g0
                      go_wp2_with fail
                      refine cP.mono ?_
                      rintro e wa ⟨rfl, va, ha, eva⟩
                      have hqa := HQ.out.ev hwB hwB ha eva
                      clear cP ha eva
                      have q0 := hqa.box.cell 0
                      have q1 := hqa.box.cell 1
                      have q2 := hqa.box.cell 2
                      have q3 := hqa.box.cell 3
                      have q4 := hqa.box.cell 4
                      have cR : Calls Try.prog 15 #[.agg #[.slice A0 N C0, .slice A1 N C1, .slice A2 N C2, .slice A3 N C3, .int .i64 0], .slice au E.length cu, .int .i64 (L.length : Int)] wa _ := rpush_any hqa.ra 0 E au cu hqa.ri (by have := HEK.out; have := HK.out; omega) HQ.out.st.ok HQ.out.st.hal L.length qn HLN.out
                      replace hqa := Lib.hid hqa
                      go_wp2_with fail
                      refine cR.mono ?_
                      rintro e wb ⟨ub, rfl, hub, hbb⟩
                      have hf := Lib.hid (hqa.out.fresh (Nat.le_trans hwB hqa.out.st.hB) hbb hub)
                      clear hub hbb cR
                      clear q0 q1 q2 q3 q4
                      go_wp2_with fail
                      go_meet
                      exact ⟨_, _, hf.out.lp (HON.out.psh HNI.out LL qn) (psh_length_le LL qn E L.length k HEK.out) (by rw [HLL.out, HLK.out])⟩
                  by_cases hd1 : d = 1
                  · as_aux_lemma =>
                      subst hd1
                      have cP := st_mark HQ.out.st (by have := HEK.out; have := HK.out; omega)
                      clear g0
                      go_wp2_with fail
                      refine cP.mono ?_
                      rintro e wa ⟨rfl, va, ha, eva⟩
                      have hqa := HQ.out.ev hwB hwB ha eva
                      clear cP ha eva
                      obtain ⟨v1, u1, v2, u2, r1, r2, hub, hbb⟩ := copy_push hqa.ri (by have := HEK.out; have := HK.out; omega) (-1)
                      have hf := Lib.hid (hqa.fresh (Nat.le_trans hwB hqa.st.hB) hbb hub)
                      have R1 := Lib.hid r1
                      have R2 := Lib.hid r2
                      replace hqa := Lib.hid hqa
                      clear r1 r2 hub hbb
                      go_wp2_with (at_builtin; first
                        | (refine Lib.wpList_append_run _ rfl (.tmp 114) (.tmp 115) 29 29 rfl _ _ rfl rfl _ u1 R1.out ?_)
                        | (refine Lib.wpList_append_run _ rfl (.tmp 116) (.tmp 117) 29 29 rfl _ _ rfl rfl _ u2 R2.out ?_))
                      go_meet
                      exact ⟨_, _, hf.out.lp HON.out.mark (by have := HEK.out; simp; omega) (by rw [HLL.out, HLK.out])⟩
                  by_cases hd2 : d = 2
                  · as_aux_lemma =>
                      subst hd2
                      have cP := st_clear HQ.out.st (by have := HEK.out; have := HK.out; omega)
                      clear g0
                      go_wp2_with fail
                      refine cP.mono ?_
                      rintro e wa ⟨rfl, va, ha, eva⟩
                      have hqa := HQ.out.ev hwB hwB ha eva
                      clear cP ha eva
                      have cR := rclear_any E au cu wa hqa.ri (by have := HEK.out; have := HK.out; omega)
                      obtain ⟨T, hT⟩ : ∃ T, E.take (clrN E) = T := ⟨_, rfl⟩
                      rw [hT] at cR
                      replace hqa := hqa.take (clrN E) (clrN_le E)
                      rw [hT] at hqa
                      have HON2 := Lib.hid (show On T from by rw [← hT]; exact HON.out.sub (List.take_sublist _ _))
                      have HEK2 := Lib.hid (show T.length ≤ k + 1 from by have := HEK.out; rw [← hT, List.length_take]; omega)
                      replace hqa := Lib.hid hqa
                      clear hT
                      go_wp2_with fail
                      refine cR.mono ?_
                      rintro e wb ⟨rfl, hbb⟩
                      have hf := Lib.hid (hqa.out.more hbb)
                      clear hbb cR
                      go_wp2_with fail
                      go_meet
                      exact ⟨T, _, hf.out.lp (HON2.out) (HEK2.out) (by rw [HLL.out, HLK.out])⟩
                  by_cases hd3 : d = 3
                  · as_aux_lemma =>
                      subst hd3
                      by_cases his : isB E i = true
                      · obtain ⟨x, hx, hx1⟩ := isB_yes his
                        have hil : i < E.length := (List.getElem?_eq_some_iff.1 hx).1
                        have hi' : (i : Int) < (E.length : Int) := by omega
                        obtain ⟨bw, rfl, hcw⟩ := HQ.out.ri.cell hx
                        have HX := Lib.hid (show _ ∧ _ ∧ _ from ⟨hx, hx1, hil⟩)
                        rw [his]
                        clear hx hx1 hil his
                        have cP := st_remove HQ.out.st (by have := HEK.out; have := HK.out; omega) x
                        rw [rmv_at HON.out HX.out.1 HX.out.2.1] at cP
                        clear g0
                        go_wp2_with fail
                        refine cP.mono ?_
                        rintro e wa ⟨rfl, va, ha, eva⟩
                        have hqa := HQ.out.ev hwB hwB ha eva
                        clear cP ha eva
                        have cR := without_any E (some ⟨bw, 0, none⟩) cu wa hqa.ri (by have := HEK.out; have := HK.out; omega) i HX.out.2.2
                        replace hqa := Lib.hid hqa
                        go_wp2_with fail
                        refine cR.mono ?_
                        rintro e wb ⟨ub, rfl, hub, hbb⟩
                        have hf := Lib.hid (hqa.out.fresh (Nat.le_trans hwB hqa.out.st.hB) hbb hub)
                        clear hub hbb cR
                        go_wp2_with fail
                        go_meet
                        exact ⟨_, _, hf.out.lp (HON.out.sub (List.eraseIdx_sublist _ _)) (eraseIdx_le E i (k + 1) (Nat.le_succ_of_le HEK.out)) (by rw [HLL.out, HLK.out])⟩
                      · have his' : isB E i = false := by simpa using his
                        rw [his']
                        clear his his'
                        have cP := st_remove HQ.out.st (by have := HEK.out; have := HK.out; omega) (L.length : Int)
                        rw [rmv_none HNI.out] at cP
                        clear g0
                        go_wp2_with fail
                        refine cP.mono ?_
                        rintro e wa ⟨rfl, va, ha, eva⟩
                        have hqa := HQ.out.ev hwB hwB ha eva
                        clear cP ha eva
                        replace hqa := Lib.hid hqa
                        go_wp2_with fail
                        go_meet
                        exact ⟨_, _, hqa.out.lp (HON.out) (Nat.le_succ_of_le HEK.out) (by rw [HLL.out, HLK.out])⟩
                  by_cases hd4 : d = 4
                  · as_aux_lemma =>
                      subst hd4
                      by_cases his : isB E i = true
                      · obtain ⟨x, hx, hx1⟩ := isB_yes his
                        have hil : i < E.length := (List.getElem?_eq_some_iff.1 hx).1
                        have hi' : (i : Int) < (E.length : Int) := by omega
                        obtain ⟨bw, rfl, hcw⟩ := HQ.out.ri.cell hx
                        have HX := Lib.hid (show _ ∧ _ ∧ _ from ⟨hx, hx1, hil⟩)
                        rw [his]
                        clear hx hx1 hil his
                        have cP := st_replace HQ.out.st (by have := HEK.out; have := HK.out; omega) x (L.length : Int) (by have := HLK.out; have := HLL.out; omega)
                        rw [rpl_at HON.out HX.out.1 HX.out.2.1] at cP
                        clear g0
                        go_wp2_with fail
                        refine cP.mono ?_
                        rintro e wa ⟨rfl, va, ha, eva⟩
                        have hqa := HQ.out.ev hwB hwB ha eva
                        clear cP ha eva
                        have cR := without_any E (some ⟨bw, 0, none⟩) cu wa hqa.ri (by have := HEK.out; have := HK.out; omega) i HX.out.2.2
                        replace hqa := Lib.hid hqa
                        go_wp2_with fail
                        refine cR.mono ?_
                        rintro e wb ⟨ub, rfl, hub, hbb⟩
                        have hf := Lib.hid (hqa.out.fresh (Nat.le_trans hwB hqa.out.st.hB) hbb hub)
                        clear hub hbb cR
                        obtain ⟨ab, cb, rfl, -⟩ := hf.out.want.slice
                        have cQ := rinsert_any (E.eraseIdx i) ab cb wb hf.out.ri hf.out.want.ha (by have := List.length_eraseIdx_le E i; have := HEK.out; have := HK.out; omega) i (by have := List.length_eraseIdx_of_lt HX.out.2.2; have := HX.out.2.2; omega) (L.length : Int)
                        go_wp2_with fail
                        refine cQ.mono ?_
                        rintro e wd ⟨ud, rfl, hud, hbd⟩
                        have hg := Lib.hid (hf.out.fresh (Nat.le_trans hwB hf.out.st.hB) hbd hud)
                        clear hud hbd cQ
                        go_wp2_with fail
                        go_meet
                        exact ⟨_, _, hg.out.lp ((HON.out.sub (List.eraseIdx_sublist _ _)).ins (fun hm => HNI.out (List.mem_of_mem_eraseIdx hm)) i) (show (ins (E.eraseIdx i) i (L.length : Int)).length ≤ k + 1 from by have := List.length_eraseIdx_of_lt HX.out.2.2; have := HX.out.2.2; rw [ins_length _ (by omega)]; have := HEK.out; omega) (by rw [HLL.out, HLK.out])⟩
                      · have his' : isB E i = false := by simpa using his
                        rw [his']
                        clear his his'
                        have cP := st_replace HQ.out.st (by have := HEK.out; have := HK.out; omega) (L.length : Int) (L.length : Int) (by have := HLK.out; have := HLL.out; omega)
                        rw [rpl_none HNI.out] at cP
                        clear g0
                        go_wp2_with fail
                        refine cP.mono ?_
                        rintro e wa ⟨rfl, va, ha, eva⟩
                        have hqa := HQ.out.ev hwB hwB ha eva
                        clear cP ha eva
                        replace hqa := Lib.hid hqa
                        go_wp2_with fail
                        go_meet
                        exact ⟨_, _, hqa.out.lp (HON.out) (Nat.le_succ_of_le HEK.out) (by rw [HLL.out, HLK.out])⟩
                  as_aux_lemma =>
                    have hd0b : (d == 0) = false := beq_eq_false_iff_ne.2 hd0
                    have hd1b : (d == 1) = false := beq_eq_false_iff_ne.2 hd1
                    have hd2b : (d == 2) = false := beq_eq_false_iff_ne.2 hd2
                    have hd3b : (d == 3) = false := beq_eq_false_iff_ne.2 hd3
                    have hd4b : (d == 4) = false := beq_eq_false_iff_ne.2 hd4
                    clear hd0 hd1 hd2 hd3 hd4
                    have cP := st_insert HQ.out.st (by have := HEK.out; have := HK.out; omega) i HIL.out (L.length : Int) (by have := HLK.out; have := HLL.out; omega)
                    clear g0
                    go_wp2_with fail
                    refine cP.mono ?_
                    rintro e wa ⟨rfl, va, ha, eva⟩
                    have hqa := HQ.out.ev hwB hwB ha eva
                    clear cP ha eva
                    have cR := rinsert_any E au cu wa hqa.ri hqa.want.ha (by have := HEK.out; have := HK.out; omega) i HIL.out (L.length : Int)
                    replace hqa := Lib.hid hqa
                    go_wp2_with fail
                    refine cR.mono ?_
                    rintro e wb ⟨ub, rfl, hub, hbb⟩
                    have hf := Lib.hid (hqa.out.fresh (Nat.le_trans hwB hqa.out.st.hB) hbb hub)
                    clear hub hbb cR
                    go_wp2_with fail
                    go_meet
                    exact ⟨_, _, hf.out.lp (HON.out.ins HNI.out i) (show (ins E i (L.length : Int)).length ≤ k + 1 from by rw [ins_length _ HIL.out]; have := HEK.out; omega) (by rw [HLL.out, HLK.out])⟩
                case rest =>
                  as_aux_lemma =>
                    obtain ⟨E', v', hp⟩ := hcut
                    clear HQ HON HEK HNI HIL HLN g0 HG9 HLP
                    obtain ⟨wo, rfl⟩ : ∃ wo, wo = wr := ⟨_, rfl⟩
                    have hll : LL.length = k + 1 + 1 := by have := HLL.out; have := HLK.out; omega
                    have hel : E'.length ≤ 1000000 := by have := hp.len; omega
                    obtain ⟨a6, c6, rfl, -⟩ := hp.want.slice
                    have cA := all_any hp.st.lr (by omega)
                    have HP := Lib.hid hp
                    have HEL := Lib.hid hel
                    clear hp hel hll
                    go_wp2_with fail
                    refine cA.mono ?_
                    rintro e wa ⟨ua, rfl, hua, hba⟩
                    have hpa := HP.out.more hba
                    obtain ⟨aa2, ca2, rfl, hri⟩ := hua.ri
                    have cS := same_self E' aa2 a6 ca2 c6 wa hri hpa.lq.ri HEL.out
                    replace hpa := Lib.hid hpa
                    clear hua hri hba cA
                    go_wp2_with fail
                    refine cS.mono ?_
                    rintro e ws ⟨rfl, hbs⟩
                    have HPS := Lib.hid (hpa.out.more hbs)
                    clear hpa hbs HP cS
                    go_wp2
                    go_loopw [13] (fun x wr => ∃ j : Nat, x = .int .i64 (j : Int) ∧ 1 ≤ j ∧ j ≤ L.length + 1 ∧ Below ws.heap.size ws wr) (fun x _ => L.length + 1 - (RowKit.intOf x).toNat)
                    case atStart => exact ⟨1, rfl, Nat.le_refl _, by omega, Below.refl _ _⟩
                    case round =>
                      obtain ⟨j, rfl, hj1, hj, hbj⟩ := hrel
                      by_cases hjl : j ≤ L.length
                      · have hjI : (j : Int) ≤ (L.length : Int) := by omega
                        have hpj := HPS.out.more hbj
                        obtain ⟨P, hP⟩ : ∃ P, plc E' (j : Int) = P := ⟨_, rfl⟩
                        have cF := find_any hpj.st.lr HEL.out (j : Int)
                        rw [hP] at cF
                        have HPJ := Lib.hid hpj
                        have HJ := Lib.hid (show _ ∧ _ from ⟨hjl, hbj⟩)
                        have HPP := Lib.hid hP
                        clear hpj hj1 hj hjl hbj hP
                        go_wp2_with fail
                        refine cF.mono ?_
                        rintro e wf ⟨rfl, hbf⟩
                        have hpf := HPJ.out.more hbf
                        have cG := rfind_any E' a6 c6 wf hpf.lq.ri HEL.out hpf.on.once (j : Int) (by omega)
                        rw [HPP.out] at cG
                        have HBF := Lib.hid (below_trans HJ.out.2 hbf)
                        clear hpf hbf cF
                        go_wp2_with fail
                        refine cG.mono ?_
                        rintro e wg ⟨rfl, hbg⟩
                        have HBG := Lib.hid (below_trans HBF.out hbg)
                        clear hbg cG
                        go_wp2
                        go_roundw
                        case rel => exact ⟨j + 1, by go_num, by omega, by have := HJ.out.1; omega, HBG.out⟩
                        case measure => have := HJ.out.1; simp [RowKit.intOf]; omega
                      · have hjI : ¬ ((j : Int) ≤ (L.length : Int)) := by omega
                        have HPW := Lib.hid (HPS.out.more hbj)
                        clear hj1 hj hjl hbj HPS
                        obtain ⟨wt, hwt⟩ : ∃ wt, wt = wr := ⟨_, rfl⟩
                        subst hwt
                        go_wp2
                        go_loopw [179] (fun x wr => ∃ t : Nat, x = .int .i64 (t : Int) ∧ t ≤ l.length ∧ Below wt.heap.size wt wr) (fun x _ => l.length - (RowKit.intOf x).toNat)
                        case atStart => exact ⟨0, rfl, Nat.zero_le _, Below.refl _ _⟩
                        case round =>
                          obtain ⟨t, rfl, ht, hbt⟩ := hrel
                          by_cases htl : t < l.length
                          · have htI : (t : Int) < (l.length : Int) := by omega
                            obtain ⟨y, hy⟩ : ∃ y, l[t]? = some y := ⟨_, List.getElem?_eq_getElem htl⟩
                            obtain ⟨ay, cy, p0, p1, p2, p3, -, -, -⟩ := hat t y hy
                            have hpt := HPW.out.more hbt
                            have up : ∀ (j : Nat) (z : Value), w.cell? ⟨b, j, none⟩ = some z → wr.cell? ⟨b, j, none⟩ = some z := fun j z hz => (hpt.below.cell (p := ⟨b, j, none⟩) (World.block_lt_of_cell? w _ hz)).trans hz
                            have z0 := up _ _ p0
                            have z1 := up _ _ p1
                            have z2 := up _ _ p2
                            have z3 := up _ _ p3
                            obtain ⟨yd, yn, ys, yat⟩ := y
                            simp only at z0 z1 z2 z3
                            clear p0 p1 p2 p3 up hy
                            obtain ⟨W1, hW1⟩ : ∃ W1, wr.alloc (.cells #[.int .i64 yd, .int .i64 yn, .string ⟨ys.toArray⟩, .slice ay yat.length cy] 37) = W1 := ⟨_, rfl⟩
                            have hA : Below wr.heap.size wr W1 := by rw [← hW1]; exact At.below_alloc _
                            have hg : Bx wr.heap.size #[.int .i64 yd, .int .i64 yn, .string ⟨ys.toArray⟩, .slice ay yat.length cy] 37 W1 := by rw [← hW1]; exact bx_new wr _ 37
                            have hp1 := hpt.more hA
                            have HT := Lib.hid (show _ ∧ _ from ⟨htl, below_trans hbt hA⟩)
                            have k2 := hg.cell 2
                            have HGY := Lib.hid hg
                            have cL := last_any hp1.st.ar hp1.st.lr hp1.st.ok HEL.out ys
                            have HP1 := Lib.hid hp1
                            clear hpt hbt hA hg hp1 ht htl
                            cases hls : lst LL E' ys with
                            | none =>
                              have HR := Lib.hid (show rlast LL E' ys = -1 from by unfold rlast; rw [hls])
                              rw [hls] at cL
                              replace cL : Calls Try.prog 28 #[.pointer (some ⟨Ls, 0, none⟩), .string ⟨ys.toArray⟩] W1 fun e w' => e = .returned (.tuple #[.int .i64 0, .bool false]) ∧ Below W1.heap.size W1 w' := cL
                              clear hls
                              go_wp2_with fail
                              refine cL.mono ?_
                              rintro e wl ⟨rfl, hbl⟩
                              have hpl := HP1.out.more hbl
                              have cM : Calls Try.prog 29 #[.agg #[.slice A0 N C0, .slice A1 N C1, .slice A2 N C2, .slice A3 N C3, .int .i64 0], .slice a6 E'.length c6, .string ⟨ys.toArray⟩] wl _ := rlast_any hpl.ra 0 E' a6 c6 hpl.lq.ri HEL.out hpl.st.ok ys
                              rw [HR.out] at cM
                              have q0 := hpl.box.cell 0
                              have q1 := hpl.box.cell 1
                              have q2 := hpl.box.cell 2
                              have q3 := hpl.box.cell 3
                              have q4 := hpl.box.cell 4
                              have k2' := (HGY.out.below hbl).cell 2
                              have HBL := Lib.hid (below_trans HT.out.2 hbl)
                              clear hbl cL hpl k2 hW1
                              go_wp2_with fail
                              refine cM.mono ?_
                              rintro e wm ⟨rfl, hbm⟩
                              have HBM := Lib.hid (below_trans HBL.out hbm)
                              clear hbm cM q0 q1 q2 q3 q4 k2'
                              go_wp2
                              go_roundw
                              case rel => exact ⟨t + 1, by go_num, HT.out.1, HBM.out⟩
                              case measure => have := HT.out.1; simp [RowKit.intOf]; omega
                            | some pp =>
                              obtain ⟨PP, hPP⟩ : ∃ PP, pp.2 = PP := ⟨_, rfl⟩
                              have hpos : 0 < PP := by rw [← hPP]; exact lst_pos HP1.out.st.ok hls
                              have HR := Lib.hid (show rlast LL E' ys = PP from by unfold rlast; rw [hls, ← hPP])
                              rw [hls] at cL
                              replace cL : Calls Try.prog 28 #[.pointer (some ⟨Ls, 0, none⟩), .string ⟨ys.toArray⟩] W1 fun e w' => e = .returned (.tuple #[.int .i64 PP, .bool true]) ∧ Below W1.heap.size W1 w' := by rw [← hPP]; exact cL
                              have hpge : PP ≥ 0 := by omega
                              have hpmx : max PP 0 = PP := by omega
                              clear hls hPP hpos
                              go_wp2_with fail
                              refine cL.mono ?_
                              rintro e wl ⟨rfl, hbl⟩
                              have hpl := HP1.out.more hbl
                              have cM : Calls Try.prog 29 #[.agg #[.slice A0 N C0, .slice A1 N C1, .slice A2 N C2, .slice A3 N C3, .int .i64 0], .slice a6 E'.length c6, .string ⟨ys.toArray⟩] wl _ := rlast_any hpl.ra 0 E' a6 c6 hpl.lq.ri HEL.out hpl.st.ok ys
                              rw [HR.out] at cM
                              have q0 := hpl.box.cell 0
                              have q1 := hpl.box.cell 1
                              have q2 := hpl.box.cell 2
                              have q3 := hpl.box.cell 3
                              have q4 := hpl.box.cell 4
                              have k2' := (HGY.out.below hbl).cell 2
                              have HBL := Lib.hid (below_trans HT.out.2 hbl)
                              clear hbl cL hpl k2 hW1
                              go_wp2_with fail
                              refine cM.mono ?_
                              rintro e wm ⟨rfl, hbm⟩
                              have HBM := Lib.hid (below_trans HBL.out hbm)
                              clear hbm cM q0 q1 q2 q3 q4 k2'
                              go_wp2
                              go_roundw
                              case rel => exact ⟨t + 1, by go_num, HT.out.1, HBM.out⟩
                              case measure => have := HT.out.1; simp [RowKit.intOf]; omega
                          · obtain rfl : t = l.length := by omega
                            have htI : ¬ ((l.length : Int) < (l.length : Int)) := by omega
                            have hpt := Lib.hid (HPW.out.more hbt)
                            clear hbt ht
                            go_wp2
                            go_roundw
                            case rel => exact ⟨k + 1, by go_num, HK.out, _, _, _, _, _, _, _, _, hpt.out⟩
                            case measure => have := HK.out; simp [RowKit.intOf]; omega
      · have hlt' : ¬ ((k : Int) < (l.length : Int)) := by omega
        have HB := Lib.hid hl.below
        clear hl
        go_wp2
        go_ret
        exact ⟨rfl, HB.out⟩
end Go.Proofs.Ytnnidajflnandaa
