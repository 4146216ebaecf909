/- The law TagNames, walked. -/
import Derived.Test.YtfnecdifaodamaaDoorTgNmA
namespace Go.Proofs.YtfnecdifaodamaaDoor.Tg
open Go.RowKit Go.Lib
open Ch (at0 nx nx_width nx_range at0_lt at0_drop enc_len Sl Sl.below Cells good nx_good nx_enc enc_bytes info5)
open Kl (blankN greatN)
open At (cellsA ads names below_trans Seen)

variable {l : List UInt8} {a : Option Addr} {cap : Nat} {w w' : World}

set_option maxHeartbeats 1000000 in
set_option maxRecDepth 100000 in
theorem tagNames_long (n n2 : Nat) (a a2 : Option Addr) (cap cap2 : Nat) (w : World) (hT : Tb w) (h : 300 < n ∨ 300 < n2) :
    Calls Tryd.prog 4 #[.slice a n cap, .slice a2 n2 cap2] w fun e w' => e = .returned (.bool true) ∧ Below w.heap.size w w' := by
  by_cases h1 : (300 : Int) < (n : Int)
  · go_enter Tryd.func4, Tryd.ntmps4
    go_wp2_with fail
    refine (tspeaks_any w hT).mono ?_
    rintro e w1 ⟨rfl, hb1⟩
    go_wp2_with fail
    refine (tspeaks_any w1 (hT.below hb1)).mono ?_
    rintro e w2 ⟨rfl, hb2⟩
    go_wp2
    go_ret
    exact ⟨rfl, below_trans hb1 hb2⟩
  · have h2 : (300 : Int) < (n2 : Int) := by omega
    go_enter Tryd.func4, Tryd.ntmps4
    go_wp2_with fail
    refine (tspeaks_any w hT).mono ?_
    rintro e w1 ⟨rfl, hb1⟩
    go_wp2_with fail
    refine (tspeaks_any w1 (hT.below hb1)).mono ?_
    rintro e w2 ⟨rfl, hb2⟩
    go_wp2
    go_ret
    exact ⟨rfl, below_trans hb1 hb2⟩

def ItRel (N : List UInt8) (Q : Nat → Prop) (W : World) (gf : Nat) (wr : World) : Prop :=
  ∃ pos : Nat, wr.heap[W.heap.size]? = some (.stringIter ⟨N.toArray⟩ pos) ∧ Below W.heap.size W wr ∧ Chs Q (N.drop pos) ∧ N.length ≤ pos + gf

def It2Rel (N : List UInt8) (W : World) (gf : Nat) (wr : World) : Prop :=
  ∃ pos : Nat, wr.heap[W.heap.size]? = some (.stringIter ⟨N.toArray⟩ pos) ∧ Below W.heap.size W wr ∧ (pos = 0 ∨ (0 < pos ∧ Chs OkA (N.drop pos))) ∧ N.length ≤ pos + gf

set_option maxHeartbeats 8000000 in
set_option maxRecDepth 100000 in
theorem tagNames_walk (l m : List UInt8) (a a2 : Option Addr) (cap cap2 : Nat) (w : World) (hs : Sl l a cap w) (hs2 : Sl m a2 cap2 w) (hn2 : a2 = none → cap2 = 0) (hT : Tb w) (hl : l.length ≤ 300) (hm : m.length ≤ 300) :
    Calls Tryd.prog 4 #[.slice a l.length cap, .slice a2 m.length cap2] w fun e w' => e = .returned (.bool true) ∧ Below w.heap.size w w' := by
  have h1 : ¬ ((300 : Int) < (l.length : Int)) := by omega
  have h2 : ¬ ((300 : Int) < (m.length : Int)) := by omega
  by_cases h0 : bgAt l 0 = 0
  · have HTK := Lib.hid (none_tk h0)
    have H0 := Lib.hid h0
    clear h0
    go_enter Tryd.func4, Tryd.ntmps4
    go_wp2_with fail
    refine (tspeaks_any w hT).mono ?_
    rintro e w1 ⟨rfl, hb1⟩
    go_wp2_with fail
    refine (read_on 0 (hs.below hb1) (hT.below hb1) (by omega)).mono ?_
    rintro e w2 ⟨s, rfl, ho2, hb2⟩
    rw [HTK.out] at ho2 ⊢
    rw [H0.out]
    obtain ⟨a5, cap5, rfl, -⟩ := At.sl_own ho2
    unfold tokV
    simp only
    have HB2 := Lib.hid (below_trans hb1 hb2)
    clear ho2 hb1 hb2
    go_wp2
    go_ret
    exact ⟨rfl, HB2.out.alloc HB2.out.size _⟩
  have hne : l ≠ [] := by
    rintro rfl
    exact h0 rfl
  have hbg0 : bg l ≠ 0 := by
    intro k
    apply h0
    have := List.length_pos_iff.2 hne
    unfold bgAt
    rw [if_pos (by omega)]
    exact k
  cases htr : tr l with
  | none =>
    obtain ⟨htk, hbb⟩ := open_tk hbg0 hne htr
    have HTK := Lib.hid htk
    have HD := Lib.hid (decide_eq_true h0 : decide (bgAt l 0 ≠ 0) = true)
    clear htk hbb h0 hbg0 htr
    go_enter Tryd.func4, Tryd.ntmps4
    go_wp2_with fail
    refine (tspeaks_any w hT).mono ?_
    rintro e w1 ⟨rfl, hb1⟩
    go_wp2_with fail
    refine (read_on 0 (hs.below hb1) (hT.below hb1) (by omega)).mono ?_
    rintro e w2 ⟨s, rfl, ho2, hb2⟩
    rw [HTK.out] at ho2 ⊢
    rw [HD.out]
    obtain ⟨a5, cap5, rfl, -⟩ := At.sl_own ho2
    unfold tokV
    simp only
    have HB2 := Lib.hid (below_trans hb1 hb2)
    clear ho2 hb1 hb2
    go_wp2
    go_ret
    exact ⟨rfl, HB2.out.alloc HB2.out.size _⟩
  | some p =>
    obtain ⟨L0, e0⟩ := p
    obtain ⟨htk, hbb⟩ := whole_tk hbg0 hne htr
    have hst := tr_stab hbg0 htr
    have hbg3 := bg_le l
    have hagain : tkAt (l.take e0 ++ m) 0 = tkAt l 0 ∧ bgAt (l.take e0 ++ m) 0 ≠ 0 := by
      obtain ⟨q1, q2, q3⟩ := hst.2.2.2 m
      have hne2 : l.take e0 ++ m ≠ [] := by
        intro k
        rw [k] at q1
        exact hbg0 (by rw [← q1]; rfl)
      have := whole_tk (by rw [q1]; exact hbg0) hne2 q3
      rw [q1, q2] at this
      exact ⟨this.1.trans htk.symm, by rw [this.2]; exact hbg0⟩
    have hOK : (∀ x ∈ (if bg l = 1 then ads L0 else []), NameOk x.1 ∧ NoZ x.2 ∧ x.1.length ≤ 2000 ∧ x.2.length ≤ 2000) ∧ (names (if bg l = 1 then ads L0 else [])).Nodup ∧ (if bg l = 1 then ads L0 else []).length ≤ 300 := by
      have q1 := tr_ok htr
      have q2 := tr_names htr
      have q3 := tr_bd htr
      have q5 := tr_values htr
      have q4 := ads_len L0
      by_cases hb1 : bg l = 1
      · rw [if_pos hb1]
        exact ⟨fun x hx => ⟨(q1.1 x hx).1, (q1.1 x hx).2, by have := q2 x hx; omega, by have := q5 x hx; omega⟩, q1.2, by omega⟩
      · rw [if_neg hb1]
        exact ⟨fun x hx => (by cases hx), List.nodup_nil, by simp⟩
    have hNe := tn_ne hbg0
    have hNc := tn_chs l
    have hD : decide (bgAt l 0 ≠ 0) = true := decide_eq_true h0
    generalize (if bg l = 1 then ads L0 else []) = L at htk hOK
    generalize tn l = N at htk hNe hNc
    have he1 := hst.1
    have he2 := hst.2.1
    have he3 := hst.2.2.1
    obtain ⟨K, hK⟩ : ∃ K, bg l + 1 = K := ⟨_, rfl⟩
    rw [hK] at htk
    obtain ⟨e1, rfl⟩ : ∃ e1, e0 = e1 + 1 := ⟨e0 - 1, by omega⟩
    rw [Int.natCast_succ] at htk
    have hK1 : ((K : Int) == 0) = false := by simp; omega
    obtain ⟨hcap, hz | ⟨b, off, rfl, hc⟩⟩ := hs
    · exact absurd hz hne
    have hs : Sl l (some ⟨b, off, none⟩) cap w := ⟨hcap, Or.inr ⟨b, off, rfl, hc⟩⟩
    have HS := Lib.hid hs
    have HS2 := Lib.hid hs2
    have HTK := Lib.hid htk
    have HD := Lib.hid hD
    have HAG := Lib.hid hagain
    have HOK := Lib.hid hOK
    have HNE := Lib.hid hNe
    have HNC := Lib.hid hNc
    have HT := Lib.hid hT
    have HE3 := Lib.hid he3
    have hLl : L.length ≤ 300 := hOK.2.2
    have t1 : ¬ (((e1 : Int) + 1) < 3) := by omega
    have t2 : ¬ ((l.length : Int) < ((e1 : Int) + 1)) := by omega
    clear hs hs2 htk hD hagain hOK hNe hNc hT he3 hst hbb h0 htr hc hK hbg3 hbg0 
    have hmm := @run_makeMap Tryd.prog
    go_enter Tryd.func4, Tryd.ntmps4
    go_wp2_with fail
    refine (tspeaks_any w HT.out).mono ?_
    rintro e w1 ⟨rfl, hb1⟩
    go_wp2_with fail
    refine (read_on 0 (HS.out.below hb1) (HT.out.below hb1) (by omega)).mono ?_
    rintro e w2 ⟨s, rfl, ho2, hb2⟩
    rw [HTK.out] at ho2 ⊢
    rw [HD.out]
    obtain ⟨a5, cap5, rfl, -⟩ := At.sl_own ho2
    unfold tokV
    simp only at ho2 ⊢
    have hbw2 := below_trans hb1 hb2
    have hb3 := hbw2.alloc hbw2.size (.cells #[.int .i64 (K : Int), .string ⟨N.toArray⟩, .slice a5 L.length cap5, .string ⟨#[]⟩, .int .i64 0, .int .i64 ((e1 : Int) + 1)] 29)
    have ho3 := ho2.alloc (.cells #[.int .i64 (K : Int), .string ⟨N.toArray⟩, .slice a5 L.length cap5, .string ⟨#[]⟩, .int .i64 0, .int .i64 ((e1 : Int) + 1)] 29)
    have hk3 := bk_new w2 #[.int .i64 (K : Int), .string ⟨N.toArray⟩, .slice a5 L.length cap5, .string ⟨#[]⟩, .int .i64 0, .int .i64 ((e1 : Int) + 1)] 29
    have hz3 : (w2.alloc (.cells #[.int .i64 (K : Int), .string ⟨N.toArray⟩, .slice a5 L.length cap5, .string ⟨#[]⟩, .int .i64 0, .int .i64 ((e1 : Int) + 1)] 29)).heap.size = w2.heap.size + 1 := by simp
    obtain ⟨W3, hW3⟩ : ∃ W3, w2.alloc (.cells #[.int .i64 (K : Int), .string ⟨N.toArray⟩, .slice a5 L.length cap5, .string ⟨#[]⟩, .int .i64 0, .int .i64 ((e1 : Int) + 1)] 29) = W3 := ⟨_, rfl⟩
    rw [hW3] at hb3 ho3 hk3 hz3
    obtain ⟨-, hz | ⟨b', off', hb', hc3⟩⟩ := HS.out.below hb3
    · exact absurd hz hne
    cases hb'
    have c62 := hc3 e1 (by omega)
    rw [show at0 l e1 = 62 from HE3.out] at c62
    obtain ⟨k0, k1, k2, k3, k4, k5, -, -, -, -, -, -⟩ := hk3.six
    have HB3 := Lib.hid hb3
    have HO3 := Lib.hid ho3
    have HK3 := Lib.hid hk3
    have HZ3 := Lib.hid hz3
    clear hz3
    have t3 : N.isEmpty = false := by simpa using HNE.out
    clear ho2 hb1 hb2 hbw2 hb3 ho3 hk3 hc3
    go_wp2
    go_loopg [] N.length (fun gf wx => ItRel N OkT W3 gf wx)
    case atStart => exact ⟨0, World.iter_heap W3 _ 0, (Below.refl _ W3).alloc (Nat.le_refl _) _, HNC.out, by omega⟩
    case round =>
      obtain ⟨pos, hit, hbw, hch, hfu⟩ := hrel
      by_cases hps : pos < N.length
      · obtain ⟨g', rfl⟩ : ∃ g', gk = g' + 1 := ⟨gk - 1, by omega⟩
        have hnx : ∀ ty, (Instr.next (.pointer (some ⟨W3.heap.size, 0, none⟩)) true ty).run Tryd.prog wr = _ := fun ty => Lib.run_next_any_at wr W3.heap.size ⟨N.toArray⟩ pos ty hit (by rw [Kl.str_size]; exact hps)
        obtain ⟨c, r, hcr, hg, hq, hr⟩ := hch.nil_or (by intro k; rw [List.drop_eq_nil_iff] at k; omega)
        rw [Kl.decode_dec, dec_at hg hcr] at hnx
        simp only at hnx
        obtain ⟨wc, hwc⟩ : ∃ wc, (encodeRune (c : Int)).length = wc := ⟨_, rfl⟩
        have hw1 := (enc_len (c : Int)).1
        rw [hwc] at hnx hw1
        have hit2 := Lib.iterAt_heap wr W3.heap.size ⟨N.toArray⟩ pos (pos + wc) hit
        have hbw2 := Lib.below_iterAt hbw (k := W3.heap.size) (Nat.le_refl _) ⟨N.toArray⟩ (pos + wc)
        have hch2 : Chs OkT (N.drop (pos + wc)) := by
          rw [← List.drop_drop, hcr, ← hwc, List.drop_left]
          exact hr
        obtain ⟨V, hV⟩ : ∃ V, wr.iterAt W3.heap.size ⟨N.toArray⟩ (pos + wc) = V := ⟨_, rfl⟩
        rw [hV] at hnx hit2 hbw2
        have cB := Kl.blank_any (c : Int) V
        obtain ⟨p1, p2, p3, p4⟩ := hq
        rw [Kl.blankZ_nat, p1] at cB
        have u1 : ((c : Int) == 47) = false := by simp; omega
        have u2 : ((c : Int) == 62) = false := by simp; omega
        have HIT2 := Lib.hid hit2
        have HBW2 := Lib.hid hbw2
        have HCH2 := Lib.hid hch2
        clear hit hbw hch hcr hr hwc hV hit2 hbw2 hch2 p1 p2 p3 hg
        simp [greatN] at p4
        by_cases u3 : (65 : Int) ≤ (c : Int)
        · have u4 : ¬ ((c : Int) ≤ 90) := by omega
          clear p4
          go_wp2_with fail
          refine cB.mono ?_
          rintro e w' ⟨rfl, rfl⟩
          go_wp2
          go_roundg g'
          case measure => omega
          case rel => exact ⟨pos + wc, HIT2.out, HBW2.out, HCH2.out, by omega⟩
        · clear p4
          go_wp2_with fail
          refine cB.mono ?_
          rintro e w' ⟨rfl, rfl⟩
          go_wp2
          go_roundg g'
          case measure => omega
          case rel => exact ⟨pos + wc, HIT2.out, HBW2.out, HCH2.out, by omega⟩
      · have hnx : ∀ ty, (Instr.next (.pointer (some ⟨W3.heap.size, 0, none⟩)) true ty).run Tryd.prog wr = _ := fun ty => Lib.run_next_end_at wr W3.heap.size _ pos ty hit (by rw [Kl.str_size]; exact hps)
        have HBW := Lib.hid hbw
        have hk4 := (HK3.out.below hbw).alloc (.map #[] 0)
        obtain ⟨k0, k1, k2, k3, k4, k5, -, -, -, -, -, -⟩ := hk4.six
        clear hit hch hbw hk4
        go_wp2
        have hz4 := HBW.out.size
        generalize wr = w4 at HBW k0 k1 k2 k3 k4 k5 hz4 hnx ⊢
        have HZ4 := Lib.hid hz4
        clear k0 k1 k2 k3 k4 k5 hnx hz4
        go_loopw [102] (fun v wz => ∃ j : Nat, v = .int .i64 (j : Int) ∧ j ≤ L.length ∧ Below W3.heap.size W3 wz ∧ Seen (names (L.take j)) w4.heap.size j wz) (fun v _ => L.length - (RowKit.intOf v).toNat)
        case atStart => exact ⟨0, rfl, by omega, HBW.out.alloc HZ4.out _, At.seen_made w4⟩
        case round =>
          generalize wr = wz at *
          obtain ⟨j, rfl, hj, hbz, hsz⟩ := hrel
          by_cases hjl : j < L.length
          · have hj1 : (j : Int) < (L.length : Int) := by omega
            obtain ⟨hcp, hnil, h0 | ⟨b5, off5, rfl, hc⟩⟩ := sl_of (At.ownsRow_below HO3.out hbz)
            · rw [h0] at hjl; simp at hjl
            obtain ⟨c1, c2⟩ := hc j hjl
            have hmem := HOK.out.1 _ (At.at0_mem hjl)
            have hnot := nodup_take HOK.out.2.1 hjl
            have HNT := Lib.hid (names_take hjl)
            obtain ⟨⟨x1, x2⟩, hx⟩ : ∃ x, At.at0 L j = x := ⟨_, rfl⟩
            rw [hx] at c1 c2 hmem hnot HNT
            simp only at c1 c2 hmem hnot
            obtain ⟨hok1, hok2, hok3, hok4⟩ := hmem
            have hxl : x1.length ≤ maxLen := by unfold maxLen; omega
            have hbA : Below W3.heap.size W3 (wz.alloc (.cells #[.string ⟨x1.toArray⟩, .string ⟨x2.toArray⟩] 43)) := hbz.alloc hbz.size _
            have hkA := bk_new wz #[.string ⟨x1.toArray⟩, .string ⟨x2.toArray⟩] 43
            have hsA := Seen_below hsz ((Below.refl _ wz).alloc (Nat.le_refl _) (.cells #[.string ⟨x1.toArray⟩, .string ⟨x2.toArray⟩] 43))
            obtain ⟨WA, hWA⟩ : ∃ WA, wz.alloc (.cells #[.string ⟨x1.toArray⟩, .string ⟨x2.toArray⟩] 43) = WA := ⟨_, rfl⟩
            rw [hWA] at hbA hkA hsA
            have q0 : WA.cell? ⟨wz.heap.size, 0, none⟩ = some (.string ⟨x1.toArray⟩) := hkA.cell 0
            have q1 : WA.cell? ⟨wz.heap.size, 1, none⟩ = some (.string ⟨x2.toArray⟩) := hkA.cell 1
            have HBA := Lib.hid hbA
            have HKA := Lib.hid hkA
            have HSA := Lib.hid hsA
            have HO1 := Lib.hid hok1
            have HO2 := Lib.hid hok2
            have HNO := Lib.hid hnot
            have HXL := Lib.hid hxl
            clear hnil hc hx hbA hkA hsA hok1 hok2 hnot hxl hbz hsz
            go_wp2
            go_loopg [] x1.length (fun gf wx => It2Rel x1 WA gf wx)
            case atStart => exact ⟨0, World.iter_heap WA _ 0, (Below.refl _ WA).alloc (Nat.le_refl _) _, Or.inl rfl, by omega⟩
            case round =>
              generalize wr = wx at *
              obtain ⟨pos, hit, hbw, hch, hfu⟩ := hrel
              by_cases hps : pos < x1.length
              · obtain ⟨g', rfl⟩ : ∃ g', gk = g' + 1 := ⟨gk - 1, by omega⟩
                have hnx : ∀ ty, (Instr.next (.pointer (some ⟨WA.heap.size, 0, none⟩)) true ty).run Tryd.prog wx = _ := fun ty => Lib.run_next_any_at wx WA.heap.size ⟨x1.toArray⟩ pos ty hit (by rw [Kl.str_size]; exact hps)
                obtain ⟨c, r, hcr, hg, hgr, hq, hr⟩ : ∃ (c : Nat) (r : List UInt8), x1.drop pos = encodeRune (c : Int) ++ r ∧ good c ∧ greatN c = false ∧ (pos = 0 ∨ (0 < pos ∧ blankN c = false ∧ c ≠ 47 ∧ c ≠ 62 ∧ c ≠ 61)) ∧ Chs OkA r := by
                  rcases hch with rfl | ⟨hp, hch⟩
                  · obtain ⟨c, r, e1, e2, e3, e4⟩ := HO1.out
                    exact ⟨c, r, e1, e2, e3, Or.inl rfl, e4⟩
                  · obtain ⟨c, r, e1, e2, e3, e4⟩ := hch.nil_or (by intro k; rw [List.drop_eq_nil_iff] at k; omega)
                    exact ⟨c, r, e1, e2, e3.1.2.2.2, Or.inr ⟨hp, e3.1.1, e3.1.2.1, e3.1.2.2.1, e3.2⟩, e4⟩
                rw [Kl.decode_dec, dec_at hg hcr] at hnx
                simp only at hnx
                obtain ⟨wc, hwc⟩ : ∃ wc, (encodeRune (c : Int)).length = wc := ⟨_, rfl⟩
                have hw1 := (enc_len (c : Int)).1
                rw [hwc] at hnx hw1
                have hit2 := Lib.iterAt_heap wx WA.heap.size ⟨x1.toArray⟩ pos (pos + wc) hit
                have hbw2 := Lib.below_iterAt hbw (k := WA.heap.size) (Nat.le_refl _) ⟨x1.toArray⟩ (pos + wc)
                have hch2 : Chs OkA (x1.drop (pos + wc)) := by
                  rw [← List.drop_drop, hcr, ← hwc, List.drop_left]
                  exact hr
                obtain ⟨V, hV⟩ : ∃ V, wx.iterAt WA.heap.size ⟨x1.toArray⟩ (pos + wc) = V := ⟨_, rfl⟩
                rw [hV] at hnx hit2 hbw2
                have HIT2 := Lib.hid hit2
                have HBW2 := Lib.hid hbw2
                have HCH2 := Lib.hid hch2
                simp [greatN] at hgr
                have hgr' : (¬ (65 : Int) ≤ (c : Int)) ∨ ((65 : Int) ≤ (c : Int) ∧ ¬ ((c : Int) ≤ 90)) := by omega
                clear hit hbw hch hcr hr hwc hV hit2 hbw2 hch2 hg hgr
                rcases hq with rfl | ⟨hp, p1, p2, p3, p4⟩
                · rcases hgr' with u3 | ⟨u3, u4⟩
                  all_goals
                    go_wp2
                    go_roundg g'
                    case measure => omega
                    case rel => exact ⟨0 + wc, HIT2.out, HBW2.out, Or.inr ⟨by omega, HCH2.out⟩, by omega⟩
                · have cB := Kl.blank_any (c : Int) V
                  rw [Kl.blankZ_nat, p1] at cB
                  have u0 : (0 : Int) < (pos : Int) := by omega
                  have u1 : ((c : Int) == 47) = false := by simp; omega
                  have u2 : ((c : Int) == 62) = false := by simp; omega
                  have u5 : ((c : Int) == 61) = false := by simp; omega
                  clear p1 p2 p3 p4
                  rcases hgr' with u3 | ⟨u3, u4⟩
                  all_goals
                    go_wp2_with fail
                    refine cB.mono ?_
                    rintro e w' ⟨rfl, rfl⟩
                    go_wp2
                    go_roundg g'
                    case measure => omega
                    case rel => exact ⟨pos + wc, HIT2.out, HBW2.out, Or.inr ⟨by omega, HCH2.out⟩, by omega⟩
              · have hnx : ∀ ty, (Instr.next (.pointer (some ⟨WA.heap.size, 0, none⟩)) true ty).run Tryd.prog wx = _ := fun ty => Lib.run_next_end_at wx WA.heap.size _ pos ty hit (by rw [Kl.str_size]; exact hps)
                have hkX := HKA.out.below hbw
                have hsX := Seen_below HSA.out hbw
                have hlook := hsX.look HXL.out
                rw [decide_eq_false HNO.out] at hlook
                obtain ⟨w6, hput, hs6, hg6⟩ := hsX.put (s := x1) (by unfold maxLen; omega) HXL.out
                have hmA : w4.heap.size ≠ wz.heap.size := by
                  intro e
                  obtain ⟨es, clock, h1⟩ := seen_obj hsX
                  have h2 := hkX.blk
                  rw [← e, h1] at h2
                  cases h2
                have hk6 := hkX.grown hg6 (by simp; exact fun e => hmA e.symm)
                have hbX := HBA.out.trans (hbw.mono HBA.out.size)
                have hb6 := hbX.grown hg6 hbX.size (fun k hk => by injection hk with hk; have := HZ4.out; omega)
                have q0 : wx.cell? ⟨wz.heap.size, 0, none⟩ = some (.string ⟨x1.toArray⟩) := hkX.cell 0
                have q1 : w6.cell? ⟨wz.heap.size, 0, none⟩ = some (.string ⟨x1.toArray⟩) := hk6.cell 0
                have q2 : w6.cell? ⟨wz.heap.size, 1, none⟩ = some (.string ⟨x2.toArray⟩) := hk6.cell 1
                have q3 : x1.isEmpty = false := by simpa using HO1.out.ne
                rw [← HNT.out] at hs6
                have HS6 := Lib.hid hs6
                have HB6 := Lib.hid hb6
                clear hit hbw hch hkX hsX hs6 hg6 hmA hk6 hbX hb6
                go_wp2
                go_loopw [154] (fun v wr => (∃ x : Nat, v = .int .i64 (x : Int) ∧ x ≤ x2.length) ∧ w6 = wr) (fun v _ => x2.length - (RowKit.intOf v).toNat)
                case atStart => exact ⟨⟨0, rfl, by omega⟩, rfl⟩
                case round =>
                  obtain ⟨⟨x, rfl, hxl⟩, rfl⟩ := hrel
                  by_cases hx2 : x < x2.length
                  · have hx3 : (x : Int) < (x2.length : Int) := by omega
                    have hzz : x < (⟨x2.toArray⟩ : ByteArray).size := by rw [Kl.str_size]; exact hx2
                    have hX : ((((⟨x2.toArray⟩ : ByteArray)[x]'hzz).toNat : Int) == 0) = false := by
                      rw [idx_str x2 x hzz]
                      have hmem : x2[x] ∈ x2 := List.getElem_mem hx2
                      have h9 := HO2.out _ hmem
                      have h8 : at0 x2 x = x2[x].toNat := by unfold at0; rw [List.getD_eq_getElem?_getD, List.getElem?_eq_getElem hx2]; rfl
                      simp
                      omega
                    go_wp2
                    go_roundw
                    case rel => exact ⟨⟨x + 1, by go_num, by omega⟩, by first | rfl | trivial⟩
                    case measure => simp [RowKit.intOf]; omega
                  · have hx3 : ¬ ((x : Int) < (x2.length : Int)) := by omega
                    go_wp2
                    go_roundw
                    case rel => exact ⟨j + 1, by go_num, by omega, HB6.out, HS6.out⟩
                    case measure => simp [RowKit.intOf]; omega
          · have hj1 : ¬ ((j : Int) < (L.length : Int)) := by omega
            have hbA : Below wz.heap.size wz (wz.alloc (.cells #[] 5)) := (Below.refl _ wz).alloc (Nat.le_refl _) _
            have hown0 : (wz.alloc (.cells #[] 5)).ownsRow wz.heap.size 5 1 (.slice (some ⟨wz.heap.size, 0, none⟩) 0 0) ([] : List UInt8).length (Lib.byteCells []) := by
              refine ⟨by simp [Lib.byteCells], Or.inr ⟨wz.heap.size, 0, #[], rfl, by omega, ?_, by simp, by simp, by simp, by simp [Lib.byteCells]⟩⟩
              simp [World.alloc, -World.alloc_eq]
            have hbwz : Below w.heap.size w wz := HB3.out.trans (hbz.mono HB3.out.size)
            have hszw := hbwz.size
            have hbwA : Below w.heap.size w (wz.alloc (.cells #[] 5)) := hbwz.alloc hbwz.size _
            have hml : (l.take (e1 + 1)).length = e1 + 1 := by simp; omega
            have hs1 : Sl (l.take (e1 + 1)) (some ⟨b, off, none⟩) cap (wz.alloc (.cells #[] 5)) := by
              obtain ⟨-, hz | ⟨b', off', hb', hc'⟩⟩ := HS.out.below hbwA
              · exact absurd hz hne
              · cases hb'
                exact ⟨by omega, Or.inr ⟨b, off, rfl, Cells.take' hc' _⟩⟩
            obtain ⟨v1, wA1, hr1, ho1, hg1⟩ := app_bytes _ wz.heap.size _ [] (l.take (e1 + 1)) (some ⟨b, off, none⟩) cap hown0 hs1 (fun h => by cases h) (by simp; omega) (by simp)
            have hb1 : Below wz.heap.size wz wA1 := hbA.grown hg1 (by simp) (fun q hq => by have hq' : some wz.heap.size = some q := hq; injection hq' with hq'; omega)
            have hbw1 : Below w.heap.size w wA1 := hbwz.trans (hb1.mono hszw)
            rw [List.nil_append] at ho1
            obtain ⟨v2, wA2, hr2, hoM, hg2⟩ := app_bytes wA1 wz.heap.size v1 (l.take (e1 + 1)) m a2 cap2 ho1 (HS2.out.below hbw1) hn2 (by omega) hb1.size
            have hb2 : Below wz.heap.size wz wA2 := hb1.grown hg2 hb1.size (fun q hq => (ho1.lt q hq).1)
            have hbw2 : Below w.heap.size w wA2 := hbwz.trans (hb2.mono hszw)
            have hMl : (l.take (e1 + 1) ++ m).length ≤ 1000 := by rw [List.length_append]; omega
            obtain ⟨M, hM⟩ : ∃ M, l.take (e1 + 1) ++ m = M := ⟨_, rfl⟩
            obtain ⟨hag1, hag2⟩ := HAG.out
            rw [hM] at hoM hMl hag1 hag2
            obtain ⟨aG, cG, rfl, hsG⟩ := sl_bytes hoM
            have cR := read_on (l := M) (a := aG) (cap := cG) (w := wA2) 0 hsG (HT.out.below hbw2) (by omega)
            rw [hml] at hr1
            have HR1 := Lib.hid hr1
            have HR2 := Lib.hid hr2
            have HG1 := Lib.hid hag1
            have HG2 := Lib.hid (decide_eq_true hag2 : decide (bgAt M 0 ≠ 0) = true)
            have HKZ := Lib.hid ((HK3.out.below hbz).below hb2)
            have HOZ := Lib.hid (At.ownsRow_below (At.ownsRow_below HO3.out hbz) hb2)
            have HBZ := Lib.hid hbw2
            have hszz := hbw2.size
            have hkz := HK3.out.below hbz
            have hkzA := hkz.alloc (.cells #[] 5)
            have z5 : (wz.alloc (.cells #[] 5)).cell? ⟨w2.heap.size, 5, none⟩ = some (.int .i64 ((e1 : Int) + 1)) := hkzA.cell 5
            have z6 : wz.cell? ⟨w2.heap.size, 5, none⟩ = some (.int .i64 ((e1 : Int) + 1)) := hkz.cell 5
            have hjc : e1 + 1 ≤ cap := by omega
            clear hbA hown0 hbwz hbwA hs1 hr1 ho1 hg1 hb1 hbw1 hr2 hoM hg2 hb2 hbw2 hag1 hag2 hM hsG hkz hkzA hbz hsz
            go_wp2_with (first | (at_builtin; refine Lib.wpList_append_run _ rfl (.tmp 165) (.tmp 169) 22 22 rfl _ _ rfl rfl v1 wA1 HR1.out ?_) | (at_builtin; refine Lib.wpList_append_run _ rfl (.tmp 170) (.tmp 171) 22 22 rfl _ _ rfl rfl _ wA2 HR2.out ?_))
            refine cR.mono ?_
            rintro e w6 ⟨s6, rfl, ho6, hb6⟩
            rw [HG1.out, HTK.out] at ho6 ⊢
            rw [HG2.out]
            obtain ⟨a7, cap7, rfl, hs7⟩ := At.sl_own ho6
            unfold tokV
            simp only at ho6 hs7 ⊢
            have hA : Below wA2.heap.size wA2 (w6.alloc (.cells #[.int .i64 (K : Int), .string ⟨N.toArray⟩, .slice a7 L.length cap7, .string ⟨#[]⟩, .int .i64 0, .int .i64 ((e1 : Int) + 1)] 29)) := hb6.alloc hb6.size _
            have hkA := bk_new w6 #[.int .i64 (K : Int), .string ⟨N.toArray⟩, .slice a7 L.length cap7, .string ⟨#[]⟩, .int .i64 0, .int .i64 ((e1 : Int) + 1)] 29
            have hkT := HKZ.out.below hA
            have hs7A := hs7.below ((Below.refl _ w6).alloc (Nat.le_refl _) (.cells #[.int .i64 (K : Int), .string ⟨N.toArray⟩, .slice a7 L.length cap7, .string ⟨#[]⟩, .int .i64 0, .int .i64 ((e1 : Int) + 1)] 29))
            have hs5A := sl_of (At.ownsRow_below HOZ.out hA)
            obtain ⟨WB, hWB⟩ : ∃ WB, w6.alloc (.cells #[.int .i64 (K : Int), .string ⟨N.toArray⟩, .slice a7 L.length cap7, .string ⟨#[]⟩, .int .i64 0, .int .i64 ((e1 : Int) + 1)] 29) = WB := ⟨_, rfl⟩
            rw [hWB] at hA hkA hkT hs7A hs5A
            have dr : Below WB.heap.size WB WB.drew := ⟨rfl, rfl, rfl, Nat.le_refl _, fun _ _ => rfl⟩
            have hLl' : L.length ≤ 100000 := by omega
            have cTo1 := to_tok (K : Int) N L 0 ((e1 : Int) + 1) a7 cap7 WB.drew (hs7A.below dr) hLl'
            have SA := six2 hkA hkT
            have SD := six2 hkA.drew hkT.drew
            have HKA := Lib.hid hkA
            have HS5 := Lib.hid hs5A
            have HKT := Lib.hid hkT
            have HBA := Lib.hid (HBZ.out.trans (hA.mono hszz))
            clear hA hkA hkT hs7A hs5A dr hs7 ho6 hb6 cR
            go_wp2_with fail
            go_region_held3 (fun w' => (w'.cell? ⟨w6.heap.size, 0, none⟩ = some (.int .i64 (K : Int)) ∧ w'.cell? ⟨w6.heap.size, 1, none⟩ = some (.string ⟨N.toArray⟩) ∧ w'.cell? ⟨w6.heap.size, 2, none⟩ = some (.slice a7 L.length cap7) ∧ w'.cell? ⟨w6.heap.size, 3, none⟩ = some (.string ⟨#[]⟩) ∧ w'.cell? ⟨w6.heap.size, 4, none⟩ = some (.int .i64 0) ∧ w'.cell? ⟨w6.heap.size, 5, none⟩ = some (.int .i64 ((e1 : Int) + 1))) ∧ w'.cell? ⟨w2.heap.size, 0, none⟩ = some (.int .i64 (K : Int)) ∧ w'.cell? ⟨w2.heap.size, 1, none⟩ = some (.string ⟨N.toArray⟩) ∧ w'.cell? ⟨w2.heap.size, 2, none⟩ = some (.slice a5 L.length cap5) ∧ w'.cell? ⟨w2.heap.size, 3, none⟩ = some (.string ⟨#[]⟩) ∧ w'.cell? ⟨w2.heap.size, 4, none⟩ = some (.int .i64 0) ∧ w'.cell? ⟨w2.heap.size, 5, none⟩ = some (.int .i64 ((e1 : Int) + 1))) (first | with_reducible exact S10 | with_reducible exact S8 | with_reducible exact S7 | with_reducible exact SA | with_reducible exact SD)
              (first
              | (go_at_call 13; with_reducible refine cTo1.mono ?_; rintro e w7 ⟨a8, cap8, rfl, ho8, hb8⟩; have hb8 := below_of_drew hb8; have S7 := six2 (HKA.out.below hb8) (HKT.out.below hb8); have HK7 := Lib.hid (HKA.out.below hb8); have HT7 := Lib.hid (HKT.out.below hb8); have cTo2 := to_tok (K : Int) N L 0 ((e1 : Int) + 1) a5 cap5 w7 (HS5.out.below hb8) hLl'; have HO8 := Lib.hid ho8; have HB8 := Lib.hid (HBA.out.trans (hb8.mono HBA.out.size)); clear ho8 hb8)
              | (go_at_call 13; with_reducible refine cTo2.mono ?_; rintro e w8 ⟨a9, cap9, rfl, ho9, hb9⟩; have S8 := six2 (HK7.out.below hb9) (HT7.out.below hb9); have HK8 := Lib.hid (HK7.out.below hb9); have HT8 := Lib.hid (HT7.out.below hb9); have cSm := same_tok (K : Int) N L 0 ((e1 : Int) + 1) a8 cap8 a9 cap9 w8 ((sl_of HO8.out).below hb9) (sl_of ho9) hLl'; have HB9 := Lib.hid (HB8.out.trans (hb9.mono HB8.out.size)); clear ho9 hb9)
              | (go_at_call 12; refine cSm.mono ?_; rintro e w10 ⟨rfl, hb10⟩; have S10 := six2 (HK8.out.below hb10) (HT8.out.below hb10); have HB10 := Lib.hid (HB9.out.trans (hb10.mono HB9.out.size)); clear hb10))
            all_goals (try go_wp2)
            all_goals go_ret
            all_goals exact ⟨rfl, HB10.out⟩
end Go.Proofs.YtfnecdifaodamaaDoor.Tg
