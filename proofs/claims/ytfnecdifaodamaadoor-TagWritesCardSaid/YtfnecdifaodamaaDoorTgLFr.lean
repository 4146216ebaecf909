/- The law TagFronts, walked. -/
import Derived.Test.YtfnecdifaodamaaDoorTgTo
import Derived.Test.YtfnecdifaodamaaDoorTgSpk
import Derived.Laws.OwnMore
import Derived.Deep.RegionWith
namespace Go.Proofs.YtfnecdifaodamaaDoor.Tg
open Go.RowKit Go.Lib
open Ch (at0 nx nx_width nx_range at0_lt at0_drop enc_len Sl Sl.below Cells ret_str good nx_good ret_bool info5)
open At (cellsA ads below_trans)

variable {l : List UInt8} {a : Option Addr} {cap R i : Nat} {W w w' : World}

set_option maxHeartbeats 1000000 in
set_option maxRecDepth 100000 in
theorem tagFronts_long (n : Nat) (a : Option Addr) (cap : Nat) (w : World) (hT : Tb w) (h : 200 < n) :
    Calls Tryd.prog 6 #[.slice a n cap] w fun e w' => e = .returned (.bool true) ∧ Below w.heap.size w w' := by
  have h1 : (200 : Int) < (n : Int) := by omega
  go_enter Tryd.func6, Tryd.ntmps6
  go_wp2_with fail
  refine (tspeaks_any w hT).mono ?_
  rintro e w1 ⟨rfl, hb1⟩
  go_wp2_with fail
  refine (tspeaks_any w1 (hT.below hb1)).mono ?_
  rintro e w2 ⟨rfl, hb2⟩
  go_wp2
  go_ret
  exact ⟨rfl, below_trans hb1 hb2⟩

theorem fold_len : ∀ (L acc : List At.At), (L.foldl At.add acc).length ≤ acc.length + L.length
  | [], acc => by simp
  | x :: r, acc => by
    have h1 := fold_len r (At.add acc x)
    have h2 := (At.add_len acc x).2
    rw [List.foldl_cons, List.length_cons]
    omega
theorem ads_len (L : List At.At) : (ads L).length ≤ L.length := by
  have := fold_len L []
  simpa [ads] using this
theorem tr_bd {m : List UInt8} {L : List At.At} {e : Nat} (h : tr m = some (L, e)) : L.length ≤ m.length := by
  unfold tr at h
  rw [Option.map_eq_some_iff] at h
  obtain ⟨⟨L', e'⟩, ha, he⟩ := h
  simp only [Prod.mk.injEq] at he
  obtain ⟨rfl, rfl⟩ := he
  have := ats_bd _ _ (Nat.le_refl _) _ _ ha
  simp only [List.length_drop] at this
  omega

theorem Cells.take' {b off : Nat} (h : Cells l b off w) (k : Nat) : Cells (l.take k) b off w := by
  intro j hj
  simp only [List.length_take] at hj
  rw [h j (by omega)]
  unfold at0
  rw [List.getD_eq_getElem?_getD, List.getD_eq_getElem?_getD, List.getElem?_take, if_pos (by omega)]

theorem bytes_set (m : List UInt8) (j : Nat) (b : UInt8) : Lib.byteCells (m.set j b) = (Lib.byteCells m).set j (.int .u8 (b.toNat : Int)) := by
  unfold Lib.byteCells
  rw [List.map_set]
theorem bytes_at (m : List UInt8) (j : Nat) (h : j < m.length) : (Lib.byteCells m)[j]? = some (.int .u8 ((at0 m j : Nat) : Int)) := by
  simp [Lib.byteCells, at0, List.getD_eq_getElem?_getD, List.getElem?_eq_getElem h]

theorem six2 {g g' : Nat} {t t' : TypeId} {x0 x1 x2 x3 x4 x5 y0 y1 y2 y3 y4 y5 : Value} (h : Bk g #[x0, x1, x2, x3, x4, x5] t w) (h' : Bk g' #[y0, y1, y2, y3, y4, y5] t' w) :
    (w.cell? ⟨g, 0, none⟩ = some x0 ∧ w.cell? ⟨g, 1, none⟩ = some x1 ∧ w.cell? ⟨g, 2, none⟩ = some x2 ∧ w.cell? ⟨g, 3, none⟩ = some x3 ∧ w.cell? ⟨g, 4, none⟩ = some x4 ∧ w.cell? ⟨g, 5, none⟩ = some x5) ∧ w.cell? ⟨g', 0, none⟩ = some y0 ∧ w.cell? ⟨g', 1, none⟩ = some y1 ∧ w.cell? ⟨g', 2, none⟩ = some y2 ∧ w.cell? ⟨g', 3, none⟩ = some y3 ∧ w.cell? ⟨g', 4, none⟩ = some y4 ∧ w.cell? ⟨g', 5, none⟩ = some y5 :=
  ⟨⟨h.cell 0, h.cell 1, h.cell 2, h.cell 3, h.cell 4, h.cell 5⟩, h'.cell 0, h'.cell 1, h'.cell 2, h'.cell 3, h'.cell 4, h'.cell 5⟩
theorem sl_of {B : Nat} {e : TypeId} {a : Option Addr} {cap : Nat} {L : List At.At} (h : w.ownsRow B e 2 (.slice a L.length cap) L.length (cellsA L)) : At.Sl L a cap w := by
  obtain ⟨a', cap', hv, hs⟩ := At.sl_own h
  cases hv
  exact hs

/-- a row of bytes of one's own as a slice -/
theorem sl_bytes {B : Nat} {v : Value} {m : List UInt8} (h : w.ownsRow B 5 1 v m.length (Lib.byteCells m)) : ∃ a cap, v = .slice a m.length cap ∧ Sl m a cap w := by
  rcases h.2 with ⟨hv, h0⟩ | ⟨g, cap, cur, hv, hg, hh, hn, hm, hs, ht⟩
  · obtain rfl : m = [] := List.eq_nil_of_length_eq_zero h0
    exact ⟨none, 0, hv, Nat.le_refl _, Or.inl rfl⟩
  · refine ⟨_, cap, hv, hn, Or.inr ⟨g, 0, rfl, fun j hj => ?_⟩⟩
    have := h.cells (g := g) (by rw [hv]; rfl) j _ (by simp [Lib.byteCells, List.getElem?_eq_getElem hj]; rfl)
    rw [Ch.addr_add0] at this
    rw [Nat.zero_add, this]
    simp [at0, List.getD_eq_getElem?_getD, List.getElem?_eq_getElem hj]

def FrRel (_l : List UInt8) (e k : Nat) (T : Nat) (cs : Array Value) (B : Nat) (s : Value) (L : List At.At) (w : World) (v : Value) (wr : World) : Prop :=
  ∃ j : Nat, v = .int .i64 (j : Int) ∧ k + 1 ≤ j ∧ j ≤ e ∧ Below w.heap.size w wr ∧ Bk T cs 29 wr ∧ wr.ownsRow B 43 2 s L.length (cellsA L)

/-- letters made great up to a place -/
def half (m : List UInt8) (j : Nat) : List UInt8 := upL (m.take j) ++ m.drop j
theorem half_len (m : List UInt8) (j : Nat) : (half m j).length = m.length := by unfold half; rw [List.length_append, upL_len]; simp; omega
theorem half_at (m : List UInt8) (j : Nat) (h : j < m.length) : at0 (half m j) j = at0 m j := by
  unfold half at0
  have : (upL (m.take j)).length = j := by rw [upL_len]; simp; omega
  rw [List.getD_eq_getElem?_getD, List.getElem?_append_right (by omega), this, Nat.sub_self, List.getElem?_drop, Nat.add_zero, List.getD_eq_getElem?_getD]
theorem half_succ (m : List UInt8) (j : Nat) (h : j < m.length) : half m (j + 1) = (half m j).set j (upB m[j]) := by
  unfold half
  have hl : (upL (m.take j)).length = j := by rw [upL_len]; simp; omega
  rw [List.take_succ_eq_append_getElem h]
  unfold upL at *
  rw [List.map_append, List.append_assoc, List.set_append, if_neg (by omega), hl, Nat.sub_self, List.drop_eq_getElem_cons h]
  rfl
theorem half_keep (m : List UInt8) (j : Nat) (h : j < m.length) (hu : upB m[j] = m[j]) : half m (j + 1) = half m j := by
  unfold half
  rw [List.take_succ_eq_append_getElem h]
  unfold upL
  rw [List.map_append, List.append_assoc, List.drop_eq_getElem_cons h]
  simp [hu]

def GrRel (m : List UInt8) (g capG : Nat) (T : Nat) (cs : Array Value) (B : Nat) (s : Value) (L : List At.At) (w : World) (v : Value) (wr : World) : Prop :=
  ∃ j : Nat, v = .int .i64 (j : Int) ∧ j ≤ m.length ∧ (61 : UInt8) ∉ m.take j ∧ Below w.heap.size w wr ∧ Bk T cs 29 wr ∧ wr.ownsRow B 43 2 s L.length (cellsA L) ∧ wr.ownsRow (T + 1) 5 1 (.slice (some ⟨g, 0, none⟩) m.length capG) m.length (Lib.byteCells (half m j))

set_option maxHeartbeats 8000000 in
set_option maxRecDepth 100000 in
theorem tagFronts_walk (l : List UInt8) (a : Option Addr) (cap : Nat) (w : World) (hs : Sl l a cap w) (hT : Tb w) (hl : l.length ≤ 200) :
    Calls Tryd.prog 6 #[.slice a l.length cap] w fun e w' => e = .returned (.bool true) ∧ Below w.heap.size w w' := by
  have h1 : ¬ ((200 : Int) < (l.length : Int)) := by omega
  by_cases h0 : bgAt l 0 = 0
  · have HTK := Lib.hid (none_tk h0)
    have H0 := Lib.hid h0
    clear h0
    go_enter Tryd.func6, Tryd.ntmps6
    go_wp2_with fail
    refine (tspeaks_any w hT).mono ?_
    rintro e w1 ⟨rfl, hb1⟩
    go_wp2_with fail
    refine (read_on 0 (hs.below hb1) (hT.below hb1) (by omega)).mono ?_
    rintro e w2 ⟨s, rfl, ho2, hb2⟩
    rw [HTK.out] at ho2 ⊢
    rw [H0.out]
    obtain ⟨a5, cap5, rfl, -⟩ := At.sl_own ho2
    unfold tokV
    simp only
    have HB2 := Lib.hid (below_trans hb1 hb2)
    clear ho2 hb1 hb2
    go_wp2
    go_ret
    exact ⟨rfl, HB2.out.alloc HB2.out.size _⟩
  have hne : l ≠ [] := by
    rintro rfl
    exact h0 rfl
  have hbg0 : bg l ≠ 0 := by
    intro k
    apply h0
    have := List.length_pos_iff.2 hne
    unfold bgAt
    rw [if_pos (by omega)]
    exact k
  cases htr : tr l with
  | none =>
    obtain ⟨htk, hbb⟩ := open_tk hbg0 hne htr
    have HTK := Lib.hid htk
    have HD := Lib.hid (decide_eq_true h0 : decide (bgAt l 0 ≠ 0) = true)
    clear htk hbb h0 hbg0 htr
    go_enter Tryd.func6, Tryd.ntmps6
    go_wp2_with fail
    refine (tspeaks_any w hT).mono ?_
    rintro e w1 ⟨rfl, hb1⟩
    go_wp2_with fail
    refine (read_on 0 (hs.below hb1) (hT.below hb1) (by omega)).mono ?_
    rintro e w2 ⟨s, rfl, ho2, hb2⟩
    rw [HTK.out] at ho2 ⊢
    rw [HD.out]
    obtain ⟨a5, cap5, rfl, -⟩ := At.sl_own ho2
    unfold tokV
    simp only
    have HB2 := Lib.hid (below_trans hb1 hb2)
    clear ho2 hb1 hb2
    go_wp2
    go_ret
    exact ⟨rfl, HB2.out.alloc HB2.out.size _⟩
  | some p =>
    obtain ⟨L0, e0⟩ := p
    obtain ⟨htk, hbb⟩ := whole_tk hbg0 hne htr
    have hst := tr_stab hbg0 htr
    have hcut := fun k h1 h2 => cut_tk (k := k) hbg0 htr h1 h2
    have hgreat := great_tk hbg0 hne htr
    have hD : decide (bgAt l 0 ≠ 0) = true := decide_eq_true h0
    have hk2 := bg_le l
    have hLl : (if bg l = 1 then ads L0 else []).length ≤ 100000 := by
      have h2 := tr_bd htr
      have h3 := ads_len L0
      split
      · omega
      · simp
    generalize (if bg l = 1 then ads L0 else []) = L at htk hLl
    generalize tn l = N at htk
    obtain ⟨k, hk⟩ : ∃ k, bg l = k := ⟨_, rfl⟩
    rw [hk] at htk hst hcut hk2 hbg0
    obtain ⟨hcap, hz | ⟨b, off, rfl, hc⟩⟩ := hs
    · exact absurd hz hne
    have hs : Sl l (some ⟨b, off, none⟩) cap w := ⟨hcap, Or.inr ⟨b, off, rfl, hc⟩⟩
    have HS := Lib.hid hs
    have HTK := Lib.hid htk
    have HD := Lib.hid hD
    have HC := Lib.hid hcut
    have HG := Lib.hid hgreat
    have he1 := hst.1
    have he2 := hst.2.1
    have HT := Lib.hid hT
    clear hs htk hD hcut hgreat hst hbb h0 htr hk hc hT
    rcases (by omega : k = 1 ∨ k = 2) with rfl | rfl
    · go_enter Tryd.func6, Tryd.ntmps6
      go_wp2_with fail
      refine (tspeaks_any w HT.out).mono ?_
      rintro e w1 ⟨rfl, hb1⟩
      go_wp2_with fail
      refine (read_on 0 (HS.out.below hb1) (HT.out.below hb1) (by omega)).mono ?_
      rintro e w2 ⟨s, rfl, ho2, hb2⟩
      rw [HTK.out] at ho2 ⊢
      rw [HD.out]
      obtain ⟨a5, cap5, rfl, -⟩ := At.sl_own ho2
      unfold tokV
      simp only at ho2 ⊢
      have hbw2 := below_trans hb1 hb2
      have hzw2 := hbw2.size
      have HB2 := Lib.hid (hbw2.alloc hbw2.size (.cells #[.int .i64 2, .string ⟨N.toArray⟩, .slice a5 L.length cap5, .string ⟨#[]⟩, .int .i64 0, .int .i64 (e0 : Int)] 29))
      have HO2 := Lib.hid (ho2.alloc (.cells #[.int .i64 2, .string ⟨N.toArray⟩, .slice a5 L.length cap5, .string ⟨#[]⟩, .int .i64 0, .int .i64 (e0 : Int)] 29))
      have HLT := Lib.hid (fun q hq => (ho2.lt q hq).2 : ∀ q, (Value.slice a5 L.length cap5).ownBlock = some q → q < w2.heap.size)
      have HK2 := Lib.hid (bk_new w2 #[.int .i64 2, .string ⟨N.toArray⟩, .slice a5 L.length cap5, .string ⟨#[]⟩, .int .i64 0, .int .i64 (e0 : Int)] 29)
      have t1 : ¬ ((l.length : Int) < (e0 : Int)) := by omega
      clear ho2 hb1 hb2
      go_wp2
      go_loopw [6] (fun v wr => FrRel l e0 1 w2.heap.size #[.int .i64 2, .string ⟨N.toArray⟩, .slice a5 L.length cap5, .string ⟨#[]⟩, .int .i64 0, .int .i64 (e0 : Int)] w1.heap.size (.slice a5 L.length cap5) L w v wr) (fun v _ => e0 - (RowKit.intOf v).toNat)
      case atStart => exact ⟨2, rfl, by omega, by omega, HB2.out, HK2.out, HO2.out⟩
      case round =>
        obtain ⟨j, rfl, hj1, hj2, hbw, hbk, how⟩ := hrel
        obtain ⟨q0, q1, q2, q3, q4, q5, -, -, -, -, -, -⟩ := hbk.six
        have HBW := Lib.hid hbw
        have HBK := Lib.hid hbk
        have HOW := Lib.hid how
        have hszw := hbw.size
        have hbl := hbk.lt
        by_cases hlt : j < e0
        · have hlt1 : (j : Int) < (e0 : Int) := by omega
          have hjl : (l.take j).length = j := by simp; omega
          have hjc : j ≤ cap := by omega
          have cR := read_on (l := l.take j) (a := some ⟨b, off, none⟩) (cap := cap) (w := wr) 0 ⟨by omega, Or.inr ⟨b, off, rfl, by
            obtain ⟨-, hz | ⟨b', off', hb', hc'⟩⟩ := HS.out.below hbw
            · exact absurd hz hne
            · cases hb'; exact Cells.take' hc' j⟩⟩ (HT.out.below hbw) (by omega)
          obtain ⟨ht1, ht2⟩ := HC.out j (by omega) hlt
          have HT1 := Lib.hid ht1
          have HT2 := Lib.hid (decide_eq_true ht2 : decide (bgAt (l.take j) 0 ≠ 0) = true)
          rw [hjl] at cR
          clear hbw hbk how ht1 ht2 hjl
          go_wp2_with fail
          refine cR.mono ?_
          rintro e w3 ⟨s3, rfl, ho3, hb3⟩
          rw [HT1.out] at ho3 ⊢
          rw [HT2.out]
          obtain ⟨a6, cap6, rfl, -⟩ := At.sl_own ho3
          unfold tokV
          simp only
          have HB3 := Lib.hid (HBW.out.trans (hb3.mono hszw))
          have HK3 := Lib.hid (HBK.out.below hb3)
          have HO3 := Lib.hid (At.ownsRow_below HOW.out hb3)
          clear ho3 hb3 cR
          go_wp2
          go_roundw
          case rel => exact ⟨j + 1, by go_num, by omega, by omega, HB3.out.alloc HB3.out.size _, HK3.out.alloc _, HO3.out.alloc _⟩
          case measure => simp [RowKit.intOf]; omega
        · have hlt1 : ¬ ((j : Int) < (e0 : Int)) := by omega
          obtain rfl : j = e0 := by omega
          obtain ⟨i5, hi5, hp5⟩ := info5
          simp only [Prod.mk.injEq] at hp5
          obtain ⟨hz5, hsz5, hby5⟩ := hp5
          have HI5 := Lib.hid hi5
          have HZ5 := Lib.hid hz5
          have HS5 := Lib.hid hsz5
          have HB5 := Lib.hid hby5
          have hbA : Below wr.heap.size wr (wr.alloc (.cells #[] 5)) := (Below.refl _ wr).alloc (Nat.le_refl _) _
          have hown0 : (wr.alloc (.cells #[] 5)).ownsRow (w2.heap.size + 1) 5 1 (.slice (some ⟨wr.heap.size, 0, none⟩) 0 0) ([] : List UInt8).length (Lib.byteCells []) := by
            refine ⟨by simp [Lib.byteCells], Or.inr ⟨wr.heap.size, 0, #[], rfl, by omega, ?_, by simp, by simp, by simp, by simp [Lib.byteCells]⟩⟩
            simp [World.alloc, -World.alloc_eq]
          obtain ⟨-, hz | ⟨b', off', hb', hcA⟩⟩ := HS.out.below (HBW.out.trans (hbA.mono hszw))
          · exact absurd hz hne
          cases hb'
          have HCA := Lib.hid hcA
          have hjc : j ≤ cap := by omega
          clear hi5 hz5 hsz5 hby5 hcA hbw hbk how
          go_wp2_with (at_builtin; refine wpList_append_own _ rfl (.tmp 96) (.tmp 100) 22 rfl (w2.heap.size + 1) 5 i5 (.int .u8 0) 1 1 Tryd.underlying22 HI5.out HZ5.out HS5.out HB5.out rfl (by decide) _ _ _ rfl hown0 ⟨b, off, none⟩ _ _ (Lib.byteCells (l.take j)) rfl ?c0 ?c1 ?c2 ?c3 ?c4 ?c5 ?_)
          case c0 => rw [Lib.byteCells_length]; simp; omega
          case c1 =>
            intro q u hq
            (try rw [At.add_lit])
            have hql : q < (l.take j).length := by
              rcases Nat.lt_or_ge q (l.take j).length with z | z
              · exact z
              · rw [List.getElem?_eq_none (by rw [Lib.byteCells_length]; exact z)] at hq; cases hq
            rw [bytes_at _ _ hql] at hq
            rw [← hq]
            exact Cells.take' HCA.out j q hql
          case c2 =>
            intro u hu
            unfold Lib.byteCells at hu
            obtain ⟨z, _, rfl⟩ := List.mem_map.1 hu
            rfl
          case c3 => unfold maxLen; simp; omega
          case c4 => first | omega | (simp; omega)
          case c5 => first | omega | (simp; omega)
          intro v4 w4 hown4 hgr4 _
          have hb4 : Below wr.heap.size wr w4 := hbA.grown hgr4 (by simp) (fun q hq => by have hq' : some wr.heap.size = some q := hq; injection hq' with hq'; omega)
          have hmlen : (l.take j).length = j := by simp; omega
          obtain ⟨g, capG, rfl⟩ : ∃ g capG, v4 = .slice (some ⟨g, 0, none⟩) j capG := by
            rcases hown4.2 with ⟨_, q0⟩ | ⟨g, capG, cur, hv, _⟩
            · exfalso; first | omega | (simp at q0; omega)
            · exact ⟨g, capG, by first | exact hv | (rw [hv]; simp)⟩
          obtain ⟨m, hm⟩ : ∃ m, l.take j = m := ⟨_, rfl⟩
          have hown4' : w4.ownsRow (w2.heap.size + 1) 5 1 (.slice (some ⟨g, 0, none⟩) m.length capG) m.length (Lib.byteCells (half m 0)) := by
            have e1 : half m 0 = m := by unfold half upL; simp
            rw [e1, ← hm, hmlen]
            have e2 : 0 + j = j := by omega
            simpa [Lib.byteCells] using hown4
          have HO4 := Lib.hid hown4'
          have HB4 := Lib.hid (HBW.out.trans (hb4.mono hszw))
          have HK4 := Lib.hid (HBK.out.below hb4)
          have HOW4 := Lib.hid (At.ownsRow_below HOW.out hb4)
          rw [hm] at hmlen
          have HM := Lib.hid hm
          clear hown4 hown4' hgr4 hb4 hbA hown0 HCA hm q0 q1 q2 q3 q4 q5 HBW HBK HOW
          go_wp2
          go_loopw [104] (fun v wz => GrRel m g capG w2.heap.size #[.int .i64 2, .string ⟨N.toArray⟩, .slice a5 L.length cap5, .string ⟨#[]⟩, .int .i64 0, .int .i64 (j : Int)] w1.heap.size (.slice a5 L.length cap5) L w v wz) (fun v _ => m.length - (RowKit.intOf v).toNat)
          case atStart => exact ⟨0, rfl, by omega, by simp, HB4.out, HK4.out, HOW4.out, HO4.out⟩
          case round =>
            generalize wr = wz at *
            obtain ⟨x, rfl, hx1, hx2, hbz, hkz, hoz, hrz⟩ := hrel
            have HX2 := Lib.hid hx2
            have HBZ := Lib.hid hbz
            have HKZ := Lib.hid hkz
            have HOZ := Lib.hid hoz
            have hszz := hbz.size
            by_cases hxl : x < m.length
            · have hxl1 : (x : Int) < (j : Int) := by omega
              have hcx := hrz.cellAt x (by omega)
              rw [bytes_at _ _ (by rw [half_len]; exact hxl), half_at m x hxl] at hcx
              have hfx := hrz.frozenAt x
              have hst := hrz.stored x (.int .u8 (((at0 m x : Nat) : Int) - 32))
              have hb256 := at0_lt m x
              have hgx : m[x].toNat = at0 m x := by unfold at0; rw [List.getD_eq_getElem?_getD, List.getElem?_eq_getElem hxl]; rfl
              by_cases h61 : at0 m x = 61
              · have u1 : (((at0 m x : Nat) : Int) == 61) = true := by simp [h61]
                generalize at0 m x = C at hcx u1 hb256
                clear hst hrz hbz hkz hoz hx2 h61 hgx
                go_wp2
                go_ret
                exact ⟨rfl, HBZ.out⟩
              · have u1 : (((at0 m x : Nat) : Int) == 61) = false := by simp; omega
                have h61' : (61 : UInt8) ∉ m.take (x + 1) := by
                  rw [List.take_succ_eq_append_getElem hxl]
                  intro q
                  rcases List.mem_append.1 q with q | q
                  · exact hx2 q
                  · simp at q
                    apply h61
                    rw [← hgx, ← q]
                    rfl
                have H61 := Lib.hid h61'
                by_cases hlet : 97 ≤ at0 m x ∧ at0 m x ≤ 122
                · have u2 : (97 : Int) ≤ ((at0 m x : Nat) : Int) := by omega
                  have u3 : ((at0 m x : Nat) : Int) ≤ 122 := by omega
                  have hup : ((upB m[x]).toNat : Int) = ((at0 m x : Nat) : Int) - 32 := by
                    rw [upB_nat, hgx]; unfold upN; rw [if_pos hlet]; omega
                  have e1 : (Lib.byteCells (half m x)).set x (.int .u8 (((at0 m x : Nat) : Int) - 32)) = Lib.byteCells (half m (x + 1)) := by
                    rw [half_succ m x hxl, bytes_set, hup]
                  rw [e1] at hst
                  have hgne : (Value.slice a5 L.length cap5).ownBlock = none ∨ (Value.slice a5 L.length cap5).ownBlock ≠ some g := by
                    have q1 := (hrz.lt g rfl).1
                    cases hv : (Value.slice a5 L.length cap5).ownBlock with
                    | none => exact Or.inl rfl
                    | some q => have := (HLT.out q hv); exact Or.inr (by simp; omega)
                  have hgz := (hrz.lt g rfl).1
                  have HST := Lib.hid hst.1
                  have HBN := Lib.hid (hbz.grown hst.2 hszz (fun q hq => by injection hq with hq; omega))
                  have HKN := Lib.hid (hkz.grown hst.2 (by simp; omega))
                  have HON := Lib.hid (hoz.kept hst.2 hgne)
                  generalize at0 m x = C at hcx u1 u2 u3 hb256 HST HBN HKN HON
                  clear hst hrz hbz hkz hoz hx2 h61 hgx hup e1 hlet h61' hgne
                  go_wp2
                  go_roundw
                  case rel => exact ⟨x + 1, by go_num, by omega, H61.out, HBN.out, HKN.out, HON.out, HST.out⟩
                  case measure => simp [RowKit.intOf]; omega
                · have hkeep : half m (x + 1) = half m x := half_keep m x hxl (by unfold upB; rw [if_neg (by rw [hgx]; exact hlet)])
                  rw [← hkeep] at hrz
                  have HRZ := Lib.hid hrz
                  by_cases u2 : (97 : Int) ≤ ((at0 m x : Nat) : Int)
                  · have u3 : ¬ (((at0 m x : Nat) : Int) ≤ 122) := by omega
                    generalize at0 m x = C at hcx u1 u2 u3 hb256
                    clear hst hrz hbz hkz hoz hx2 h61 hgx hlet hkeep h61'
                    go_wp2
                    go_roundw
                    case rel => exact ⟨x + 1, by go_num, by omega, H61.out, HBZ.out, HKZ.out, HOZ.out, HRZ.out⟩
                    case measure => simp [RowKit.intOf]; omega
                  · generalize at0 m x = C at hcx u1 u2 hb256
                    clear hst hrz hbz hkz hoz hx2 h61 hgx hlet hkeep h61'
                    go_wp2
                    go_roundw
                    case rel => exact ⟨x + 1, by go_num, by omega, H61.out, HBZ.out, HKZ.out, HOZ.out, HRZ.out⟩
                    case measure => simp [RowKit.intOf]; omega
            · have hxl1 : ¬ ((x : Int) < (j : Int)) := by omega
              have hfull : half m x = upL m := by unfold half; rw [List.take_of_length_le (by omega), List.drop_of_length_le (by omega), List.append_nil]
              have h61 : (61 : UInt8) ∉ m := by rw [List.take_of_length_le (by omega)] at hx2; exact hx2
              rw [hfull] at hrz
              have hrz' : wz.ownsRow (w2.heap.size + 1) 5 1 (.slice (some ⟨g, 0, none⟩) m.length capG) (upL m).length (Lib.byteCells (upL m)) := by rw [upL_len]; exact hrz
              obtain ⟨aG, cG, hvG, hsG⟩ := sl_bytes hrz'
              simp only [Value.slice.injEq] at hvG
              obtain ⟨rfl, -, rfl⟩ := hvG
              obtain ⟨hg1, hg2⟩ := HG.out (by rw [HM.out]; exact h61)
              rw [HM.out] at hg1 hg2
              have cR := read_on (l := upL m) (a := some ⟨g, 0, none⟩) (cap := capG) (w := wz) 0 hsG (HT.out.below hbz) (by rw [upL_len]; omega)
              rw [upL_len, hmlen] at cR
              have HG1 := Lib.hid hg1
              have HG2 := Lib.hid (decide_eq_true hg2 : decide (bgAt (upL m) 0 ≠ 0) = true)
              clear hrz hrz' hfull h61 hx2 hg1 hg2 hsG hbz hkz hoz
              go_wp2_with fail
              refine cR.mono ?_
              rintro e w6 ⟨s6, rfl, ho6, hb6⟩
              rw [HG1.out, HTK.out] at ho6 ⊢
              rw [HG2.out]
              obtain ⟨a7, cap7, rfl, hs7⟩ := At.sl_own ho6
              unfold tokV
              simp only at ho6 hs7 ⊢
              have hA : Below wz.heap.size wz (w6.alloc (.cells #[.int .i64 2, .string ⟨N.toArray⟩, .slice a7 L.length cap7, .string ⟨#[]⟩, .int .i64 0, .int .i64 (j : Int)] 29)) := hb6.alloc hb6.size _
              have hkA := bk_new w6 #[.int .i64 2, .string ⟨N.toArray⟩, .slice a7 L.length cap7, .string ⟨#[]⟩, .int .i64 0, .int .i64 (j : Int)] 29
              have hkT := HKZ.out.below hA
              have hs7A := hs7.below ((Below.refl _ w6).alloc (Nat.le_refl _) (.cells #[.int .i64 2, .string ⟨N.toArray⟩, .slice a7 L.length cap7, .string ⟨#[]⟩, .int .i64 0, .int .i64 (j : Int)] 29))
              have hs5A := sl_of (At.ownsRow_below HOZ.out hA)
              obtain ⟨WA, hWA⟩ : ∃ WA, w6.alloc (.cells #[.int .i64 2, .string ⟨N.toArray⟩, .slice a7 L.length cap7, .string ⟨#[]⟩, .int .i64 0, .int .i64 (j : Int)] 29) = WA := ⟨_, rfl⟩
              rw [hWA] at hA hkA hkT hs7A hs5A
              have dr : Below WA.heap.size WA WA.drew := ⟨rfl, rfl, rfl, Nat.le_refl _, fun _ _ => rfl⟩
              have cTo1 := to_tok 2 N L 0 (j : Int) a7 cap7 WA.drew (hs7A.below dr) hLl
              have SA := six2 hkA hkT
              have SD := six2 hkA.drew hkT.drew
              have HKA := Lib.hid hkA
              have HS5 := Lib.hid hs5A
              have HKT := Lib.hid hkT
              have HBA := Lib.hid (HBZ.out.trans (hA.mono hszz))
              clear hA hkA hkT hs7A hs5A dr hs7 ho6 hb6 cR
              go_wp2_with fail
              go_region_held3 (fun w' => (w'.cell? ⟨w6.heap.size, 0, none⟩ = some (.int .i64 2) ∧ w'.cell? ⟨w6.heap.size, 1, none⟩ = some (.string ⟨N.toArray⟩) ∧ w'.cell? ⟨w6.heap.size, 2, none⟩ = some (.slice a7 L.length cap7) ∧ w'.cell? ⟨w6.heap.size, 3, none⟩ = some (.string ⟨#[]⟩) ∧ w'.cell? ⟨w6.heap.size, 4, none⟩ = some (.int .i64 0) ∧ w'.cell? ⟨w6.heap.size, 5, none⟩ = some (.int .i64 (j : Int))) ∧ w'.cell? ⟨w2.heap.size, 0, none⟩ = some (.int .i64 2) ∧ w'.cell? ⟨w2.heap.size, 1, none⟩ = some (.string ⟨N.toArray⟩) ∧ w'.cell? ⟨w2.heap.size, 2, none⟩ = some (.slice a5 L.length cap5) ∧ w'.cell? ⟨w2.heap.size, 3, none⟩ = some (.string ⟨#[]⟩) ∧ w'.cell? ⟨w2.heap.size, 4, none⟩ = some (.int .i64 0) ∧ w'.cell? ⟨w2.heap.size, 5, none⟩ = some (.int .i64 (j : Int))) (first | with_reducible exact S10 | with_reducible exact S8 | with_reducible exact S7 | with_reducible exact SA | with_reducible exact SD)
                (first
                | (go_at_call 13; with_reducible refine cTo1.mono ?_; rintro e w7 ⟨a8, cap8, rfl, ho8, hb8⟩; have hb8 := below_of_drew hb8; have S7 := six2 (HKA.out.below hb8) (HKT.out.below hb8); have HK7 := Lib.hid (HKA.out.below hb8); have HT7 := Lib.hid (HKT.out.below hb8); have cTo2 := to_tok 2 N L 0 (j : Int) a5 cap5 w7 (HS5.out.below hb8) hLl; have HO8 := Lib.hid ho8; have HB8 := Lib.hid (HBA.out.trans (hb8.mono HBA.out.size)); clear ho8 hb8)
                | (go_at_call 13; with_reducible refine cTo2.mono ?_; rintro e w8 ⟨a9, cap9, rfl, ho9, hb9⟩; have S8 := six2 (HK7.out.below hb9) (HT7.out.below hb9); have HK8 := Lib.hid (HK7.out.below hb9); have HT8 := Lib.hid (HT7.out.below hb9); have cSm := same_tok 2 N L 0 (j : Int) a8 cap8 a9 cap9 w8 ((sl_of HO8.out).below hb9) (sl_of ho9) hLl; have HB9 := Lib.hid (HB8.out.trans (hb9.mono HB8.out.size)); clear ho9 hb9)
                | (go_at_call 12; refine cSm.mono ?_; rintro e w10 ⟨rfl, hb10⟩; have S10 := six2 (HK8.out.below hb10) (HT8.out.below hb10); have HB10 := Lib.hid (HB9.out.trans (hb10.mono HB9.out.size)); clear hb10))
              all_goals (try go_wp2)
              all_goals go_ret
              all_goals exact ⟨rfl, HB10.out⟩
    · go_enter Tryd.func6, Tryd.ntmps6
      go_wp2_with fail
      refine (tspeaks_any w HT.out).mono ?_
      rintro e w1 ⟨rfl, hb1⟩
      go_wp2_with fail
      refine (read_on 0 (HS.out.below hb1) (HT.out.below hb1) (by omega)).mono ?_
      rintro e w2 ⟨s, rfl, ho2, hb2⟩
      rw [HTK.out] at ho2 ⊢
      rw [HD.out]
      obtain ⟨a5, cap5, rfl, -⟩ := At.sl_own ho2
      unfold tokV
      simp only at ho2 ⊢
      have hbw2 := below_trans hb1 hb2
      have hzw2 := hbw2.size
      have HB2 := Lib.hid (hbw2.alloc hbw2.size (.cells #[.int .i64 3, .string ⟨N.toArray⟩, .slice a5 L.length cap5, .string ⟨#[]⟩, .int .i64 0, .int .i64 (e0 : Int)] 29))
      have HO2 := Lib.hid (ho2.alloc (.cells #[.int .i64 3, .string ⟨N.toArray⟩, .slice a5 L.length cap5, .string ⟨#[]⟩, .int .i64 0, .int .i64 (e0 : Int)] 29))
      have HLT := Lib.hid (fun q hq => (ho2.lt q hq).2 : ∀ q, (Value.slice a5 L.length cap5).ownBlock = some q → q < w2.heap.size)
      have HK2 := Lib.hid (bk_new w2 #[.int .i64 3, .string ⟨N.toArray⟩, .slice a5 L.length cap5, .string ⟨#[]⟩, .int .i64 0, .int .i64 (e0 : Int)] 29)
      have t1 : ¬ ((l.length : Int) < (e0 : Int)) := by omega
      clear ho2 hb1 hb2
      go_wp2
      go_loopw [6] (fun v wr => FrRel l e0 2 w2.heap.size #[.int .i64 3, .string ⟨N.toArray⟩, .slice a5 L.length cap5, .string ⟨#[]⟩, .int .i64 0, .int .i64 (e0 : Int)] w1.heap.size (.slice a5 L.length cap5) L w v wr) (fun v _ => e0 - (RowKit.intOf v).toNat)
      case atStart => exact ⟨3, rfl, by omega, by omega, HB2.out, HK2.out, HO2.out⟩
      case round =>
        obtain ⟨j, rfl, hj1, hj2, hbw, hbk, how⟩ := hrel
        obtain ⟨q0, q1, q2, q3, q4, q5, -, -, -, -, -, -⟩ := hbk.six
        have HBW := Lib.hid hbw
        have HBK := Lib.hid hbk
        have HOW := Lib.hid how
        have hszw := hbw.size
        have hbl := hbk.lt
        by_cases hlt : j < e0
        · have hlt1 : (j : Int) < (e0 : Int) := by omega
          have hjl : (l.take j).length = j := by simp; omega
          have hjc : j ≤ cap := by omega
          have cR := read_on (l := l.take j) (a := some ⟨b, off, none⟩) (cap := cap) (w := wr) 0 ⟨by omega, Or.inr ⟨b, off, rfl, by
            obtain ⟨-, hz | ⟨b', off', hb', hc'⟩⟩ := HS.out.below hbw
            · exact absurd hz hne
            · cases hb'; exact Cells.take' hc' j⟩⟩ (HT.out.below hbw) (by omega)
          obtain ⟨ht1, ht2⟩ := HC.out j (by omega) hlt
          have HT1 := Lib.hid ht1
          have HT2 := Lib.hid (decide_eq_true ht2 : decide (bgAt (l.take j) 0 ≠ 0) = true)
          rw [hjl] at cR
          clear hbw hbk how ht1 ht2 hjl
          go_wp2_with fail
          refine cR.mono ?_
          rintro e w3 ⟨s3, rfl, ho3, hb3⟩
          rw [HT1.out] at ho3 ⊢
          rw [HT2.out]
          obtain ⟨a6, cap6, rfl, -⟩ := At.sl_own ho3
          unfold tokV
          simp only
          have HB3 := Lib.hid (HBW.out.trans (hb3.mono hszw))
          have HK3 := Lib.hid (HBK.out.below hb3)
          have HO3 := Lib.hid (At.ownsRow_below HOW.out hb3)
          clear ho3 hb3 cR
          go_wp2
          go_roundw
          case rel => exact ⟨j + 1, by go_num, by omega, by omega, HB3.out.alloc HB3.out.size _, HK3.out.alloc _, HO3.out.alloc _⟩
          case measure => simp [RowKit.intOf]; omega
        · have hlt1 : ¬ ((j : Int) < (e0 : Int)) := by omega
          obtain rfl : j = e0 := by omega
          obtain ⟨i5, hi5, hp5⟩ := info5
          simp only [Prod.mk.injEq] at hp5
          obtain ⟨hz5, hsz5, hby5⟩ := hp5
          have HI5 := Lib.hid hi5
          have HZ5 := Lib.hid hz5
          have HS5 := Lib.hid hsz5
          have HB5 := Lib.hid hby5
          have hbA : Below wr.heap.size wr (wr.alloc (.cells #[] 5)) := (Below.refl _ wr).alloc (Nat.le_refl _) _
          have hown0 : (wr.alloc (.cells #[] 5)).ownsRow (w2.heap.size + 1) 5 1 (.slice (some ⟨wr.heap.size, 0, none⟩) 0 0) ([] : List UInt8).length (Lib.byteCells []) := by
            refine ⟨by simp [Lib.byteCells], Or.inr ⟨wr.heap.size, 0, #[], rfl, by omega, ?_, by simp, by simp, by simp, by simp [Lib.byteCells]⟩⟩
            simp [World.alloc, -World.alloc_eq]
          obtain ⟨-, hz | ⟨b', off', hb', hcA⟩⟩ := HS.out.below (HBW.out.trans (hbA.mono hszw))
          · exact absurd hz hne
          cases hb'
          have HCA := Lib.hid hcA
          have hjc : j ≤ cap := by omega
          clear hi5 hz5 hsz5 hby5 hcA hbw hbk how
          go_wp2_with (at_builtin; refine wpList_append_own _ rfl (.tmp 96) (.tmp 100) 22 rfl (w2.heap.size + 1) 5 i5 (.int .u8 0) 1 1 Tryd.underlying22 HI5.out HZ5.out HS5.out HB5.out rfl (by decide) _ _ _ rfl hown0 ⟨b, off, none⟩ _ _ (Lib.byteCells (l.take j)) rfl ?c0 ?c1 ?c2 ?c3 ?c4 ?c5 ?_)
          case c0 => rw [Lib.byteCells_length]; simp; omega
          case c1 =>
            intro q u hq
            (try rw [At.add_lit])
            have hql : q < (l.take j).length := by
              rcases Nat.lt_or_ge q (l.take j).length with z | z
              · exact z
              · rw [List.getElem?_eq_none (by rw [Lib.byteCells_length]; exact z)] at hq; cases hq
            rw [bytes_at _ _ hql] at hq
            rw [← hq]
            exact Cells.take' HCA.out j q hql
          case c2 =>
            intro u hu
            unfold Lib.byteCells at hu
            obtain ⟨z, _, rfl⟩ := List.mem_map.1 hu
            rfl
          case c3 => unfold maxLen; simp; omega
          case c4 => first | omega | (simp; omega)
          case c5 => first | omega | (simp; omega)
          intro v4 w4 hown4 hgr4 _
          have hb4 : Below wr.heap.size wr w4 := hbA.grown hgr4 (by simp) (fun q hq => by have hq' : some wr.heap.size = some q := hq; injection hq' with hq'; omega)
          have hmlen : (l.take j).length = j := by simp; omega
          obtain ⟨g, capG, rfl⟩ : ∃ g capG, v4 = .slice (some ⟨g, 0, none⟩) j capG := by
            rcases hown4.2 with ⟨_, q0⟩ | ⟨g, capG, cur, hv, _⟩
            · exfalso; first | omega | (simp at q0; omega)
            · exact ⟨g, capG, by first | exact hv | (rw [hv]; simp)⟩
          obtain ⟨m, hm⟩ : ∃ m, l.take j = m := ⟨_, rfl⟩
          have hown4' : w4.ownsRow (w2.heap.size + 1) 5 1 (.slice (some ⟨g, 0, none⟩) m.length capG) m.length (Lib.byteCells (half m 0)) := by
            have e1 : half m 0 = m := by unfold half upL; simp
            rw [e1, ← hm, hmlen]
            have e2 : 0 + j = j := by omega
            simpa [Lib.byteCells] using hown4
          have HO4 := Lib.hid hown4'
          have HB4 := Lib.hid (HBW.out.trans (hb4.mono hszw))
          have HK4 := Lib.hid (HBK.out.below hb4)
          have HOW4 := Lib.hid (At.ownsRow_below HOW.out hb4)
          rw [hm] at hmlen
          have HM := Lib.hid hm
          clear hown4 hown4' hgr4 hb4 hbA hown0 HCA hm q0 q1 q2 q3 q4 q5 HBW HBK HOW
          go_wp2
          go_loopw [104] (fun v wz => GrRel m g capG w2.heap.size #[.int .i64 3, .string ⟨N.toArray⟩, .slice a5 L.length cap5, .string ⟨#[]⟩, .int .i64 0, .int .i64 (j : Int)] w1.heap.size (.slice a5 L.length cap5) L w v wz) (fun v _ => m.length - (RowKit.intOf v).toNat)
          case atStart => exact ⟨0, rfl, by omega, by simp, HB4.out, HK4.out, HOW4.out, HO4.out⟩
          case round =>
            generalize wr = wz at *
            obtain ⟨x, rfl, hx1, hx2, hbz, hkz, hoz, hrz⟩ := hrel
            have HX2 := Lib.hid hx2
            have HBZ := Lib.hid hbz
            have HKZ := Lib.hid hkz
            have HOZ := Lib.hid hoz
            have hszz := hbz.size
            by_cases hxl : x < m.length
            · have hxl1 : (x : Int) < (j : Int) := by omega
              have hcx := hrz.cellAt x (by omega)
              rw [bytes_at _ _ (by rw [half_len]; exact hxl), half_at m x hxl] at hcx
              have hfx := hrz.frozenAt x
              have hst := hrz.stored x (.int .u8 (((at0 m x : Nat) : Int) - 32))
              have hb256 := at0_lt m x
              have hgx : m[x].toNat = at0 m x := by unfold at0; rw [List.getD_eq_getElem?_getD, List.getElem?_eq_getElem hxl]; rfl
              by_cases h61 : at0 m x = 61
              · have u1 : (((at0 m x : Nat) : Int) == 61) = true := by simp [h61]
                generalize at0 m x = C at hcx u1 hb256
                clear hst hrz hbz hkz hoz hx2 h61 hgx
                go_wp2
                go_ret
                exact ⟨rfl, HBZ.out⟩
              · have u1 : (((at0 m x : Nat) : Int) == 61) = false := by simp; omega
                have h61' : (61 : UInt8) ∉ m.take (x + 1) := by
                  rw [List.take_succ_eq_append_getElem hxl]
                  intro q
                  rcases List.mem_append.1 q with q | q
                  · exact hx2 q
                  · simp at q
                    apply h61
                    rw [← hgx, ← q]
                    rfl
                have H61 := Lib.hid h61'
                by_cases hlet : 97 ≤ at0 m x ∧ at0 m x ≤ 122
                · have u2 : (97 : Int) ≤ ((at0 m x : Nat) : Int) := by omega
                  have u3 : ((at0 m x : Nat) : Int) ≤ 122 := by omega
                  have hup : ((upB m[x]).toNat : Int) = ((at0 m x : Nat) : Int) - 32 := by
                    rw [upB_nat, hgx]; unfold upN; rw [if_pos hlet]; omega
                  have e1 : (Lib.byteCells (half m x)).set x (.int .u8 (((at0 m x : Nat) : Int) - 32)) = Lib.byteCells (half m (x + 1)) := by
                    rw [half_succ m x hxl, bytes_set, hup]
                  rw [e1] at hst
                  have hgne : (Value.slice a5 L.length cap5).ownBlock = none ∨ (Value.slice a5 L.length cap5).ownBlock ≠ some g := by
                    have q1 := (hrz.lt g rfl).1
                    cases hv : (Value.slice a5 L.length cap5).ownBlock with
                    | none => exact Or.inl rfl
                    | some q => have := (HLT.out q hv); exact Or.inr (by simp; omega)
                  have hgz := (hrz.lt g rfl).1
                  have HST := Lib.hid hst.1
                  have HBN := Lib.hid (hbz.grown hst.2 hszz (fun q hq => by injection hq with hq; omega))
                  have HKN := Lib.hid (hkz.grown hst.2 (by simp; omega))
                  have HON := Lib.hid (hoz.kept hst.2 hgne)
                  generalize at0 m x = C at hcx u1 u2 u3 hb256 HST HBN HKN HON
                  clear hst hrz hbz hkz hoz hx2 h61 hgx hup e1 hlet h61' hgne
                  go_wp2
                  go_roundw
                  case rel => exact ⟨x + 1, by go_num, by omega, H61.out, HBN.out, HKN.out, HON.out, HST.out⟩
                  case measure => simp [RowKit.intOf]; omega
                · have hkeep : half m (x + 1) = half m x := half_keep m x hxl (by unfold upB; rw [if_neg (by rw [hgx]; exact hlet)])
                  rw [← hkeep] at hrz
                  have HRZ := Lib.hid hrz
                  by_cases u2 : (97 : Int) ≤ ((at0 m x : Nat) : Int)
                  · have u3 : ¬ (((at0 m x : Nat) : Int) ≤ 122) := by omega
                    generalize at0 m x = C at hcx u1 u2 u3 hb256
                    clear hst hrz hbz hkz hoz hx2 h61 hgx hlet hkeep h61'
                    go_wp2
                    go_roundw
                    case rel => exact ⟨x + 1, by go_num, by omega, H61.out, HBZ.out, HKZ.out, HOZ.out, HRZ.out⟩
                    case measure => simp [RowKit.intOf]; omega
                  · generalize at0 m x = C at hcx u1 u2 hb256
                    clear hst hrz hbz hkz hoz hx2 h61 hgx hlet hkeep h61'
                    go_wp2
                    go_roundw
                    case rel => exact ⟨x + 1, by go_num, by omega, H61.out, HBZ.out, HKZ.out, HOZ.out, HRZ.out⟩
                    case measure => simp [RowKit.intOf]; omega
            · have hxl1 : ¬ ((x : Int) < (j : Int)) := by omega
              have hfull : half m x = upL m := by unfold half; rw [List.take_of_length_le (by omega), List.drop_of_length_le (by omega), List.append_nil]
              have h61 : (61 : UInt8) ∉ m := by rw [List.take_of_length_le (by omega)] at hx2; exact hx2
              rw [hfull] at hrz
              have hrz' : wz.ownsRow (w2.heap.size + 1) 5 1 (.slice (some ⟨g, 0, none⟩) m.length capG) (upL m).length (Lib.byteCells (upL m)) := by rw [upL_len]; exact hrz
              obtain ⟨aG, cG, hvG, hsG⟩ := sl_bytes hrz'
              simp only [Value.slice.injEq] at hvG
              obtain ⟨rfl, -, rfl⟩ := hvG
              obtain ⟨hg1, hg2⟩ := HG.out (by rw [HM.out]; exact h61)
              rw [HM.out] at hg1 hg2
              have cR := read_on (l := upL m) (a := some ⟨g, 0, none⟩) (cap := capG) (w := wz) 0 hsG (HT.out.below hbz) (by rw [upL_len]; omega)
              rw [upL_len, hmlen] at cR
              have HG1 := Lib.hid hg1
              have HG2 := Lib.hid (decide_eq_true hg2 : decide (bgAt (upL m) 0 ≠ 0) = true)
              clear hrz hrz' hfull h61 hx2 hg1 hg2 hsG hbz hkz hoz
              go_wp2_with fail
              refine cR.mono ?_
              rintro e w6 ⟨s6, rfl, ho6, hb6⟩
              rw [HG1.out, HTK.out] at ho6 ⊢
              rw [HG2.out]
              obtain ⟨a7, cap7, rfl, hs7⟩ := At.sl_own ho6
              unfold tokV
              simp only at ho6 hs7 ⊢
              have hA : Below wz.heap.size wz (w6.alloc (.cells #[.int .i64 3, .string ⟨N.toArray⟩, .slice a7 L.length cap7, .string ⟨#[]⟩, .int .i64 0, .int .i64 (j : Int)] 29)) := hb6.alloc hb6.size _
              have hkA := bk_new w6 #[.int .i64 3, .string ⟨N.toArray⟩, .slice a7 L.length cap7, .string ⟨#[]⟩, .int .i64 0, .int .i64 (j : Int)] 29
              have hkT := HKZ.out.below hA
              have hs7A := hs7.below ((Below.refl _ w6).alloc (Nat.le_refl _) (.cells #[.int .i64 3, .string ⟨N.toArray⟩, .slice a7 L.length cap7, .string ⟨#[]⟩, .int .i64 0, .int .i64 (j : Int)] 29))
              have hs5A := sl_of (At.ownsRow_below HOZ.out hA)
              obtain ⟨WA, hWA⟩ : ∃ WA, w6.alloc (.cells #[.int .i64 3, .string ⟨N.toArray⟩, .slice a7 L.length cap7, .string ⟨#[]⟩, .int .i64 0, .int .i64 (j : Int)] 29) = WA := ⟨_, rfl⟩
              rw [hWA] at hA hkA hkT hs7A hs5A
              have dr : Below WA.heap.size WA WA.drew := ⟨rfl, rfl, rfl, Nat.le_refl _, fun _ _ => rfl⟩
              have cTo1 := to_tok 3 N L 0 (j : Int) a7 cap7 WA.drew (hs7A.below dr) hLl
              have SA := six2 hkA hkT
              have SD := six2 hkA.drew hkT.drew
              have HKA := Lib.hid hkA
              have HS5 := Lib.hid hs5A
              have HKT := Lib.hid hkT
              have HBA := Lib.hid (HBZ.out.trans (hA.mono hszz))
              clear hA hkA hkT hs7A hs5A dr hs7 ho6 hb6 cR
              go_wp2_with fail
              go_region_held3 (fun w' => (w'.cell? ⟨w6.heap.size, 0, none⟩ = some (.int .i64 3) ∧ w'.cell? ⟨w6.heap.size, 1, none⟩ = some (.string ⟨N.toArray⟩) ∧ w'.cell? ⟨w6.heap.size, 2, none⟩ = some (.slice a7 L.length cap7) ∧ w'.cell? ⟨w6.heap.size, 3, none⟩ = some (.string ⟨#[]⟩) ∧ w'.cell? ⟨w6.heap.size, 4, none⟩ = some (.int .i64 0) ∧ w'.cell? ⟨w6.heap.size, 5, none⟩ = some (.int .i64 (j : Int))) ∧ w'.cell? ⟨w2.heap.size, 0, none⟩ = some (.int .i64 3) ∧ w'.cell? ⟨w2.heap.size, 1, none⟩ = some (.string ⟨N.toArray⟩) ∧ w'.cell? ⟨w2.heap.size, 2, none⟩ = some (.slice a5 L.length cap5) ∧ w'.cell? ⟨w2.heap.size, 3, none⟩ = some (.string ⟨#[]⟩) ∧ w'.cell? ⟨w2.heap.size, 4, none⟩ = some (.int .i64 0) ∧ w'.cell? ⟨w2.heap.size, 5, none⟩ = some (.int .i64 (j : Int))) (first | with_reducible exact S10 | with_reducible exact S8 | with_reducible exact S7 | with_reducible exact SA | with_reducible exact SD)
                (first
                | (go_at_call 13; with_reducible refine cTo1.mono ?_; rintro e w7 ⟨a8, cap8, rfl, ho8, hb8⟩; have hb8 := below_of_drew hb8; have S7 := six2 (HKA.out.below hb8) (HKT.out.below hb8); have HK7 := Lib.hid (HKA.out.below hb8); have HT7 := Lib.hid (HKT.out.below hb8); have cTo2 := to_tok 3 N L 0 (j : Int) a5 cap5 w7 (HS5.out.below hb8) hLl; have HO8 := Lib.hid ho8; have HB8 := Lib.hid (HBA.out.trans (hb8.mono HBA.out.size)); clear ho8 hb8)
                | (go_at_call 13; with_reducible refine cTo2.mono ?_; rintro e w8 ⟨a9, cap9, rfl, ho9, hb9⟩; have S8 := six2 (HK7.out.below hb9) (HT7.out.below hb9); have HK8 := Lib.hid (HK7.out.below hb9); have HT8 := Lib.hid (HT7.out.below hb9); have cSm := same_tok 3 N L 0 (j : Int) a8 cap8 a9 cap9 w8 ((sl_of HO8.out).below hb9) (sl_of ho9) hLl; have HB9 := Lib.hid (HB8.out.trans (hb9.mono HB8.out.size)); clear ho9 hb9)
                | (go_at_call 12; refine cSm.mono ?_; rintro e w10 ⟨rfl, hb10⟩; have S10 := six2 (HK8.out.below hb10) (HT8.out.below hb10); have HB10 := Lib.hid (HB9.out.trans (hb10.mono HB9.out.size)); clear hb10))
              all_goals (try go_wp2)
              all_goals go_ret
              all_goals exact ⟨rfl, HB10.out⟩
end Go.Proofs.YtfnecdifaodamaaDoor.Tg
