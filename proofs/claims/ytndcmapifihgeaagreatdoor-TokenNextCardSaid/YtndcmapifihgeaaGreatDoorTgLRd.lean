/- Plain mathematics of layer 7, on: a tag without = whose letters are made great is the same tag. Nothing of the program's text. -/
import Derived.Test.YtndcmapifihgeaaGreatDoorTgStab
import Derived.Test.YtndcmapifihgeaaGreatDoorTgTo
import Derived.Test.YtndcmapifihgeaaGreatDoorSpk
import Derived.Laws.OwnMore
import Derived.Deep.RegionWith
import Derived.Test.YtndcmapifihgeaaGreatDoorTgRRd
import Derived.Deep.DeepCutAuto
namespace Go.Proofs.YtndcmapifihgeaaGreatDoor.Tg
open Go.Lib
open Ch (at0 nx nx_width nx_range at0_lt at0_drop enc_len nx_enc good nx_good Good)
open Kl (blankN greatN)
open At (ads names)

/-- a letter made great -/
def upN (c : Nat) : Nat := if 97 ≤ c ∧ c ≤ 122 then c - 32 else c
def upB (b : UInt8) : UInt8 := if 97 ≤ b.toNat ∧ b.toNat ≤ 122 then b - 32 else b
theorem upB_nat (b : UInt8) : (upB b).toNat = upN b.toNat := by
  unfold upB upN
  split
  · rename_i h
    rw [UInt8.toNat_sub_of_le]
    · rfl
    · rw [UInt8.le_iff_toNat_le]
      show 32 ≤ b.toNat
      omega
  · rfl
def upL (m : List UInt8) : List UInt8 := m.map upB
theorem upL_len (m : List UInt8) : (upL m).length = m.length := List.length_map _
theorem upL_drop (m : List UInt8) (k : Nat) : (upL m).drop k = upL (m.drop k) := (List.map_drop).symm
theorem upL_nil {m : List UInt8} : upL m = [] ↔ m = [] := List.map_eq_nil_iff
theorem at0_up (m : List UInt8) (j : Nat) : at0 (upL m) j = upN (at0 m j) := by
  unfold at0 upL
  rw [List.getD_eq_getElem?_getD, List.getD_eq_getElem?_getD, List.getElem?_map]
  cases m[j]? with
  | none => rfl
  | some b => exact upB_nat b
theorem upN_high {c : Nat} (h : 128 ≤ c) : upN c = c := if_neg (by omega)
theorem upN_lt (c : Nat) (h : c < 128) : upN c < 128 := by unfold upN; split <;> omega
theorem upN_eq (c d : Nat) (hd : ¬ (65 ≤ d ∧ d ≤ 90) ∧ ¬ (97 ≤ d ∧ d ≤ 122)) : upN c = d ↔ c = d := by
  unfold upN; split <;> omega
theorem upN_div (c : Nat) : upN c / 64 = 2 ↔ c / 64 = 2 := by
  unfold upN; split <;> omega
theorem upN_same (c : Nat) (h : c / 64 = 2) : upN c = c := upN_high (by omega)

set_option maxRecDepth 100000 in
theorem nx_up (m : List UInt8) : nx (upL m) = (upN (nx m).1, (nx m).2) := by
  unfold nx
  rw [at0_up, at0_up, at0_up, at0_up, upL_len]
  by_cases h0 : at0 m 0 = 0
  · rw [if_pos h0, if_pos ((upN_eq _ 0 (by omega)).2 h0)]; rfl
  · rw [if_neg h0, if_neg (fun k => h0 ((upN_eq _ 0 (by omega)).1 k))]
    by_cases h13 : at0 m 0 = 13
    · rw [if_pos h13, if_pos ((upN_eq _ 13 (by omega)).2 h13)]
      simp only [upN_eq (at0 m 1) 10 (by omega)]
      rfl
    · rw [if_neg h13, if_neg (fun k => h13 ((upN_eq _ 13 (by omega)).1 k))]
      by_cases hl : at0 m 0 < 128
      · rw [decodeN_ascii _ _ _ _ _ hl, decodeN_ascii _ _ _ _ _ (upN_lt _ hl)]
      · rw [upN_high (by omega : 128 ≤ at0 m 0)]
        have e : decodeN m.length (at0 m 0) (upN (at0 m 1)) (upN (at0 m 2)) (upN (at0 m 3)) = decodeN m.length (at0 m 0) (at0 m 1) (at0 m 2) (at0 m 3) := by
          apply decodeN_eq
          · rw [upN_div]
          · exact fun k => upN_same _ k.2
          · intro _; rw [upN_div]
          · exact fun _ k => upN_same _ k.2
          · intro _ _; rw [upN_div]
          · exact fun _ _ k => upN_same _ k.2
        rw [e]
        have hh := Kl.decodeN_high m.length (at0 m 0) (at0 m 1) (at0 m 2) (at0 m 3) (by omega)
        rw [upN_high hh]

theorem lowN_up (c : Nat) : lowN (upN c) = lowN c := by
  unfold lowN upN greatN
  split
  · rename_i h
    simp only [Bool.and_eq_true, decide_eq_true_eq]
    rw [if_pos (by omega), if_neg (by omega)]
    omega
  · rfl

/-- of which it is no matter whether letters are great -/
def Inv (p : Nat → Bool) : Prop := ∀ c, p (upN c) = p c
theorem inv_blank : Inv blankN := by
  intro c; unfold blankN upN; split
  · rw [Bool.eq_iff_iff]; simp; omega
  · rfl
theorem inv_gap : Inv pGap := by
  intro c; unfold pGap; rw [inv_blank c]; congr 1
  rw [Bool.eq_iff_iff]; simp only [beq_iff_eq]; exact upN_eq _ _ (by omega)
theorem inv_tag : Inv pTag := by
  intro c; unfold pTag; rw [inv_blank c]; congr 2
  rw [Bool.eq_iff_iff]; simp only [Bool.or_eq_true, beq_iff_eq, upN_eq c 47 (by omega), upN_eq c 62 (by omega)]
theorem inv_att : Inv pAtt := by
  intro c; unfold pAtt; rw [inv_blank c]; congr 2
  rw [Bool.eq_iff_iff]; simp only [Bool.or_eq_true, beq_iff_eq, upN_eq c 47 (by omega), upN_eq c 62 (by omega), upN_eq c 61 (by omega)]

theorem ov_up {p : Nat → Bool} (hp : Inv p) (n : Nat) : ∀ m : List UInt8, m.length ≤ n → ov p (upL m) = ov p m ∧ lw p (upL m) = lw p m := by
  induction n with
  | zero => intro m h; obtain rfl : m = [] := List.eq_nil_of_length_eq_zero (by omega); exact ⟨rfl, rfl⟩
  | succ n ih =>
    intro m h
    by_cases hm : m = []
    · subst hm; exact ⟨rfl, rfl⟩
    · have hw := nx_width m hm
      have hu : upL m ≠ [] := fun k => hm (upL_nil.1 k)
      cases hc : p (nx m).1 with
      | false =>
        have h1 := ov_stop (p := p) (m := m) hc
        have h2 := ov_stop (p := p) (m := upL m) (by rw [nx_up]; simp only; rw [hp]; exact hc)
        rw [h1.1, h1.2, h2.1, h2.2]; exact ⟨rfl, rfl⟩
      | true =>
        have h1 := ov_step (p := p) hm hc
        have h2 := ov_step (p := p) hu (by rw [nx_up]; simp only; rw [hp]; exact hc)
        rw [nx_up] at h2
        simp only at h2
        rw [upL_drop, lowN_up] at h2
        have := ih (m.drop (nx m).2) (by simp; omega)
        rw [h1.1, h1.2, h2.1, h2.2, this.1, this.2]; exact ⟨rfl, rfl⟩
theorem ov_upL {p : Nat → Bool} (hp : Inv p) (m : List UInt8) : ov p (upL m) = ov p m := (ov_up hp m.length m (Nat.le_refl _)).1
theorem lw_upL {p : Nat → Bool} (hp : Inv p) (m : List UInt8) : lw p (upL m) = lw p m := (ov_up hp m.length m (Nat.le_refl _)).2
theorem hd_up (m : List UInt8) : hd (upL m) = upN (hd m) := by
  by_cases hm : m = []
  · subst hm; rfl
  · rw [hd_ne hm, hd_ne (fun k => hm (upL_nil.1 k)), nx_up]

theorem no_eq {m : List UInt8} (h : (61 : UInt8) ∉ m) (k : Nat) : hd (m.drop k) ≠ 61 := by
  intro e
  have q := hd_is (c := 61) (by decide) (by decide) (by decide) e
  have h1 := q.1
  rw [at0_drop, Nat.add_zero] at h1
  have hk := at0_in (m := m) (j := k) (by omega)
  unfold at0 at h1
  rw [List.getD_eq_getElem?_getD, List.getElem?_eq_getElem hk] at h1
  have : m[k] = 61 := UInt8.toNat_inj.1 h1
  exact h (this ▸ List.getElem_mem hk)
theorem ab_up {m : List UInt8} (h : (61 : UInt8) ∉ m) : ab (upL m) = ab m := by
  have e1 : a1 (upL m) = a1 m ∧ aN (upL m) = aN m := by
    unfold a1 aN
    rw [nx_up]
    simp only
    rw [upL_drop, ov_upL inv_att, lw_upL inv_att, lowN_up]
    exact ⟨rfl, rfl⟩
  have e2 : a2 (upL m) = a2 m := by
    unfold a2
    rw [e1.1, upL_drop, ov_upL inv_blank]
  unfold ab
  rw [e1.2, e2, upL_drop, hd_up, if_neg (no_eq h _), if_neg (fun k => no_eq h _ ((upN_eq _ 61 (by omega)).1 k))]

theorem ats_up (n : Nat) : ∀ m : List UInt8, m.length ≤ n → (61 : UInt8) ∉ m → ats (upL m) = ats m := by
  induction n with
  | zero => intro m h _; obtain rfl : m = [] := List.eq_nil_of_length_eq_zero (by omega); rfl
  | succ n ih =>
    intro m h h61
    have eo := ov_upL inv_gap m
    by_cases h0 : m.drop (ov pGap m) = []
    · rw [ats_end h0, ats_end (by rw [eo, upL_drop, h0]; rfl)]
    by_cases h62 : hd (m.drop (ov pGap m)) = 62
    · rw [ats_gt h62, ats_gt (by rw [eo, upL_drop, hd_up]; exact (upN_eq _ 62 (by omega)).2 h62), eo]
    · have hn : (61 : UInt8) ∉ m.drop (ov pGap m) := fun k => h61 (List.mem_of_mem_drop k)
      have hb := ab_le h0
      simp only [List.length_drop] at hb
      rw [ats_more h0 h62, ats_more (m := upL m) (by rw [eo, upL_drop]; exact fun k => h0 (upL_nil.1 k)) (by rw [eo, upL_drop, hd_up]; exact fun k => h62 ((upN_eq _ 62 (by omega)).1 k))]
      rw [eo, upL_drop, ab_up hn, upL_drop, ih _ (by simp; omega) (fun k => hn (List.mem_of_mem_drop k))]

theorem letN_up (c : Nat) : letN (upN c) = letN c := by
  unfold letN upN
  split
  · rw [Bool.eq_iff_iff]; simp; omega
  · rfl
theorem bg_up (m : List UInt8) : bg (upL m) = bg m := by
  unfold bg
  rw [at0_up, at0_up, at0_up, letN_up, letN_up]
  simp only [upN_eq (at0 m 0) 60 (by omega), upN_eq (at0 m 1) 47 (by omega)]
/-- with letters made great it is the same tag -/
theorem tr_up {m : List UInt8} (h : (61 : UInt8) ∉ m) : bg (upL m) = bg m ∧ tn (upL m) = tn m ∧ tr (upL m) = tr m := by
  have e1 := bg_up m
  have e2 : tw (upL m) = tw m := by unfold tw; rw [e1, upL_drop, ov_upL inv_tag]
  refine ⟨e1, ?_, ?_⟩
  · unfold tn; rw [e1, upL_drop, lw_upL inv_tag]
  · unfold tr; rw [e2, upL_drop, ats_up _ _ (Nat.le_refl _) (fun k => h (List.mem_of_mem_drop k))]
end Go.Proofs.YtndcmapifihgeaaGreatDoor.Tg

/- The document's example, walked; tokens of fronts, and of letters made great. -/
namespace Go.Proofs.YtndcmapifihgeaaGreatDoor.Tg
open Go.RowKit Go.Lib
open Ch (at0 nx nx_width nx_range at0_lt at0_drop enc_len Sl Sl.below Cells ret_str good nx_good ret_bool)
open At (cellsA ads)

variable {l : List UInt8} {a : Option Addr} {cap R i : Nat} {W w w' : World}

def exT : List UInt8 := [60, 65, 32, 72, 82, 69, 70, 61, 120, 32, 97, 62]
def exL : List At.At := [([104, 114, 101, 102], [120]), ([97], [])]
set_option maxRecDepth 100000 in
theorem ex_bg : bg exT = 1 := by decide +kernel
set_option maxRecDepth 100000 in
theorem ex_tn : tn exT = [97] := by decide +kernel
set_option maxRecDepth 100000 in
theorem ex_tr : tr exT = some (exL, 12) := by decide +kernel
set_option maxRecDepth 100000 in
theorem ex_ads : ads exL = exL := by decide +kernel
theorem ex_at : bgAt exT 0 = 1 := by
  unfold bgAt
  rw [if_pos (by decide)]
  exact ex_bg
theorem ex_tk : tkAt exT 0 = ⟨2, [97], exL, 0, 12⟩ := by
  unfold tkAt
  rw [if_neg (by rw [ex_at]; decide)]
  change tkIn exT 0 = _
  rw [tkIn_some (l := exT) (i := 0) ex_tr]
  show (⟨bg exT + 1, tn exT, if bg exT = 1 then ads exL else [], _, _⟩ : Tk) = _
  rw [ex_bg, ex_tn, ex_ads]
  rfl

theorem eq43 (x1 x2 y1 y2 : At.Str) (w : World) : (Op.equalIn 10000 75 (.agg #[.string ⟨x1.toArray⟩, .string ⟨x2.toArray⟩]) (.agg #[.string ⟨y1.toArray⟩, .string ⟨y2.toArray⟩])).run Tryz.prog w = .ok (decide ((x1, x2) = (y1, y2))) w := by
  have hS : Tryz.prog.underlying 75 = some (.struct (Tryz.prog.fieldsOf 75)) := by kernel_rfl
  have hp : Tryz.prog.stoodInHeld 75 = false := by kernel_rfl
  have u9 := Tryz.underlying9
  have a9 := Tryz.isAgg9
  have z9 := Tryz.sizeOf9
  rw [show (10000 : Nat) = 9999 + 1 from rfl, run_equalIn_agg w 9999 75 _ _ hS hp]
  simp only [Program.fieldsOf, Tryz.underlying75]
  go_simp
  by_cases h1 : x1 = y1 <;> by_cases h2 : x2 = y2 <;> simp [h1, h2]

theorem cut_tk {L : List At.At} {e k : Nat} (h0 : bg l ≠ 0) (h : tr l = some (L, e)) (h1 : bg l + 1 ≤ k) (h2 : k < e) : tkAt (l.take k) 0 = ⟨0, [], [], 0, (k : Int)⟩ ∧ bgAt (l.take k) 0 ≠ 0 := by
  obtain ⟨hb, hn⟩ := tr_cut h0 h h1 h2
  have he := (tr_stab h0 h).2.1
  have hl : (l.take k).length = k := by simp; omega
  have hbg : bgAt (l.take k) 0 = bg (l.take k) := by unfold bgAt; rw [if_pos (by omega)]; rfl
  refine ⟨?_, by rw [hbg, hb]; exact h0⟩
  unfold tkAt
  rw [if_neg (by rw [hbg, hb]; exact h0)]
  change tkIn (l.take k) 0 = _
  rw [tkIn_none (l := l.take k) (i := 0) hn, hl]
  rfl
theorem whole_tk {L : List At.At} {e : Nat} (h0 : bg l ≠ 0) (hl : l ≠ []) (h : tr l = some (L, e)) : tkAt l 0 = ⟨bg l + 1, tn l, if bg l = 1 then ads L else [], 0, (e : Int)⟩ ∧ bgAt l 0 = bg l := by
  have hbg : bgAt l 0 = bg l := by
    have := List.length_pos_iff.2 hl
    unfold bgAt; rw [if_pos (by omega)]; rfl
  refine ⟨?_, hbg⟩
  unfold tkAt
  rw [if_neg (by rw [hbg]; exact h0)]
  change tkIn l 0 = _
  rw [tkIn_some (l := l) (i := 0) h]
  simp
theorem none_tk (h : bgAt l 0 = 0) : tkAt l 0 = ⟨0, [], [], 0, 0⟩ := by unfold tkAt; rw [if_pos h]
theorem open_tk (h0 : bg l ≠ 0) (hl : l ≠ []) (h : tr l = none) : tkAt l 0 = ⟨0, [], [], 0, (l.length : Int)⟩ ∧ bgAt l 0 = bg l := by
  have hbg : bgAt l 0 = bg l := by
    have := List.length_pos_iff.2 hl
    unfold bgAt; rw [if_pos (by omega)]; rfl
  refine ⟨?_, hbg⟩
  unfold tkAt
  rw [if_neg (by rw [hbg]; exact h0)]
  change tkIn l 0 = _
  rw [tkIn_none (l := l) (i := 0) h]
  rfl
theorem great_tk {L : List At.At} {e : Nat} (h0 : bg l ≠ 0) (hl : l ≠ []) (h : tr l = some (L, e)) (h61 : (61 : UInt8) ∉ l.take e) : tkAt (upL (l.take e)) 0 = tkAt l 0 ∧ bgAt (upL (l.take e)) 0 ≠ 0 := by
  have hst := tr_stab h0 h
  have hy := hst.2.2.2 []
  rw [List.append_nil] at hy
  have hu := tr_up h61
  have hlen : (upL (l.take e)).length = e := by rw [upL_len]; simp; omega
  have hne : upL (l.take e) ≠ [] := by intro k; rw [k] at hlen; simp at hlen; omega
  have hw := whole_tk (l := upL (l.take e)) (by rw [hu.1, hy.1]; exact h0) hne (by rw [hu.2.2]; exact hy.2.2)
  rw [hw.1, (whole_tk h0 hl h).1, hw.2, hu.1, hu.2.1, hy.1, hy.2.1]
  exact ⟨rfl, h0⟩
end Go.Proofs.YtndcmapifihgeaaGreatDoor.Tg

/- The law TagFronts, walked. -/
namespace Go.Proofs.YtndcmapifihgeaaGreatDoor.Tg
open Go.RowKit Go.Lib
open Ch (at0 nx nx_width nx_range at0_lt at0_drop enc_len Sl Sl.below Cells ret_str good nx_good ret_bool info5)
open At (cellsA ads below_trans)

variable {l : List UInt8} {a : Option Addr} {cap R i : Nat} {W w w' : World}

theorem fold_len : ∀ (L acc : List At.At), (L.foldl At.add acc).length ≤ acc.length + L.length
  | [], acc => by simp
  | x :: r, acc => by
    have h1 := fold_len r (At.add acc x)
    have h2 := (At.add_len acc x).2
    rw [List.foldl_cons, List.length_cons]
    omega
theorem ads_len (L : List At.At) : (ads L).length ≤ L.length := by
  have := fold_len L []
  simpa [ads] using this
theorem tr_bd {m : List UInt8} {L : List At.At} {e : Nat} (h : tr m = some (L, e)) : L.length ≤ m.length := by
  unfold tr at h
  rw [Option.map_eq_some_iff] at h
  obtain ⟨⟨L', e'⟩, ha, he⟩ := h
  simp only [Prod.mk.injEq] at he
  obtain ⟨rfl, rfl⟩ := he
  have := ats_bd _ _ (Nat.le_refl _) _ _ ha
  simp only [List.length_drop] at this
  omega

theorem Cells.take' {b off : Nat} (h : Cells l b off w) (k : Nat) : Cells (l.take k) b off w := by
  intro j hj
  simp only [List.length_take] at hj
  rw [h j (by omega)]
  unfold at0
  rw [List.getD_eq_getElem?_getD, List.getD_eq_getElem?_getD, List.getElem?_take, if_pos (by omega)]

theorem bytes_set (m : List UInt8) (j : Nat) (b : UInt8) : Lib.byteCells (m.set j b) = (Lib.byteCells m).set j (.int .u8 (b.toNat : Int)) := by
  unfold Lib.byteCells
  rw [List.map_set]
theorem bytes_at (m : List UInt8) (j : Nat) (h : j < m.length) : (Lib.byteCells m)[j]? = some (.int .u8 ((at0 m j : Nat) : Int)) := by
  simp [Lib.byteCells, at0, List.getD_eq_getElem?_getD, List.getElem?_eq_getElem h]

theorem six2 {g g' : Nat} {t t' : TypeId} {x0 x1 x2 x3 x4 x5 y0 y1 y2 y3 y4 y5 : Value} (h : Bk g #[x0, x1, x2, x3, x4, x5] t w) (h' : Bk g' #[y0, y1, y2, y3, y4, y5] t' w) :
    (w.cell? ⟨g, 0, none⟩ = some x0 ∧ w.cell? ⟨g, 1, none⟩ = some x1 ∧ w.cell? ⟨g, 2, none⟩ = some x2 ∧ w.cell? ⟨g, 3, none⟩ = some x3 ∧ w.cell? ⟨g, 4, none⟩ = some x4 ∧ w.cell? ⟨g, 5, none⟩ = some x5) ∧ w.cell? ⟨g', 0, none⟩ = some y0 ∧ w.cell? ⟨g', 1, none⟩ = some y1 ∧ w.cell? ⟨g', 2, none⟩ = some y2 ∧ w.cell? ⟨g', 3, none⟩ = some y3 ∧ w.cell? ⟨g', 4, none⟩ = some y4 ∧ w.cell? ⟨g', 5, none⟩ = some y5 :=
  ⟨⟨h.cell 0, h.cell 1, h.cell 2, h.cell 3, h.cell 4, h.cell 5⟩, h'.cell 0, h'.cell 1, h'.cell 2, h'.cell 3, h'.cell 4, h'.cell 5⟩
theorem sl_of {B : Nat} {e : TypeId} {a : Option Addr} {cap : Nat} {L : List At.At} (h : w.ownsRow B e 2 (.slice a L.length cap) L.length (cellsA L)) : At.Sl L a cap w := by
  obtain ⟨a', cap', hv, hs⟩ := At.sl_own h
  cases hv
  exact hs

/-- a row of bytes of one's own as a slice -/
theorem sl_bytes {B : Nat} {v : Value} {m : List UInt8} (h : w.ownsRow B 5 1 v m.length (Lib.byteCells m)) : ∃ a cap, v = .slice a m.length cap ∧ Sl m a cap w := by
  rcases h.2 with ⟨hv, h0⟩ | ⟨g, cap, cur, hv, hg, hh, hn, hm, hs, ht⟩
  · obtain rfl : m = [] := List.eq_nil_of_length_eq_zero h0
    exact ⟨none, 0, hv, Nat.le_refl _, Or.inl rfl⟩
  · refine ⟨_, cap, hv, hn, Or.inr ⟨g, 0, rfl, fun j hj => ?_⟩⟩
    have := h.cells (g := g) (by rw [hv]; rfl) j _ (by simp [Lib.byteCells, List.getElem?_eq_getElem hj]; rfl)
    rw [Ch.addr_add0] at this
    rw [Nat.zero_add, this]
    simp [at0, List.getD_eq_getElem?_getD, List.getElem?_eq_getElem hj]

def FrRel (_l : List UInt8) (e k : Nat) (T : Nat) (cs : Array Value) (B : Nat) (s : Value) (L : List At.At) (w : World) (v : Value) (wr : World) : Prop :=
  ∃ j : Nat, v = .int .i64 (j : Int) ∧ k + 1 ≤ j ∧ j ≤ e ∧ Below w.heap.size w wr ∧ Bk T cs 26 wr ∧ wr.ownsRow B 75 2 s L.length (cellsA L)

/-- letters made great up to a place -/
def half (m : List UInt8) (j : Nat) : List UInt8 := upL (m.take j) ++ m.drop j
theorem half_len (m : List UInt8) (j : Nat) : (half m j).length = m.length := by unfold half; rw [List.length_append, upL_len]; simp; omega
theorem half_at (m : List UInt8) (j : Nat) (h : j < m.length) : at0 (half m j) j = at0 m j := by
  unfold half at0
  have : (upL (m.take j)).length = j := by rw [upL_len]; simp; omega
  rw [List.getD_eq_getElem?_getD, List.getElem?_append_right (by omega), this, Nat.sub_self, List.getElem?_drop, Nat.add_zero, List.getD_eq_getElem?_getD]
theorem half_succ (m : List UInt8) (j : Nat) (h : j < m.length) : half m (j + 1) = (half m j).set j (upB m[j]) := by
  unfold half
  have hl : (upL (m.take j)).length = j := by rw [upL_len]; simp; omega
  rw [List.take_succ_eq_append_getElem h]
  unfold upL at *
  rw [List.map_append, List.append_assoc, List.set_append, if_neg (by omega), hl, Nat.sub_self, List.drop_eq_getElem_cons h]
  rfl
theorem half_keep (m : List UInt8) (j : Nat) (h : j < m.length) (hu : upB m[j] = m[j]) : half m (j + 1) = half m j := by
  unfold half
  rw [List.take_succ_eq_append_getElem h]
  unfold upL
  rw [List.map_append, List.append_assoc, List.drop_eq_getElem_cons h]
  simp [hu]

def GrRel (m : List UInt8) (g capG : Nat) (T : Nat) (cs : Array Value) (B : Nat) (s : Value) (L : List At.At) (w : World) (v : Value) (wr : World) : Prop :=
  ∃ j : Nat, v = .int .i64 (j : Int) ∧ j ≤ m.length ∧ (61 : UInt8) ∉ m.take j ∧ Below w.heap.size w wr ∧ Bk T cs 26 wr ∧ wr.ownsRow B 75 2 s L.length (cellsA L) ∧ wr.ownsRow (T + 1) 5 1 (.slice (some ⟨g, 0, none⟩) m.length capG) m.length (Lib.byteCells (half m j))

end Go.Proofs.YtndcmapifihgeaaGreatDoor.Tg

/- The law TagReads, walked. -/
namespace Go.Proofs.YtndcmapifihgeaaGreatDoor.Tg
open Go.RowKit Go.Lib
open Ch (at0 Sl Sl.below Cells ret_bool)
open At (cellsA ads below_trans)

variable {l : List UInt8} {a : Option Addr} {cap i : Nat} {w w' : World}

def RReadPost (l : List UInt8) (x : Int) (w : World) (e : Ending) (w' : World) : Prop :=
  ∃ s, e = .returned (.tuple #[tokV (tkAt l x) s, .bool (decide (bgAt l x ≠ 0))]) ∧ w'.ownsRow w.heap.size 69 2 s (tkAt l x).attrs.length (cellsA (tkAt l x).attrs) ∧ Below w.heap.size w w'

set_option maxHeartbeats 4000000 in
set_option maxRecDepth 100000 in
theorem rread_any (x : Int) (hs : Sl l a cap w) (hlen : l.length ≤ 100000 - 1) : Calls Tryz.prog 20 #[.slice a l.length cap, .int .i64 x] w (RReadPost l x w) := by
  have hb2 : bgAt l x ≤ 2 := by unfold bgAt; split; exact bg_le _; omega
  by_cases h0 : bgAt l x = 0
  · have hbA : Below w.heap.size w (w.alloc (.cells zero34 31)) := (Below.refl _ w).alloc (Nat.le_refl _) _
    have cB := rbegins_any x (w.alloc (.cells zero34 31)) (hs.below hbA) (by omega)
    rw [h0] at cB
    have bT := bk_new w zero34 31
    have HTK := Lib.hid (show tkAt l x = ⟨0, [], [], 0, 0⟩ by unfold tkAt; rw [if_pos h0])
    have H0 := Lib.hid h0
    unfold zero34 at cB bT
    obtain ⟨k0, k1, k2, k3, k4, k5, f0, f1, f2, f3, f4, f5⟩ := bT.six
    have HBT := Lib.hid bT
    clear h0 hbA bT
    go_enter Tryz.func20, Tryz.ntmps20
    go_wp2_with fail
    refine cB.mono ?_
    rintro e w1 ⟨rfl, rfl⟩
    go_wp2
    (try simp only [Exit.inBlock, Exit.then])
    refine bodyPost_ret (results_row_tmp rfl _ _ w.heap.size 31 #[.int .i64 0, .string ⟨#[]⟩, .slice none 0 0, .string ⟨#[]⟩, .int .i64 0, .int .i64 0] (0, 0) _ rfl ?_ Tryz.underlying31 rfl info34) rfl ?_
    · first | exact HBT.out.blk | exact (HBT.out.set6 _ _ _ _ _ _).blk
    · refine ⟨.slice none 0 0, ?_, ?_, ?_⟩
      · rw [HTK.out, H0.out]; rfl
      · rw [HTK.out]; exact World.ownsRow_nil _ _ _ _
      · first | exact (Below.refl _ w).alloc (Nat.le_refl _) _ | exact below_set6 ((Below.refl _ w).alloc (Nat.le_refl _) _) (Nat.le_refl _) _ _ _ _ _ _
  · have hin : 0 ≤ x ∧ x < (l.length : Int) := by
      unfold bgAt at h0
      split at h0
      · assumption
      · exact absurd rfl h0
    obtain ⟨i, rfl⟩ : ∃ i : Nat, x = i := ⟨x.toNat, by omega⟩
    have hbg : bgAt l (i : Int) = bg (l.drop i) := if_pos hin
    have htk : tkAt l (i : Int) = tkIn l i := by unfold tkAt; rw [if_neg h0]; rfl
    have hd1 : decide (bgAt l (i : Int) ≠ 0) = true := decide_eq_true h0
    have key : Calls Tryz.prog 20 #[.slice a l.length cap, .int .i64 (i : Int)] w (RRPost l i w) := by
      rcases (by omega : bgAt l (i : Int) = 1 ∨ bgAt l (i : Int) = 2) with h1 | h1
      · exact rread_1 hs hlen (by rw [← hbg]; exact h1) (by omega)
      · exact rread_2 hs hlen (by rw [← hbg]; exact h1) (by omega)
    refine key.mono ?_
    rintro e w2 ⟨s, rfl, ho, hb⟩
    refine ⟨s, ?_, ?_, hb⟩
    · rw [htk, hd1]
    · rw [htk]; exact ho

theorem tk_len (l : List UInt8) (x : Int) : (tkAt l x).attrs.length ≤ l.length := by
  unfold tkAt
  split
  · exact Nat.zero_le _
  · unfold tkIn
    split
    · exact Nat.zero_le _
    · rename_i L e h
      have h1 := tr_bd h
      have h2 := ads_len L
      simp only [List.length_drop] at h1
      simp only
      split
      · omega
      · simp

def LRel (n : Nat) (w : World) (v : Value) (wr : World) : Prop := ∃ k : Nat, v = .int .i64 (k : Int) ∧ k ≤ n + 1 ∧ Below w.heap.size w wr

end Go.Proofs.YtndcmapifihgeaaGreatDoor.Tg
