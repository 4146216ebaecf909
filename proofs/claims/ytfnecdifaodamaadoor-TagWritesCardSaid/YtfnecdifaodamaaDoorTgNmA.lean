/- What the laws TagNames and TagWrites need beside: characters decoded at a place, bytes behind a row of bytes of one's own. -/
import Derived.Test.YtfnecdifaodamaaDoorTgLFr
import Derived.Test.YtfnecdifaodamaaDoorTgNmMath
import Derived.Test.YtfnecdifaodamaaDoorAtSeen
import Derived.Maps.AppendAt
namespace Go.Proofs.YtfnecdifaodamaaDoor.Tg
open Go.RowKit Go.Lib
open Ch (at0 nx nx_width nx_range at0_lt at0_drop enc_len Sl Sl.below Cells good nx_good nx_enc enc_bytes info5)
open At (cellsA ads names below_trans Seen)

variable {l : List UInt8} {a : Option Addr} {cap : Nat} {w w' : World}

theorem dec_at {l m : List UInt8} {pos c : Nat} (hg : good c) (h : l.drop pos = encodeRune (c : Int) ++ m) : Kl.dec l pos = (c, (encodeRune (c : Int)).length) := by
  have e := nx_enc c m hg
  have hne : at0 (l.drop pos) 0 ≠ 0 ∧ at0 (l.drop pos) 0 ≠ 13 := by
    rw [h]
    have hb := enc_bytes c hg
    have hl := enc_len (c : Int)
    cases he : encodeRune (c : Int) with
    | nil => rw [he] at hl; simp at hl
    | cons x r => rw [he] at hb; exact hb x (by simp)
  rw [← h] at e
  unfold nx at e
  rw [if_neg hne.1, if_neg hne.2, at0_drop, at0_drop, at0_drop, at0_drop, List.length_drop] at e
  exact e

theorem app_bytes (w : World) (B : Nat) (v : Value) (L M : List UInt8) (a : Option Addr) (cap : Nat) (hown : w.ownsRow B 5 1 v L.length (Lib.byteCells L)) (hs : Sl M a cap w) (hn : a = none → cap = 0) (hl : L.length + M.length ≤ 1000000) (hB : B ≤ w.heap.size) :
    ∃ v' w', (Builtin.append_ #[22, 22] 22 #[v, .slice a M.length cap]).run Tryd.prog w = .ok v' w' ∧ w'.ownsRow B 5 1 v' (L ++ M).length (Lib.byteCells (L ++ M)) ∧ w.grownBy w' v.ownBlock := by
  obtain ⟨i, hi, hp⟩ := info5
  simp only [Prod.mk.injEq] at hp
  obtain ⟨hz, hsz, hby⟩ := hp
  have hca : Lib.byteCells (L ++ M) = Lib.byteCells L ++ Lib.byteCells M := by simp [Lib.byteCells]
  rw [List.length_append, hca]
  cases a with
  | none =>
    obtain rfl := hn rfl
    obtain rfl : M = [] := List.eq_nil_of_length_eq_zero (by have := hs.1; omega)
    have hr := run_append_owned_none (P := Tryd.prog) (w := w) B 22 22 5 i 1 Tryd.underlying22 hi v L.length (Lib.byteCells L) hown
    refine ⟨v, w, hr, ?_, ⟨rfl, rfl, rfl, Nat.le_refl _, fun _ _ _ => rfl⟩⟩
    simpa [Lib.byteCells] using hown
  | some ad =>
    have hc : ∀ (j : Nat) (u : Value), (Lib.byteCells M)[j]? = some u → w.cell? (ad.add j) = some u := by
      intro j u hj
      have hjl : j < M.length := by
        rcases Nat.lt_or_ge j M.length with z | z
        · exact z
        · rw [List.getElem?_eq_none (by rw [Lib.byteCells_length]; exact z)] at hj; cases hj
      obtain ⟨-, h2 | ⟨b, off, hb, hc⟩⟩ := hs
      · subst h2; simp at hjl
      · cases hb
        rw [bytes_at _ _ hjl] at hj
        rw [At.add_lit, ← hj]
        exact hc j hjl
    obtain ⟨v', w', hr, h1, h2, -, h4⟩ := run_append_own_at (P := Tryd.prog) w B 22 22 5 i _ 1 1 Tryd.underlying22 hi hz hsz hby rfl (by decide) v L.length (Lib.byteCells L) hown ad M.length cap (Lib.byteCells M) (by rw [Lib.byteCells_length]; omega) hc (fun u hu => by
      unfold Lib.byteCells at hu
      obtain ⟨z, _, rfl⟩ := List.mem_map.1 hu
      rfl) (by unfold maxLen; omega) (by omega) hB
    exact ⟨v', w', hr, h1, h2⟩

theorem Seen_below {S : List At.Str} {b n : Nat} (h : Seen S b n w) (hb : Below w.heap.size w w') : Seen S b n w' := h.kept (Ch.grown_of_below hb) (by simp)

theorem nodup_take {M : List At.At} {k : Nat} (hn : (names M).Nodup) (h : k < M.length) : (At.at0 M k).1 ∉ names (M.take k) := by
  have e : names (M.take (k + 1)) = (names M).take (k + 1) := by unfold names; rw [List.map_take]
  have h1 : (names (M.take (k + 1))).Nodup := by rw [e]; exact List.Pairwise.sublist (List.take_sublist _ _) hn
  rw [names_take h, List.nodup_append] at h1
  intro hm
  exact h1.2.2 _ hm _ (by simp) rfl

theorem Chs.nil_or {Q : Nat → Prop} {m : List UInt8} (h : Chs Q m) (hm : m ≠ []) : ∃ (c : Nat) (r : List UInt8), m = encodeRune (c : Int) ++ r ∧ good c ∧ Q c ∧ Chs Q r := by
  cases h with
  | nil => exact absurd rfl hm
  | cons c r hg hq hr => exact ⟨c, r, rfl, hg, hq, hr⟩

theorem tr_names {m : List UInt8} {L : List At.At} {e : Nat} (h : tr m = some (L, e)) : ∀ x ∈ ads L, x.1.length ≤ 4 * m.length + 4 := by
  unfold tr at h
  rw [Option.map_eq_some_iff] at h
  obtain ⟨⟨L', e'⟩, ha, he⟩ := h
  simp only [Prod.mk.injEq] at he
  obtain ⟨rfl, rfl⟩ := he
  have := (ats_bd _ _ (Nat.le_refl _) _ _ ha).2.2
  intro x hx
  have h1 := this x (ads_sub hx)
  simp only [List.length_drop] at h1
  omega
theorem vl_len (m : List UInt8) : (vl m).1.length ≤ 5 * m.length := by
  unfold vl
  split
  · have := txt_len true _ ((m.drop 1).take (ov (pQ (hd m)) (m.drop 1))) (Nat.le_refl _)
    simp only [List.length_take, List.length_drop] at this ⊢
    omega
  · have := txt_len true _ (m.take (ov pBare m)) (Nat.le_refl _)
    simp only [List.length_take] at this ⊢
    omega
theorem ab_vlen (m : List UInt8) : (ab m).1.2.length ≤ 5 * m.length := by
  unfold ab
  split
  · have := vl_len (m.drop (a3 m))
    simp only [List.length_drop] at this ⊢
    omega
  · simp
theorem ats_vlen (n : Nat) : ∀ (m : List UInt8), m.length ≤ n → ∀ (L : List At.At) (e : Nat), ats m = some (L, e) → ∀ x ∈ L, x.2.length ≤ 5 * m.length := by
  induction n with
  | zero =>
    intro m h L e ha
    obtain rfl : m = [] := List.eq_nil_of_length_eq_zero (by omega)
    rw [ats_end rfl] at ha
    cases ha
  | succ n ih =>
    intro m h L e ha
    by_cases h0 : m.drop (ov pGap m) = []
    · rw [ats_end h0] at ha; cases ha
    by_cases h62 : hd (m.drop (ov pGap m)) = 62
    · rw [ats_gt h62] at ha
      simp only [Option.some.injEq, Prod.mk.injEq] at ha
      obtain ⟨rfl, rfl⟩ := ha
      intro x hx; cases hx
    · rw [ats_more h0 h62, Option.map_eq_some_iff] at ha
      obtain ⟨⟨L', e'⟩, ha', he⟩ := ha
      simp only [Prod.mk.injEq] at he
      obtain ⟨rfl, rfl⟩ := he
      have hb := ab_le h0
      have hv := ab_vlen (m.drop (ov pGap m))
      simp only [List.length_drop] at hb hv
      intro x hx
      rcases List.mem_cons.1 hx with rfl | hx
      · omega
      · have := ih _ (by simp; omega) L' e' ha' x hx
        simp only [List.length_drop] at this
        omega
theorem tr_values {m : List UInt8} {L : List At.At} {e : Nat} (h : tr m = some (L, e)) : ∀ x ∈ ads L, x.2.length ≤ 5 * m.length := by
  unfold tr at h
  rw [Option.map_eq_some_iff] at h
  obtain ⟨⟨L', e'⟩, ha, he⟩ := h
  simp only [Prod.mk.injEq] at he
  obtain ⟨rfl, rfl⟩ := he
  intro x hx
  have h1 := ats_vlen _ _ (Nat.le_refl _) _ _ ha x (ads_sub hx)
  simp only [List.length_drop] at h1
  omega
end Go.Proofs.YtfnecdifaodamaaDoor.Tg
