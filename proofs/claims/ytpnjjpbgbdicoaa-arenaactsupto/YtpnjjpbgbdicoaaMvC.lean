/- The arena's Move, walked: where the node it goes to isn't the other one, nor within it. -/
import Derived.Test.YtpnjjpbgbdicoaaMvA
import Derived.Test.YtpnjjpbgbdicoaaPut2
namespace Go.Proofs.Ytpnjjpbgbdicoaa
open Go.RowKit Go.Lib
open At (Str cellsA cellsA_len Sl)

variable {B R cp : Nat} {L : List QN} {vn : Value} {w : World}

/-- blocks from S on that are there stay -/
def Win (S : Nat) (w w' : World) : Prop := w.heap.size ≤ w'.heap.size ∧ ∀ b, S ≤ b → b < w.heap.size → w'.heap[b]? = w.heap[b]?
theorem Win.refl (S : Nat) (w : World) : Win S w w := ⟨Nat.le_refl _, fun _ _ _ => rfl⟩
theorem Win.trans {S : Nat} {a b c : World} (h : Win S a b) (k : Win S b c) : Win S a c := ⟨Nat.le_trans h.1 k.1, fun q hq hl => (k.2 q hq (Nat.lt_of_lt_of_le hl h.1)).trans (h.2 q hq hl)⟩
theorem Win.of_below {S : Nat} {w w' : World} (h : Below w.heap.size w w') : Win S w w' := ⟨h.size, fun q _ hl => h.block q hl⟩
theorem Win.setCell {S : Nat} (w : World) {g : Nat} (hg : g < S) (j : Nat) (u : Value) : Win S w (w.setCell ⟨g, j, none⟩ u) := ⟨by rw [World.size_setCell]; exact Nat.le_refl _, fun q hq _ => Below.heap_setCell _ _ _ _ (fun e => absurd hq (Nat.not_le.2 (by rw [e]; exact hg)))⟩
theorem Win.grown {S : Nat} {w w' : World} {row : Option Nat} (h : w.grownBy w' row) (hr : ∀ b, row = some b → b < S) : Win S w w' := ⟨h.size, fun q hq hl => h.block q hl (fun e => by have := hr q e.symm; omega)⟩

/-- what Move does -/
def MovePost (B R cp S : Nat) (L : List QN) (vn : Value) (i k : Nat) (ni nk : QN) (w : World) (e : Ending) (w' : World) : Prop :=
  e = .returned (.tuple #[]) ∧ ∃ ni2 nk2 v', (rep k ni.inn L)[i]? = some ni2 ∧ (rep k ni.inn L)[k]? = some nk2 ∧
    AR B w' R (((rep k ni.inn L).set i { ni2 with inn := [], vi := .slice none 0 0 }).set k { nk2 with inn := nk.inn ++ ni.inn, vi := v' }) cp vn ∧ Chg B w w' ∧ Win S w w'

/-- where its loop stands -/
def MvRel (B R cp S : Nat) (L : List QN) (vn : Value) (k : Nat) (ni : QN) (w : World) (v35 : Value) (wr : World) : Prop :=
  ∃ n : Nat, v35 = .int .i64 (n : Int) ∧ n ≤ ni.inn.length ∧ AR B wr R (rep k (ni.inn.take n) L) cp vn ∧ Chg B w wr ∧ Win S w wr

theorem AR.drew (h : AR B w R L cp vn) : AR B w.drew R L cp vn := h.below (below_drew w)

set_option maxHeartbeats 4000000 in
set_option maxRecDepth 100000 in
theorem move_any (h : AR B w R L cp vn) (i k : Nat) (hik : i ≠ k) (ni nk : QN) (hi : L[i]? = some ni) (hk : L[k]? = some nk) (m : Nat) (hnu : NU L i m (k : Int)) (hel : ∀ p ∈ ni.inn, p.el < L.length) (hb : nk.inn.length + ni.inn.length ≤ 8000000) (hL : L.length ≤ 8000000) (S : Nat) (hSn : ∀ b, vn.ownBlock = some b → b < S) (hSk : ∀ b, nk.vi.ownBlock = some b → b < S) :
    Calls Try.prog 23 #[.pointer (some ⟨R, 0, none⟩), .int .i64 (i : Int), .int .i64 (k : Int)] w (MovePost B R cp S L vn i k ni nk w) := by
  have hil := (List.getElem?_eq_some_iff.1 hi).1
  have hkl := (List.getElem?_eq_some_iff.1 hk).1
  have cH1 := has_any h i hil
  have cH2 := has_any h k hkl
  have cU := (under_false h i ni hi m (k : Int) hnu).mono (R' := fun e w' => e = .returned (.bool false) ∧ w = w') (fun e w' hh => ⟨hh.1, hh.2.symm⟩)
  obtain ⟨g, c, hvn, -, -, hBg, hT, -, -, -, d3, -⟩ := h.node hi
  obtain ⟨ai, ci, hvi, -⟩ := (h.inner ni (mem_of_at hi)).slice
  rw [hvi] at d3
  have c0 := h.c0
  rw [hvn] at c0
  have hiI : (i : Int) < (L.length : Int) := by omega
  have hkI : (k : Int) < (L.length : Int) := by omega
  have hlen : ni.inn.length ≤ 8000000 := by omega
  have HAR := Lib.hid h
  have HGS := Lib.hid (show g < S from hSn g (by rw [hvn]; rfl))
  have HSK := Lib.hid hSk
  clear hSn hSk
  have HI := Lib.hid hi
  have HK := Lib.hid hk
  have HVN := Lib.hid hvn
  have HVI := Lib.hid hvi
  have HEL := Lib.hid hel
  have HBB := Lib.hid hb
  have HBG := Lib.hid hBg
  clear h hi hk hnu hel hvn hvi hb hBg hT
  go_enter Try.func23, Try.ntmps23
  go_wp2_with fail
  refine cH1.mono ?_
  rintro e w' ⟨rfl, rfl⟩
  go_wp2_with fail
  refine cH2.mono ?_
  rintro e w' ⟨rfl, rfl⟩
  go_wp2_with fail
  refine cU.mono ?_
  rintro e w' ⟨rfl, rfl⟩
  clear cH1 cH2 cU
  go_wp2_with fail
  go_loopw [35] (fun v35 wr => MvRel B R cp S L vn k ni w v35 wr) (fun v _ => ni.inn.length - (RowKit.intOf v).toNat)
  case atStart => exact ⟨0, rfl, Nat.zero_le _, by rw [List.take_zero, rep_nil]; exact HAR.out, Chg.refl _ _, Win.refl _ _⟩
  case round =>
    obtain ⟨n, rfl, hn, hA, hC, hWn⟩ := hrel
    by_cases hlt : n < ni.inn.length
    · have h1 : (n : Int) < (ni.inn.length : Int) := by omega
      obtain ⟨p, hp⟩ : ∃ p, ni.inn[n]? = some p := ⟨_, List.getElem?_eq_getElem hlt⟩
      have hpl : p.el < L.length := HEL.out p (mem_of_at hp)
      obtain ⟨pi, hir⟩ := rep_at' k (ni.inn.take n) HI.out
      have hrow := hA.inner _ (mem_of_at hir)
      obtain ⟨gi, ci', hv', -, -, -, -, p0, p1, -⟩ := Rw.part (v := ni.vi) (l := ni.inn) hrow hp
      rw [HVI.out] at hv'
      injection hv' with e1 _ e3
      subst e1 e3
      obtain ⟨at', ct', hvt, -⟩ := (hA.texts _ (mem_of_at hir) p (mem_of_at hp)).slice
      rw [hvt] at p1
      have htk : ni.inn.take (n + 1) = ni.inn.take n ++ [p] := by rw [List.take_add_one, hp]; rfl
      have HTK := Lib.hid htk
      have hlr : (rep k (ni.inn.take n) L).length = L.length := rep_len _ _ _
      obtain ⟨W, hW⟩ : ∃ W, wr.alloc (.cells #[.int .i64 (p.el : Int), .slice at' p.tx.length ct'] 93) = W := ⟨_, rfl⟩
      have hAW : Below wr.heap.size wr W := by rw [← hW]; exact At.below_alloc _
      have hBwr : B ≤ wr.heap.size := Nat.le_trans hA.hB (Nat.le_of_lt hA.lt)
      have hA2 := hA.below hAW
      have x0 : W.cell? ⟨wr.heap.size, 0, none⟩ = some (.int .i64 (p.el : Int)) := by rw [← hW]; simp
      have x1 : W.cell? ⟨wr.heap.size, 1, none⟩ = some (.slice at' p.tx.length ct') := by rw [← hW]; simp
      have hsz : wr.heap.size < W.heap.size := by rw [← hW]; simp
      have cT := isText_any p.el (.slice at' p.tx.length ct') W
      have HA2 := Lib.hid hA2
      have HC2 := Lib.hid (hC.trans (Chg.of_below hBwr hAW))
      have HP := Lib.hid hp
      have HW2 := Lib.hid (hWn.trans (Win.of_below hAW))
      have hBW : B ≤ W.heap.size := Nat.le_trans hBwr hAW.size
      clear hA hC hir hrow hvt htk hAW hA2 hp hWn
      by_cases he : p.el = 0
      · rw [decide_eq_true he] at cT
        have HE := Lib.hid he
        clear he
        go_wp2_with fail
        refine cT.mono ?_
        rintro e w2 ⟨rfl, hb2⟩
        have H2 := Lib.hid (HA2.out.below hb2)
        have HC3 := Lib.hid (HC2.out.trans (Chg.of_below hBW hb2))
        have HW3 := Lib.hid (HW2.out.trans (Win.of_below hb2))
        clear hb2 cT
        go_wp2
        go_roundw
        case rel => exact ⟨n + 1, by go_num, by omega, by rw [HTK.out, rep_zero _ _ _ _ HE.out]; exact H2.out, HC3.out, HW3.out⟩
        case measure => simp [RowKit.intOf]; omega
      · rw [decide_eq_false he] at cT
        obtain ⟨mn, hmn, hset⟩ := rep_snoc k (ni.inn.take n) p L he hpl
        have HS := Lib.hid hset
        have hpI : (p.el : Int) < (L.length : Int) := by omega
        have hpb : p.el ≤ 8000000 := by omega
        clear hset he
        go_wp2_with fail
        refine cT.mono ?_
        rintro e w2 ⟨rfl, hb2⟩
        have H2 := HA2.out.below hb2
        have hvn2 : vn = .slice (some ⟨g, 0, none⟩) (rep k (ni.inn.take n) L).length c := by rw [hlr]; exact HVN.out
        obtain ⟨h3, hc3⟩ := H2.drew.updPar hmn (k : Int) hvn2
        obtain ⟨g', c', hv', -, -, -, -, -, -, y2, -, yf⟩ := H2.node hmn
        have hgg : g' = g := by rw [HVN.out] at hv'; injection hv' with e1; injection e1 with e1; injection e1 with e1; exact e1.symm
        subst hgg
        have y0 := H2.c0
        rw [HVN.out] at y0
        have yf2 := yf 2 (by decide)
        have yx := (hb2.cell (p := ⟨wr.heap.size, 0, none⟩) hsz).trans x0
        have H3 := Lib.hid h3
        have HC3 := Lib.hid ((HC2.out.trans (Chg.of_below hBW hb2)).trans ((Chg.of_below (Nat.le_trans hBW hb2.size) (below_drew w2)).trans hc3))
        have HW3 := Lib.hid (((HW2.out.trans (Win.of_below hb2)).trans (Win.of_below (below_drew w2))).trans (Win.setCell w2.drew HGS.out (p.el * 4 + 2) (.int .i64 (k : Int))))
        clear hb2 cT H2 h3 hc3 hv' hmn yf hvn2 x0 x1 p0 p1 hsz
        go_wp2_with fail
        go_region_law (fail)
        all_goals go_wp2
        all_goals
          go_roundw
          case rel => exact ⟨n + 1, by go_num, by omega, by rw [HTK.out, ← HS.out]; exact H3.out, HC3.out, HW3.out⟩
          case measure => simp [RowKit.intOf]; omega
    · obtain rfl : n = ni.inn.length := by omega
      have h1 : ¬ ((ni.inn.length : Int) < (ni.inn.length : Int)) := by omega
      rw [List.take_length] at hA
      obtain ⟨pi, hi2⟩ := rep_at' k ni.inn HI.out
      obtain ⟨pk, hk2⟩ := rep_at' k ni.inn HK.out
      have hlr : (rep k ni.inn L).length = L.length := rep_len _ _ _
      have hD := hA.drew
      have hBw : B ≤ wr.drew.heap.size := Nat.le_trans hD.hB (Nat.le_of_lt hD.lt)
      obtain ⟨j93, hj, hpj⟩ := info93
      simp only [Prod.mk.injEq] at hpj
      obtain ⟨hz, hsz, hby⟩ := hpj
      have hin : Rw B 93 2 nk.vi nk.inn.length (pcells nk.inn) wr.drew := hD.inner { nk with par := pk } (mem_of_at hk2)
      have hinI : Rw B 93 2 ni.vi ni.inn.length (pcells ni.inn) wr.drew := hD.inner { ni with par := pi } (mem_of_at hi2)
      have hone : ∀ x ∈ ni.inn, x.vt.oneCell' = true := by
        intro x hx
        obtain ⟨a, cc, hv, -⟩ := (hD.texts _ (mem_of_at hi2) x hx).slice
        rw [hv]
        rfl
      obtain ⟨v', w3, hr, r1, r2, r3, -⟩ := hin.append (P := Try.prog) 74 74 j93 _ 32 Try.underlying74 hj hz hsz hby rfl ni.vi ni.inn.length (pcells ni.inn) (parts_src hinI hone) (by unfold maxLen; have := HBB.out; omega) (by have := HBB.out; omega) hBw
      obtain ⟨a', c', rfl, -⟩ := r1.slice
      have hpc : pcells (nk.inn ++ ni.inn) = pcells nk.inn ++ pcells ni.inn := by unfold pcells; rw [List.flatMap_append]
      have hvn2 : vn = .slice (some ⟨g, 0, none⟩) (rep k ni.inn L).length c := by rw [hlr]; exact HVN.out
      obtain ⟨m1, m2⟩ := hD.moved hi2 hk2 hik r2 r3 (by rw [hpc, List.length_append]; exact r1) hvn2
      obtain ⟨g1, c1, hv1, -, -, -, hT, -, -, -, dk, fk⟩ := hD.node hk2
      have hgg : g1 = g := by rw [HVN.out] at hv1; injection hv1 with e1; injection e1 with e1; injection e1 with e1; exact e1.symm
      subst hgg
      obtain ⟨g2, c2, hv2, -, -, -, -, -, -, -, di, fi⟩ := hD.node hi2
      have hgg : g2 = g1 := by rw [HVN.out] at hv2; injection hv2 with e1; injection e1 with e1; injection e1 with e1; exact e1.symm
      subst hgg
      have ne76 : some g2 ≠ nk.vi.ownBlock := hin.type_ne hT (by decide)
      have ne79 : some R ≠ nk.vi.ownBlock := hin.type_ne hD.ty (by decide)
      have hgR : g2 ≠ R := fun e => by subst e; exact absurd (hT.uniq hD.ty) (by decide)
      obtain ⟨ak, ck, hvk, -⟩ := hin.slice
      have hb3 := r2.block g2 hT.lt ne76
      have q0 : wr.cell? ⟨R, 0, none⟩ = some vn := hA.c0
      have q1 : wr.cell? ⟨g2, k * 4 + 3, none⟩ = some (.slice ak nk.inn.length ck) := by rw [← hvk]; exact dk
      have q3 : w3.cell? ⟨R, 0, none⟩ = some vn := (World.cell?_of_block (a := ⟨R, 0, none⟩) (r2.block R hD.lt ne79)).trans hD.c0
      have q4 : w3.frozen? ⟨g2, k * 4 + 3, none⟩ = false := (World.frozen?_of_block (a := ⟨g2, k * 4 + 3, none⟩) hb3).trans (fk 3 (by decide))
      have q5 : w3.cell? ⟨g2, k * 4 + 3, none⟩ = some (.slice ak nk.inn.length ck) := (World.cell?_of_block (a := ⟨g2, k * 4 + 3, none⟩) hb3).trans (by rw [← hvk]; exact dk)
      have q6 : (w3.setCell ⟨g2, k * 4 + 3, none⟩ (.slice a' (nk.inn.length + ni.inn.length) c')).cell? ⟨R, 0, none⟩ = some vn := by
        rw [World.cell?_setCell_far _ _ _ _ (show g2 ≠ R from hgR)]; exact q3
      have q7 : (w3.setCell ⟨g2, k * 4 + 3, none⟩ (.slice a' (nk.inn.length + ni.inn.length) c')).frozen? ⟨g2, i * 4 + 3, none⟩ = false := by
        rw [World.frozen?_setCell]; exact (World.frozen?_of_block (a := ⟨g2, i * 4 + 3, none⟩) hb3).trans (fi 3 (by decide))
      have q8 : (w3.setCell ⟨g2, k * 4 + 3, none⟩ (.slice a' (nk.inn.length + ni.inn.length) c')).cell? ⟨g2, i * 4 + 3, none⟩ = some (.slice ai ni.inn.length ci) := by
        rw [World.cell?_setCell_other _ ⟨g2, k * 4 + 3, none⟩ ⟨g2, i * 4 + 3, none⟩ _ (by intro e; injection e with _ e; omega), ← HVI.out]
        exact (World.cell?_of_block (a := ⟨g2, i * 4 + 3, none⟩) hb3).trans di
      rw [HVN.out] at q0 q3 q6
      rw [hvk, HVI.out] at hr
      have HR := Lib.hid hr
      have HPP := Lib.hid (show MovePost B R cp S L vn i k ni nk w (.returned (.tuple #[])) _ from ⟨rfl, _, _, _, hi2, hk2, m1, hC.trans ((Chg.of_below (Nat.le_trans hA.hB (Nat.le_of_lt hA.lt)) (below_drew wr)).trans m2), ((hWn.trans (Win.of_below (below_drew wr))).trans (Win.grown r2 HSK.out)).trans ((Win.setCell _ HGS.out _ _).trans (Win.setCell _ HGS.out _ _))⟩)
      clear hWn hr hA hC hi2 hk2 hlr hD hBw hj hz hsz hby hin hinI hone r1 r2 r3 hpc hvn2 m1 m2 hv1 hv2 hT dk fk di fi ne76 ne79 hvk hb3
      go_wp2_with fail
      go_region_law (first
          | (refine step_run rfl (.tmp 64) (.tmp 65) 74 74 rfl _ _ rfl rfl _ w3 HR.out ?_))
      all_goals (go_wp2; go_end0; exact HPP.out)
end Go.Proofs.Ytpnjjpbgbdicoaa

/- ArenaMoves: the mathematics of it: what stands in p and q ahead of Move, behind it, and behind the last Append. -/
namespace Go.Proofs.Ytpnjjpbgbdicoaa
open Go.RowKit Go.Lib
open At (Str cellsA cellsA_len Sl)

theorem TG.app {M : List MN} {k : Nat} : ∀ {f g : F} {l m : List (Nat × List UInt8)}, TG M k l f → TG M k m g → TG M k (l ++ m) (f.app g)
  | .nil, _, _, _, h, hg => by simp only [TG] at h; subst h; exact hg
  | .cons _ _ _ _ _, _, _, _, h, hg => by
    rw [TG] at h
    obtain ⟨p, r, rfl, hr, hp⟩ := h
    exact ⟨p, _, rfl, TG.app hr hg, hp⟩
theorem TG.gt {M : List MN} {k : Nat} : ∀ {f : F} {l : List (Nat × List UInt8)}, TG M k l f → ∀ x ∈ l, x.1 = 0 ∨ (k < x.1 ∧ x.1 < M.length)
  | .nil, _, h => by simp only [TG] at h; subst h; intro x hx; cases hx
  | .cons _ _ _ _ _, _, h => by
    rw [TG] at h
    obtain ⟨p, r, rfl, hr, hp⟩ := h
    intro x hx
    rcases List.mem_cons.1 hx with rfl | hx
    · rcases hp with hp | ⟨h0, -, n, hn, -⟩
      · exact Or.inl hp.1
      · exact Or.inr ⟨h0, (List.getElem?_eq_some_iff.1 hn).1⟩
    · exact TG.gt hr x hx
theorem TG.frame2 {M M' : List MN} : ∀ {f : F} {k : Nat} {l : List (Nat × List UInt8)}, (∀ j n, k < j → M[j]? = some n → ∃ n', M'[j]? = some n' ∧ n'.nm = n.nm ∧ n'.ats = n.ats ∧ n'.inn = n.inn) → TG M k l f → TG M' k l f
  | .nil, _, _, _, h => by simp only [TG] at h ⊢; exact h
  | .cons _ _ _ _ _, k, _, hm, h => by
    rw [TG] at h ⊢
    obtain ⟨p, r, rfl, hr, hp⟩ := h
    refine ⟨p, r, rfl, TG.frame2 hm hr, ?_⟩
    rcases hp with hp | ⟨h0, h1, n, h2, h3, h4, h5⟩
    · exact Or.inl hp
    · obtain ⟨n', e1, e2, e3, e4⟩ := hm _ _ h0 h2
      refine Or.inr ⟨h0, h1, n', e1, h3.trans e2.symm, h4.trans e3.symm, ?_⟩
      rw [e4]
      exact TG.frame2 (fun j m hj => hm j m (by omega)) h5

/-- p and q, empty, in the root -/
def Ld (sa1 sa2 vi : Value) : List QN := [⟨[], [], .slice none 0 0, -1, [⟨1, [], .slice none 0 0⟩, ⟨2, [], .slice none 0 0⟩], vi⟩, ⟨[112], [], sa1, 0, [], .slice none 0 0⟩, ⟨[113], [], sa2, 0, [], .slice none 0 0⟩]

theorem ld_par (sa1 sa2 vi : Value) : Par (Ld sa1 sa2 vi) := by
  intro i n hn
  match i, hn with
  | 0, hn => cases hn; exact Or.inl rfl
  | 1, hn => cases hn; exact Or.inr ⟨0, rfl, by decide⟩
  | 2, hn => cases hn; exact Or.inr ⟨0, rfl, by decide⟩
  | i + 3, hn => simp [Ld] at hn
theorem ld_nmd (sa1 sa2 vi : Value) : Nmd ((Ld sa1 sa2 vi).map ab) := by
  intro i n hi hn
  match i, hn with
  | 0, _ => exact absurd rfl hi
  | 1, hn => cases hn; exact List.cons_ne_nil _ _
  | 2, hn => cases hn; exact List.cons_ne_nil _ _
  | i + 3, hn => simp [Ld] at hn
theorem ld_bd (sa1 sa2 vi : Value) : Bd 3 (Ld sa1 sa2 vi) := by
  refine ⟨Nat.le_refl _, fun n hn => ?_, fun n hn p hp => ?_⟩
  · simp only [Ld, List.mem_cons, List.not_mem_nil, or_false] at hn
    rcases hn with rfl | rfl | rfl
    · exact Nat.le_succ _
    · exact Nat.zero_le _
    · exact Nat.zero_le _
  · simp only [Ld, List.mem_cons, List.not_mem_nil, or_false] at hn
    rcases hn with rfl | rfl | rfl
    · simp only [List.mem_cons, List.not_mem_nil, or_false] at hp
      rcases hp with rfl | rfl <;> exact Nat.zero_le _
    · cases hp
    · cases hp

/-- ahead of Move -/
structure Ahead (L : List QN) (n0 n1 n2 : QN) (fA fB : F) : Prop where
  a0 : L[0]? = some n0
  e0 : ab n0 = ⟨[], [], -1, [(1, []), (2, [])]⟩
  a1 : L[1]? = some n1
  e1 : n1.nm = [112] ∧ n1.ats = [] ∧ n1.par = 0
  t1 : TG (L.map ab) 2 (n1.inn.map abp) fA
  a2 : L[2]? = some n2
  e2 : n2.nm = [113] ∧ n2.ats = [] ∧ n2.par = 0
  t2 : TG (L.map ab) 2 (n2.inn.map abp) fB

theorem ahead_mid {sa1 sa2 vi : Value} {L1 : List QN} {fA : F} (h : PutR (Ld sa1 sa2 vi) L1 1 2 ⟨[112], [], sa1, 0, [], .slice none 0 0⟩ fA) : ∃ q, L1[2]? = some q ∧ ab q = ⟨[113], [], 0, []⟩ := by
  obtain ⟨q, h1, h2⟩ := h.keep 2 _ (by decide) (show (Ld sa1 sa2 vi)[2]? = some ⟨[113], [], sa2, 0, [], .slice none 0 0⟩ from rfl)
  exact ⟨q, h1, h2⟩

theorem ahead_of {sa1 sa2 vi : Value} {L1 L2 : List QN} {q : QN} {fA fB : F} (h : PutR (Ld sa1 sa2 vi) L1 1 2 ⟨[112], [], sa1, 0, [], .slice none 0 0⟩ fA) (hq : ab q = ⟨[113], [], 0, []⟩) (k : PutR L1 L2 2 2 q fB) : ∃ n0 n1 n2, Ahead L2 n0 n1 n2 fA fB := by
  obtain ⟨m0, x0, y0⟩ := h.keep 0 _ (by decide) (show (Ld sa1 sa2 vi)[0]? = some ⟨[], [], .slice none 0 0, -1, [⟨1, [], .slice none 0 0⟩, ⟨2, [], .slice none 0 0⟩], vi⟩ from rfl)
  obtain ⟨n0, x0', y0'⟩ := k.keep 0 _ (by decide) x0
  obtain ⟨m1, x1, p1, p2, p3, p4⟩ := h.at_
  obtain ⟨n1, x1', y1'⟩ := k.keep 1 _ (by decide) x1
  obtain ⟨n2, x2, q1, q2, q3, q4⟩ := k.at_
  refine ⟨n0, n1, n2, x0', y0'.trans y0, x1', ⟨(congrArg MN.nm y1').trans p1, (congrArg MN.ats y1').trans p2, (congrArg MN.par y1').trans p3⟩, ?_, x2, ⟨q1.trans (congrArg MN.nm hq), q2.trans (congrArg MN.ats hq), q3.trans (congrArg MN.par hq)⟩, q4⟩
  have e : n1.inn.map abp = m1.inn.map abp := congrArg MN.inn y1'
  rw [e]
  refine TG.frame2 (fun j n hj hn => ?_) p4
  rw [List.getElem?_map] at hn
  rcases hL : L1[j]? with _ | x
  · rw [hL] at hn; cases hn
  · rw [hL] at hn
    injection hn with hn
    subst hn
    obtain ⟨x', hx', he⟩ := k.keep j x (by omega) hL
    exact ⟨ab x', by rw [List.getElem?_map, hx']; rfl, congrArg MN.nm he, congrArg MN.ats he, congrArg MN.inn he⟩

/-- behind Move -/
structure Behind (L : List QN) (n0 p q : QN) (l : List (Nat × List UInt8)) (X : F) : Prop where
  a0 : L[0]? = some n0
  e0 : ab n0 = ⟨[], [], -1, [(1, []), (2, [])]⟩
  a1 : L[1]? = some p
  e1 : ab p = ⟨[112], [], 0, []⟩
  a2 : L[2]? = some q
  e2 : ab q = ⟨[113], [], 0, l⟩
  t2 : TG (L.map ab) 2 l X

theorem not_in {M : List MN} {l : List QP} {f : F} (h : TG M 2 (l.map abp) f) {j : Nat} (hj : j ≤ 2) : ¬ (j ≠ 0 ∧ j ∈ l.map QP.el) := by
  rintro ⟨h0, h1⟩
  obtain ⟨p, hp, rfl⟩ := List.mem_map.1 h1
  have := h.gt (abp p) (List.mem_map.2 ⟨p, hp, rfl⟩)
  have e : (abp p).1 = p.el := rfl
  omega

theorem behind_of {L : List QN} {n0 n1 n2 ni2 nk2 : QN} {fA fB : F} {v' : Value} (h : Ahead L n0 n1 n2 fA fB) (hi : (rep 2 n1.inn L)[1]? = some ni2) (hk : (rep 2 n1.inn L)[2]? = some nk2) :
    ∃ p q, Behind (((rep 2 n1.inn L).set 1 { ni2 with inn := [], vi := .slice none 0 0 }).set 2 { nk2 with inn := n2.inn ++ n1.inn, vi := v' }) n0 p q ((n2.inn ++ n1.inn).map abp) (fB.app fA) := by
  have hl : 2 < L.length := (List.getElem?_eq_some_iff.1 h.a2).1
  rw [rep_at _ _ h.a1, if_neg (not_in h.t1 (by decide))] at hi
  rw [rep_at _ _ h.a2, if_neg (not_in h.t1 (by decide))] at hk
  injection hi with hi
  injection hk with hk
  subst hi hk
  refine ⟨{ n1 with inn := [], vi := .slice none 0 0 }, { n2 with inn := n2.inn ++ n1.inn, vi := v' }, ⟨?_, h.e0, ?_, ?_, List.getElem?_set_self (by rw [List.length_set, rep_len]; exact hl), ?_, ?_⟩⟩
  · rw [List.getElem?_set_ne (by decide), List.getElem?_set_ne (by decide), rep_at _ _ h.a0, if_neg (not_in h.t1 (by decide))]
  · rw [List.getElem?_set_ne (by decide), List.getElem?_set_self (by rw [rep_len]; omega)]
  · show MN.mk _ _ _ _ = _
    rw [h.e1.1, h.e1.2.1, h.e1.2.2]
    rfl
  · show MN.mk _ _ _ _ = _
    rw [h.e2.1, h.e2.2.1, h.e2.2.2]
  · rw [List.map_append]
    refine TG.frame2 (fun j n hj hn => ?_) (TG.app h.t2 h.t1)
    rw [List.getElem?_map] at hn
    rcases hL : L[j]? with _ | x
    · rw [hL] at hn; cases hn
    · rw [hL] at hn
      injection hn with hn
      subst hn
      obtain ⟨px, hx⟩ := rep_at' 2 n1.inn hL
      exact ⟨ab { x with par := px }, by rw [List.getElem?_map, List.getElem?_set_ne (by omega), List.getElem?_set_ne (by omega), hx]; rfl, rfl, rfl, rfl⟩

/-- behind the last Append -/
theorem last_of {L : List QN} {n0 p q ni nk : QN} {l : List (Nat × List UInt8)} {X : F} {vp vi : Value} (h : Behind L n0 p q l X)
    (hi : ((L.set 0 { n0 with inn := n0.inn.eraseIdx 1, vi := vp }).set 2 { q with par := -1 })[2]? = some ni) (hk : ((L.set 0 { n0 with inn := n0.inn.eraseIdx 1, vi := vp }).set 2 { q with par := -1 })[1]? = some nk) :
    ∃ m0 m1 m2, ∀ L4, L4 = ((((L.set 0 { n0 with inn := n0.inn.eraseIdx 1, vi := vp }).set 2 { q with par := -1 }).set 2 { ni with par := ((1 : Nat) : Int) }).set 1 { nk with inn := nk.inn ++ [⟨2, [], .slice none 0 0⟩], vi := vi }) →
      L4[0]? = some m0 ∧ m0.nm = [] ∧ m0.ats = [] ∧ L4[1]? = some m1 ∧ m1.par = 0 ∧ L4[2]? = some m2 ∧ m2.par = 1 ∧ T (L4.map ab) (m0.inn.map abp) (.cons [112] [] [] (.cons [113] [] [] X .nil) .nil) := by
  have hl : 2 < L.length := (List.getElem?_eq_some_iff.1 h.a2).1
  rw [List.getElem?_set_self (by rw [List.length_set]; exact hl)] at hi
  rw [List.getElem?_set_ne (by decide), List.getElem?_set_ne (by decide), h.a1] at hk
  injection hi with hi
  injection hk with hk
  subst hi hk
  have e0 := h.e0
  have hm0 : n0.nm = [] := congrArg MN.nm e0
  have ha0 : n0.ats = [] := congrArg MN.ats e0
  have hi0 : n0.inn.map abp = [(1, []), (2, [])] := congrArg MN.inn e0
  refine ⟨{ n0 with inn := n0.inn.eraseIdx 1, vi := vp }, { p with inn := p.inn ++ [⟨2, [], .slice none 0 0⟩], vi := vi }, { q with par := ((1 : Nat) : Int) }, ?_⟩
  rintro L4 rfl
  have z0 : ((((L.set 0 { n0 with inn := n0.inn.eraseIdx 1, vi := vp }).set 2 { q with par := -1 }).set 2 { { q with par := -1 } with par := ((1 : Nat) : Int) }).set 1 { p with inn := p.inn ++ [⟨2, [], .slice none 0 0⟩], vi := vi })[0]? = some { n0 with inn := n0.inn.eraseIdx 1, vi := vp } := by
    rw [List.getElem?_set_ne (by decide), List.getElem?_set_ne (by decide), List.getElem?_set_ne (by decide), List.getElem?_set_self (by omega)]
  have z1 : ((((L.set 0 { n0 with inn := n0.inn.eraseIdx 1, vi := vp }).set 2 { q with par := -1 }).set 2 { { q with par := -1 } with par := ((1 : Nat) : Int) }).set 1 { p with inn := p.inn ++ [⟨2, [], .slice none 0 0⟩], vi := vi })[1]? = some { p with inn := p.inn ++ [⟨2, [], .slice none 0 0⟩], vi := vi } := by
    rw [List.getElem?_set_self (by simp; omega)]
  have z2 : ((((L.set 0 { n0 with inn := n0.inn.eraseIdx 1, vi := vp }).set 2 { q with par := -1 }).set 2 { { q with par := -1 } with par := ((1 : Nat) : Int) }).set 1 { p with inn := p.inn ++ [⟨2, [], .slice none 0 0⟩], vi := vi })[2]? = some { q with par := ((1 : Nat) : Int) } := by
    rw [List.getElem?_set_ne (by decide), List.getElem?_set_self (by simp; omega)]
  have f1 : p.nm = [112] ∧ p.ats = [] ∧ p.par = 0 ∧ p.inn.map abp = [] := ⟨congrArg MN.nm h.e1, congrArg MN.ats h.e1, congrArg MN.par h.e1, congrArg MN.inn h.e1⟩
  have f2 : q.nm = [113] ∧ q.ats = [] ∧ q.inn.map abp = l := ⟨congrArg MN.nm h.e2, congrArg MN.ats h.e2, congrArg MN.inn h.e2⟩
  refine ⟨z0, hm0, ha0, z1, f1.2.2.1, z2, rfl, ?_⟩
  have g0 : (n0.inn.eraseIdx 1).map abp = [(1, [])] := by
    obtain ⟨x, y, hxy⟩ : ∃ x y, n0.inn = [x, y] := by
      have hl2 : n0.inn.length = 2 := by rw [← List.length_map (f := abp), hi0]; rfl
      match n0.inn, hl2 with
      | [x, y], _ => exact ⟨x, y, rfl⟩
    rw [hxy] at hi0 ⊢
    simp only [List.map_cons, List.map_nil, List.cons.injEq] at hi0
    show [abp x] = _
    rw [hi0.1]
  show T _ ((n0.inn.eraseIdx 1).map abp) _
  rw [g0]
  refine ⟨(1, []), [], rfl, rfl, Or.inr ⟨by decide, rfl, _, by rw [List.getElem?_map, z1]; rfl, f1.1.symm, f1.2.1.symm, ?_⟩⟩
  show T _ ((p.inn ++ [_]).map abp) _
  rw [List.map_append, f1.2.2.2]
  refine ⟨(2, []), [], rfl, rfl, Or.inr ⟨by decide, rfl, _, by rw [List.getElem?_map, z2]; rfl, f2.1.symm, f2.2.1.symm, ?_⟩⟩
  show T _ (q.inn.map abp) _
  rw [f2.2.2]
  refine TG.t (k := 2) (TG.frame2 (fun j n hj hn => ?_) h.t2)
  refine ⟨n, ?_, rfl, rfl, rfl⟩
  rw [List.getElem?_map, List.getElem?_set_ne (by omega), List.getElem?_set_ne (by omega), List.getElem?_set_ne (by omega), List.getElem?_set_ne (by omega), ← List.getElem?_map]
  exact hn
end Go.Proofs.Ytpnjjpbgbdicoaa
