/- The arena's takeOut, walked. -/
import Derived.Test.YtpnjjpbgbdicoaaDel
namespace Go.Proofs.Ytpnjjpbgbdicoaa
open Go.RowKit Go.Lib
open At (Str cellsA cellsA_len Sl)

variable {B R cp : Nat} {L : List QN} {vn : Value} {w : World}

set_option maxHeartbeats 1000000 in
set_option maxRecDepth 100000 in
theorem takeOut_none (h : AR B w R L cp vn) (i : Nat) (n : QN) (hn : L[i]? = some n) (hp : n.par = -1) :
    Calls Try.prog 48 #[.pointer (some ⟨R, 0, none⟩), .int .i64 (i : Int)] w fun e w' => e = .returned (.tuple #[]) ∧ w' = w := by
  have c0 := h.c0
  obtain ⟨g, c, rfl, hi, hc, -, -, d0, d1, d2, d3, -⟩ := h.node hn
  rw [hp] at d2
  have h1 : (i : Int) < (L.length : Int) := by omega
  clear h hn hp
  go_enter Try.func48, Try.ntmps48
  go_wp2
  (try simp only [Exit.inBlock, Exit.then])
  refine bodyPost_ret (results_none rfl _ _ _) rfl ?_
  exact ⟨rfl, rfl⟩

/-- a part taken out of a node's parts, by the library's Delete -/
theorem del_part (h : AR B w R L cp vn) {p : Nat} {np : QN} (hp : L[p]? = some np) (j m gi ci : Nat) (hm : np.inn.length = m + 1) (hj : j ≤ m) (hvi : np.vi = .slice (some ⟨gi, 0, none⟩) (m + 1) ci) {w2 : World}
    (hr : Rw B 93 2 (.slice (some ⟨gi, 0, none⟩) m ci) m (pcells (np.inn.eraseIdx j)) w2) (hg : w.grownBy w2 (some gi)) {g cn : Nat} (hvn : vn = .slice (some ⟨g, 0, none⟩) L.length cn) :
    w2.cell? ⟨R, 0, none⟩ = some vn ∧ w2.frozen? ⟨g, p * 4 + 3, none⟩ = false ∧ w2.cell? ⟨g, p * 4 + 3, none⟩ = some np.vi ∧ g ≠ R ∧
      AR B (w2.setCell ⟨g, p * 4 + 3, none⟩ (.slice (some ⟨gi, 0, none⟩) m ci)) R (L.set p { np with inn := np.inn.eraseIdx j, vi := .slice (some ⟨gi, 0, none⟩) m ci }) cp vn ∧ Chg B w (w2.setCell ⟨g, p * 4 + 3, none⟩ (.slice (some ⟨gi, 0, none⟩) m ci)) := by
  have hin := h.inner np (mem_of_at hp)
  have hob : np.vi.ownBlock = some gi := by rw [hvi]; rfl
  have hg' : w.grownBy w2 np.vi.ownBlock := by rw [hob]; exact hg
  obtain ⟨g', c', hv', hpl, hc, hBg, hT, -, -, -, d3, hfz⟩ := h.node hp
  have hgg : g' = g := by rw [hvn] at hv'; cases hv'; rfl
  subst hgg
  have ne76 : some g' ≠ np.vi.ownBlock := hin.type_ne hT (by decide)
  have ne79 : some R ≠ np.vi.ownBlock := hin.type_ne h.ty (by decide)
  have hb := hg'.block g' hT.lt ne76
  have hap : AP (vts (L.set p { np with inn := np.inn.eraseIdx j, vi := .slice (some ⟨gi, 0, none⟩) m ci })) := by
    refine AP.perm ?_ (flat_perm_set _ _ hp).symm
    have hpm : (vts L).Perm (np.inn.map QP.vt ++ (L.eraseIdx p).flatMap (fun n => n.inn.map QP.vt)) := flat_perm _ hp
    have h0 := AP.perm h.apT hpm
    refine List.Pairwise.sublist ?_ h0
    exact List.Sublist.append ((List.eraseIdx_sublist np.inn j).map QP.vt) (List.Sublist.refl _)
  obtain ⟨r1, r2⟩ := h.updInner hp (inn' := np.inn.eraseIdx j) (vi' := .slice (some ⟨gi, 0, none⟩) m ci) hg' (Or.inl (by rw [hob]; rfl)) (by rw [List.length_eraseIdx_of_lt (by omega), hm]; exact hr)
    (fun q hq => by
      have hq' := List.mem_of_mem_eraseIdx hq
      exact (h.texts np (mem_of_at hp) q hq').kept hg' ((h.texts np (mem_of_at hp) q hq').types hin (by decide))) hap hvn
  refine ⟨(World.cell?_of_block (a := ⟨R, 0, none⟩) (hg'.block R h.lt ne79)).trans h.c0, (World.frozen?_of_block (a := ⟨g', p * 4 + 3, none⟩) hb).trans (hfz 3 (by decide)), (World.cell?_of_block (a := ⟨g', p * 4 + 3, none⟩) hb).trans d3, ?_, r1, r2⟩
  intro e
  subst e
  exact absurd (hT.uniq h.ty) (by decide)

theorem wrap_small (n : Int) (h0 : 0 ≤ n) (h1 : n ≤ 9223372036854775807) : IntKind.i64.wrap n = n := by
  simp [IntKind.wrap, IntKind.bits, IntKind.signed]
  split <;> omega

/-- what takeOut does to a node that stands in another one -/
def TakePost (B R cp : Nat) (L : List QN) (vn : Value) (i p j : Nat) (n np : QN) (w : World) (e : Ending) (w' : World) : Prop :=
  e = .returned (.tuple #[]) ∧ ∃ vi, AR B w' R ((L.set p { np with inn := np.inn.eraseIdx j, vi := vi }).set i { n with par := -1 }) cp vn ∧ Chg B w w'

set_option maxHeartbeats 4000000 in
set_option maxRecDepth 100000 in
theorem takeOut_some (h : AR B w R L cp vn) (i p j : Nat) (n np : QN) (q : QP) (hn : L[i]? = some n) (hpar : n.par = (p : Int)) (hp : L[p]? = some np) (hpi : p ≠ i) (hq : np.inn[j]? = some q) (hqi : q.el = i)
    (hlast : ∀ k x, j < k → np.inn[k]? = some x → x.el ≠ i) (hl : np.inn.length ≤ 8000000) :
    Calls Try.prog 48 #[.pointer (some ⟨R, 0, none⟩), .int .i64 (i : Int)] w (TakePost B R cp L vn i p j n np w) := by
  have hjl : j < np.inn.length := (List.getElem?_eq_some_iff.1 hq).1
  obtain ⟨m, hm⟩ : ∃ m, np.inn.length = m + 1 := ⟨np.inn.length - 1, by omega⟩
  obtain ⟨gi, ci, hvi, hjl2, hlc, -, -, -, -, -⟩ := (h.inner np (mem_of_at hp)).part hq
  rw [hm] at hvi hlc
  obtain ⟨g, c, hvn, hil, hc, -, -, d0, d1, d2, d3, hfi⟩ := h.node hn
  obtain ⟨g', c', hvn', hpl, -, -, -, -, -, -, e3, -⟩ := h.node hp
  have hgg : g' = g ∧ c' = c := by rw [hvn] at hvn'; cases hvn'; exact ⟨rfl, rfl⟩
  obtain ⟨rfl, rfl⟩ := hgg
  have hone : ∀ x ∈ np.inn, x.vt.oneCell' = true := by
    intro x hx
    obtain ⟨a, cc, hv, -⟩ := (h.texts np (mem_of_at hp) x hx).slice
    rw [hv]
    rfl
  have hcm : ci ≤ maxLen := by
    rcases (h.inner np (mem_of_at hp)).2 with ⟨h0, -⟩ | ⟨g2, c2, hv2, -, -, -, h4, -⟩
    · rw [hvi] at h0; cases h0
    · rw [hvi] at hv2; injection hv2 with _ _ e3; rw [e3]; exact h4
  have hrow : ∀ wx, wx.heap = w.heap → Rw B 93 2 (.slice (some ⟨gi, 0, none⟩) (m + 1) ci) (m + 1) (pcells np.inn) wx := by
    intro wx hx
    have := h.inner np (mem_of_at hp)
    rw [hm, hvi] at this
    exact this.same fun gg _ => by rw [hx]
  have hdel := delete_any np.inn gi ci m j hone hm (by omega) (by omega) hlc hcm (hrow w.drew rfl)
  have hdr : Below w.heap.size w w.drew := ⟨rfl, rfl, rfl, Nat.le_refl _, fun _ _ => rfl⟩
  have hBw : B ≤ w.heap.size := Nat.le_trans h.hB (Nat.le_of_lt h.lt)
  have main : ∀ w2, Rw B 93 2 (.slice (some ⟨gi, 0, none⟩) m ci) m (pcells (np.inn.eraseIdx j)) w2 → w.drew.grownBy w2 (some gi) → w2.cell? ⟨R, 0, none⟩ = some vn ∧ w2.frozen? ⟨g', p * 4 + 3, none⟩ = false ∧ w2.cell? ⟨g', p * 4 + 3, none⟩ = some np.vi ∧
      (w2.setCell ⟨g', p * 4 + 3, none⟩ (.slice (some ⟨gi, 0, none⟩) m ci)).cell? ⟨R, 0, none⟩ = some vn ∧
      (w2.setCell ⟨g', p * 4 + 3, none⟩ (.slice (some ⟨gi, 0, none⟩) m ci)).cell? ⟨g', i * 4 + 2, none⟩ = some (.int .i64 (p : Int)) ∧
      w2.frozen? ⟨g', i * 4 + 2, none⟩ = false ∧
      TakePost B R cp L vn i p j n np w (.returned (.tuple #[])) ((w2.setCell ⟨g', p * 4 + 3, none⟩ (.slice (some ⟨gi, 0, none⟩) m ci)).setCell ⟨g', i * 4 + 2, none⟩ (.int .i64 (-1))) := by
    intro w2 hr hg
    obtain ⟨k1, k2, k3, k4, k5, k6⟩ := del_part (h.below hdr) hp j m gi ci hm (by omega) hvi hr hg hvn
    have hn' : (L.set p { np with inn := np.inn.eraseIdx j, vi := .slice (some ⟨gi, 0, none⟩) m ci })[i]? = some n := by rw [List.getElem?_set_ne hpi]; exact hn
    obtain ⟨g3, c3, hv3, -, -, -, -, -, -, f2, -, hf3⟩ := k5.node hn'
    have hgg : g3 = g' := by rw [hvn] at hv3; injection hv3 with e1; injection e1 with e1; injection e1 with e1; exact e1.symm
    subst hgg
    rw [hpar] at f2
    obtain ⟨u1, u2⟩ := k5.updPar hn' (-1) (by rw [List.length_set]; exact hvn)
    have hf4 := hf3 2 (by decide)
    rw [World.frozen?_setCell] at hf4
    exact ⟨k1, k2, k3, k5.c0, f2, hf4, rfl, _, u1, ((Chg.of_below hBw hdr).trans k6).trans u2⟩
  have HM := Lib.hid main
  have HA := Lib.hid h
  have HV := Lib.hid hvn
  have HVI := Lib.hid hvi
  have HL := Lib.hid hlast
  have HQ := Lib.hid (show np.inn[j]? = some q ∧ q.el = i ∧ L[p]? = some np ∧ j ≤ m ∧ np.inn.length = m + 1 from ⟨hq, hqi, hp, by omega, hm⟩)
  have c0 := h.c0
  rw [hvn] at c0
  rw [hpar] at d2
  rw [hvi] at e3
  have hiI : (i : Int) < (L.length : Int) := by omega
  have hpI : (p : Int) < (L.length : Int) := by omega
  have hp1 : ((p : Int) == -1) = false := beq_eq_false_iff_ne.2 (by omega)
  have hmb : m ≤ 8000000 := by omega
  clear main h hvn hvi hlast hq hqi hp hm hn hpar hrow hdr hBw d0 d1 d3 hfi hvn' hone hlc hcm hjl hjl2 hl
  go_enter Try.func48, Try.ntmps48
  go_wp2
  go_loopw [6] (fun v wr => ∃ k : Nat, v = .int .i64 (k : Int) ∧ j ≤ k ∧ k ≤ m ∧ w = wr) (fun v _ => (RowKit.intOf v).toNat)
  case atStart => exact ⟨m, rfl, HQ.out.2.2.2.1, Nat.le_refl _, rfl⟩
  case round =>
    obtain ⟨k, rfl, hjk, hkm, rfl⟩ := hrel
    obtain ⟨x, hx⟩ : ∃ x, np.inn[k]? = some x := ⟨np.inn[k]'(by have := HQ.out.2.2.2.2; omega), List.getElem?_eq_getElem _⟩
    obtain ⟨gx, cx, hvx, -, -, -, -, x0, -, -⟩ := (HA.out.inner np (mem_of_at HQ.out.2.2.1)).part hx
    rw [HVI.out] at hvx
    injection hvx with e1 e2 e4
    injection e1 with e1
    injection e1 with e1
    subst e1
    clear e2 e4
    have hk0 : (0 : Int) ≤ (k : Int) := by omega
    have hkm' : (k : Int) < (m : Int) + 1 := by omega
    by_cases hkj : k = j
    · subst hkj
      have hxq : x = q := by have := HQ.out.1; rw [hx] at this; injection this
      have hxe : x.el = i := by rw [hxq]; exact HQ.out.2.1
      rw [hxe] at x0
      clear hxq hxe hx
      have q0 : w.drew.cell? ⟨R, 0, none⟩ = some (.slice (some ⟨g', 0, none⟩) L.length c') := c0
      have hwrap : IntKind.i64.wrap ((k : Int) + 1) = (k : Int) + 1 := wrap_small _ (by omega) (by omega)
      go_wp2_with fail
      go_region_held3 (fun wx => wx.cell? ⟨R, 0, none⟩ = some (.slice (some ⟨g', 0, none⟩) L.length c'))
        (first | with_reducible exact q1 | with_reducible exact q4 | with_reducible exact q0)
        (first
          | (go_at_call 53; with_reducible refine hdel.mono ?_; rintro e w2 ⟨rfl, hr, hg⟩; obtain ⟨q1, hfz, hsm, q4, q5, q6, hpost⟩ := HM.out w2 hr hg; rw [HV.out] at q1 q4; rw [HVI.out] at hsm; have HP := Lib.hid hpost; clear hr hg hpost))
      go_wp2
      go_end0
      exact HP.out
    · have hxe : x.el ≠ i := HL.out k x (by omega) hx
      have hne : ((x.el : Int) == (i : Int)) = false := beq_eq_false_iff_ne.2 (by omega)
      clear hx hxe
      go_wp2
      go_roundw
      case rel => exact ⟨k - 1, by go_num, by omega, by omega, by first | rfl | trivial⟩
      case measure => simp [RowKit.intOf]; omega
end Go.Proofs.Ytpnjjpbgbdicoaa
