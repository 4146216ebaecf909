/- Both arenas' Copy, walked. -/
import Derived.Test.YtpnjjpbgbdicoaaRc
namespace Go.Proofs.Ytpnjjpbgbdicoaa
open Go.RowKit Go.Lib
open At (Str cellsA cellsA_len Sl below_drewN)

/-- the number of copies, one more -/
theorem AR.incr {B R cp : Nat} {L : List QN} {vn : Value} {w : World} (h : AR B w R L cp vn) : AR B (w.setCell ⟨R, 1, none⟩ (.int .i64 ((cp : Int) + 1))) R L (cp + 1) vn ∧ Chg B w (w.setCell ⟨R, 1, none⟩ (.int .i64 ((cp : Int) + 1))) := by
  have hT := h.ty
  refine ⟨⟨h.hB, ?_, h.nodes.setBox hT (by decide) 1 _, fun n hn => (h.attrs n hn).setBox hT (by decide) 1 _, fun n hn => (h.inner n hn).setBox hT (by decide) 1 _, fun n hn p hp => (h.texts n hn p hp).setBox hT (by decide) 1 _, h.apI, h.apT⟩, ?_⟩
  · simp [World.setCell, Array.getElem?_modify, h.blk]
  · refine ⟨(Below.refl B w).setCell (p := ⟨R, 1, none⟩) h.hB _, fun q e hq h1 h2 h3 h4 => Below.heap_setCell _ _ _ _ fun e' => ?_⟩
    subst e'
    exact h4 (hq.uniq hT)

/-- what Copy answers -/
def CopyPost (B R cp : Nat) (L : List QN) (n : QN) (w : World) (e : Ending) (w' : World) : Prop :=
  e = .returned (.int .i64 (L.length : Int)) ∧ ∃ sa vn', AR B w' R (L ++ [⟨n.nm, n.ats, sa, -1, [], .slice none 0 0⟩]) (cp + 1) vn' ∧ Chg B w w'

set_option maxHeartbeats 4000000 in
set_option maxRecDepth 100000 in
theorem copy_any {B R cp : Nat} {L : List QN} {vn : Value} {w : World} (h : AR B w R L cp vn) (i : Nat) (hi0 : i ≠ 0) (n : QN) (hn : L[i]? = some n) (hL : L.length + 1 ≤ 8000000) (hal : n.ats.length ≤ 1000000) (hcp : cp ≤ 1000000) :
    Calls Try.prog 16 #[.pointer (some ⟨R, 0, none⟩), .int .i64 (i : Int)] w (CopyPost B R cp L n w) := by
  have cE := isElement_any h i (List.getElem?_eq_some_iff.1 hn).1
  rw [decide_eq_true hi0] at cE
  obtain ⟨h1, hc1⟩ := h.incr
  have x1 := h.c1
  have f1 : w.frozen? ⟨R, 1, none⟩ = false := frozen_of_heap h.blk 1
  obtain ⟨W, hW⟩ : ∃ W, w.setCell ⟨R, 1, none⟩ (.int .i64 ((cp : Int) + 1)) = W := ⟨_, rfl⟩
  rw [hW] at h1 hc1
  obtain ⟨g, c, hvn, hil, -, hBg, hT, d0, d1, d2, d3, -⟩ := h1.node hn
  obtain ⟨sa, ca, hsa, hsl⟩ := (h1.attrs n (mem_of_at hn)).sl
  rw [hsa] at d1
  have c0 := h1.c0
  rw [hvn] at c0
  have hdr := below_drew W
  have cX := element_any (h1.below hdr) n.nm n.ats sa ca (hsl.below hdr) hL hal
  have HC := Lib.hid (hc1.trans (Chg.of_below (Nat.le_trans h1.hB (Nat.le_of_lt h1.lt)) hdr))
  have hiI : (i : Int) < (L.length : Int) := by omega
  clear h h1 hc1 hn hi0 hsa hsl hvn hBg hT hdr
  go_enter Try.func16, Try.ntmps16
  go_wp2_with fail
  refine cE.mono ?_
  rintro e w' ⟨rfl, rfl⟩
  go_wp2_with fail
  go_region_law (first
    | (go_simp; go_at_call 13; refine cX.mono ?_; rintro e w2 ⟨rfl, sa2, vn2, h2, hc2⟩; have HX := Lib.hid (show CopyPost B R cp L n _ _ w2 from ⟨rfl, sa2, vn2, h2, HC.out.trans hc2⟩); clear h2 hc2; dsimp only))
  all_goals
    go_wp2
    go_ret
    exact HX.out

/-- what the document's Copy answers -/
def RCopyPost (b0 cp : Nat) (M : List MN) (n : MN) (w : World) (e : Ending) (w' : World) : Prop :=
  ∃ v0 v1 v2 v3, e = .returned (.tuple #[rv v0 v1 v2 v3 (cp + 1), .int .i64 (M.length : Int)]) ∧ RA b0 w' v0 v1 v2 v3 (M ++ [⟨n.nm, n.ats, -1, []⟩]) ∧ Below w.heap.size w w'

set_option maxHeartbeats 8000000 in
set_option maxRecDepth 100000 in
theorem rcopy_any {b0 : Nat} {w : World} {v0 v1 v2 v3 : Value} {M : List MN} (h : RA b0 w v0 v1 v2 v3 M) (hb0 : b0 ≤ w.heap.size) (cp i : Nat) (n : MN) (hn : M[i]? = some n) (hM : M.length + 1 ≤ 8000000) (hcp : cp ≤ 1000000) :
    Calls Try.prog 15 #[rv v0 v1 v2 v3 cp, .int .i64 (i : Int)] w (RCopyPost b0 cp M n w) := by
  have hRA := h
  obtain ⟨hnm, ⟨xa, ha, ha'⟩, ⟨xi, hi, -⟩, hp⟩ := h
  obtain ⟨a0, c0, rfl, -⟩ := hnm.slice
  obtain ⟨a1, c1, rfl, -⟩ := ha.slice
  obtain ⟨a2, c2, rfl, -⟩ := hi.slice
  obtain ⟨a3, c3, rfl, -⟩ := hp.slice
  obtain ⟨sa, ca, hxa, hsl, hsb⟩ := ha' i n hn
  have hil := (List.getElem?_eq_some_iff.1 hn).1
  obtain ⟨W0, hW0⟩ : ∃ W0, (w.alloc (.cells #[.slice a0 M.length c0, .slice a1 M.length c1, .slice a2 M.length c2, .slice a3 M.length c3, .int .i64 (cp : Int)] 31)).alloc (.cells #[.slice none 0 0, .slice none 0 0, .slice none 0 0, .slice none 0 0, .int .i64 0] 31) = W0 := ⟨_, rfl⟩
  have hb : Below w.heap.size w W0 := by rw [← hW0]; exact (At.below_alloc _).alloc (by simp) _
  have bx3 : Bx w.heap.size #[.slice a0 M.length c0, .slice a1 M.length c1, .slice a2 M.length c2, .slice a3 M.length c3, .int .i64 (cp : Int)] 31 W0 := by rw [← hW0]; exact (bx_new w _ 31).below (At.below_alloc _)
  have bx6 : Bx (w.heap.size + 1) #[.slice none 0 0, .slice none 0 0, .slice none 0 0, .slice none 0 0, .int .i64 0] 31 W0 := by
    have := bx_new (w.alloc (.cells #[.slice a0 M.length c0, .slice a1 M.length c1, .slice a2 M.length c2, .slice a3 M.length c3, .int .i64 (cp : Int)] 31)) #[.slice none 0 0, .slice none 0 0, .slice none 0 0, .slice none 0 0, .int .i64 0] 31
    rw [hW0] at this
    simpa using this
  have o4 := bx3.cell 4
  have g4 := bx3.fr 4
  obtain ⟨W1, hW1⟩ : ∃ W1, W0.setCell ⟨w.heap.size, 4, none⟩ (.int .i64 ((cp : Int) + 1)) = W1 := ⟨_, rfl⟩
  have hb1 : Below w.heap.size w W1 := by rw [← hW1]; exact below_set hb (Nat.le_refl _) _ _
  have bx31 : Bx w.heap.size #[.slice a0 M.length c0, .slice a1 M.length c1, .slice a2 M.length c2, .slice a3 M.length c3, .int .i64 ((cp : Int) + 1)] 31 W1 := by rw [← hW1]; exact bx3.set 4 _
  have bx61 : Bx (w.heap.size + 1) #[.slice none 0 0, .slice none 0 0, .slice none 0 0, .slice none 0 0, .int .i64 0] 31 W1 := by rw [← hW1]; exact bx6.other (by omega) _ _
  have hRA1 := hRA.below hb1
  obtain ⟨gn, cn, hvn, -, -, -, qn, -⟩ := hRA1.nms.el (j := i) (x := .string ⟨n.nm.toArray⟩) (by rw [List.getElem?_map, hn]; rfl)
  obtain ⟨ga, cga, hva, -, -, -, qa, -⟩ := (ha.below hb1).el (j := i) (x := .slice sa n.ats.length ca) hxa
  injection hvn with e1 _ e3
  subst e1 e3
  injection hva with e1 _ e3
  subst e1 e3
  have q0 := bx31.cell 0
  have q1 := bx31.cell 1
  have q2 := bx31.cell 2
  have q3 := bx31.cell 3
  have q4 := bx31.cell 4
  have hiI : (i : Int) < (M.length : Int) := by omega
  have hdr := below_drew W1
  have cX : Calls Try.prog 12 #[rv _ _ _ _ (cp + 1), .string ⟨n.nm.toArray⟩, .slice sa n.ats.length ca] W1.drew (RElemPost b0 (cp + 1) M n.nm n.ats W1.drew) := relem_any (hRA1.below hdr) (Nat.le_trans hb0 hb1.size) n.nm n.ats sa ca (cp + 1) ((hsl.below hb1).below hdr) hsb hM
  have HBX := Lib.hid (bx61.below hdr)
  have HB1 := Lib.hid (below_trans hb1 hdr)
  have HB0 := Lib.hid hb0
  have HLN := Lib.hid (show (M ++ [(⟨n.nm, n.ats, -1, []⟩ : MN)]).length = M.length + 1 by simp)
  clear hRA hnm ha ha' hi hp hxa hsl hsb hb bx3 bx6 hb1 bx31 bx61 hRA1 hdr hn hb0
  go_enter Try.func15, Try.ntmps15
  go_wp2_with fail
  go_region_law (first
    | (go_simp; go_at_call 12; refine cX.mono ?_; rintro e w2 ⟨u0, u1, u2, u3, rfl, hra, hbw⟩; obtain ⟨A0, C0, rfl, -⟩ := hra.nms.slice; obtain ⟨A1, C1, rfl, -⟩ := hra.ats.choose_spec.1.slice; obtain ⟨A2, C2, rfl, -⟩ := hra.inn.choose_spec.1.slice; obtain ⟨A3, C3, rfl, -⟩ := hra.par.slice; rw [HLN.out] at hra; have HB2 := Lib.hid (below_trans HB1.out hbw); have HBX2 := Lib.hid (HBX.out.below hbw); have z0 := HBX2.out.cell 0; have z1 := HBX2.out.cell 1; have z2 := HBX2.out.cell 2; have z3 := HBX2.out.cell 3; have z4 := HBX2.out.cell 4; have y0 := HBX2.out.fr 0; have y1 := HBX2.out.fr 1; have y2 := HBX2.out.fr 2; have y3 := HBX2.out.fr 3; have y4 := HBX2.out.fr 4; have HRA := Lib.hid hra; clear hra hbw; dsimp only))
  all_goals go_wp2
  all_goals (try simp only [Exit.inBlock, Exit.then])
  all_goals refine bodyPost_ret (results_row_tmp rfl _ _ (w.heap.size + 1) 31 #[.slice A0 (M.length + 1) C0, .slice A1 (M.length + 1) C1, .slice A2 (M.length + 1) C2, .slice A3 (M.length + 1) C3, .int .i64 ((cp : Int) + 1)] (0, 0) _ rfl ?_ Try.underlying31 rfl info31) rfl ?_
  all_goals first
    | exact HBX2.out.set5 _ _ _ _ _
    | exact ⟨_, _, _, _, rfl, HRA.out.set5 HBX2.out.ty (Nat.le_trans HB0.out (Nat.le_succ _)) _ _ _ _ _, below_set5 HB2.out (Nat.le_succ _) _ _ _ _ _⟩
end Go.Proofs.Ytpnjjpbgbdicoaa
