/- The document's arena: Move, walked. -/
import Derived.Test.YtpnjjpbgbdicoaaRg
import Derived.Deep.DeepCutAuto
namespace Go.Proofs.Ytpnjjpbgbdicoaa
open Go.RowKit Go.Lib
open At (Str cellsA cellsA_len Sl below_drewN)

/-- the elements among items, put under another node -/
def repM (k : Nat) (l : List (Nat × List UInt8)) (M : List MN) : List MN := M.mapIdx fun j n => if j ≠ 0 ∧ j ∈ l.map Prod.fst then { n with par := (k : Int) } else n
theorem repM_nil (k : Nat) (M : List MN) : repM k [] M = M := by
  unfold repM
  refine List.ext_getElem? fun j => ?_
  rw [List.getElem?_mapIdx]
  cases M[j]? <;> simp
theorem repM_len (k : Nat) (l : List (Nat × List UInt8)) (M : List MN) : (repM k l M).length = M.length := by unfold repM; rw [List.length_mapIdx]
theorem repM_at (k : Nat) (l : List (Nat × List UInt8)) {M : List MN} {j : Nat} {n : MN} (hn : M[j]? = some n) : (repM k l M)[j]? = some (if j ≠ 0 ∧ j ∈ l.map Prod.fst then { n with par := (k : Int) } else n) := by
  unfold repM
  rw [List.getElem?_mapIdx, hn]
  rfl
theorem repM_zero (k : Nat) (l : List (Nat × List UInt8)) (p : Nat × List UInt8) (M : List MN) (hp : p.1 = 0) : repM k (l ++ [p]) M = repM k l M := by
  refine List.ext_getElem? fun j => ?_
  rcases hL : M[j]? with _ | n
  · have h1 : (repM k (l ++ [p]) M)[j]? = none := by rw [List.getElem?_eq_none_iff, repM_len]; exact List.getElem?_eq_none_iff.1 hL
    have h2 : (repM k l M)[j]? = none := by rw [List.getElem?_eq_none_iff, repM_len]; exact List.getElem?_eq_none_iff.1 hL
    rw [h1, h2]
  · rw [repM_at _ _ hL, repM_at _ _ hL]
    congr 1
    by_cases hj : j = 0
    · simp [hj]
    · have e : (j ∈ (l ++ [p]).map Prod.fst) ↔ j ∈ l.map Prod.fst := by
        rw [List.map_append, List.mem_append]
        simp only [List.map_cons, List.map_nil, List.mem_singleton, hp, or_iff_left_iff_imp]
        intro h
        exact absurd h hj
      simp only [e]
theorem repM_snoc (k : Nat) (l : List (Nat × List UInt8)) (p : Nat × List UInt8) (M : List MN) (hp : p.1 ≠ 0) (hl : p.1 < M.length) : ∃ m, (repM k l M)[p.1]? = some m ∧ (repM k l M).set p.1 { m with par := (k : Int) } = repM k (l ++ [p]) M := by
  have hpl : M[p.1]? = some M[p.1] := List.getElem?_eq_getElem hl
  refine ⟨_, repM_at k l hpl, ?_⟩
  refine List.ext_getElem? fun j => ?_
  rcases hL : M[j]? with _ | n
  · have hj : M.length ≤ j := List.getElem?_eq_none_iff.1 hL
    rw [List.getElem?_set_ne (by omega), List.getElem?_eq_none (by rw [repM_len]; exact hj), List.getElem?_eq_none (by rw [repM_len]; exact hj)]
  · rw [repM_at k (l ++ [p]) hL]
    by_cases hj : j = p.1
    · subst hj
      rw [List.getElem?_set_self (by rw [repM_len]; exact hl)]
      rw [hpl] at hL
      injection hL with hL
      subst hL
      rw [if_pos (show p.1 ≠ 0 ∧ p.1 ∈ (l ++ [p]).map Prod.fst from ⟨hp, by simp⟩)]
      split <;> rfl
    · rw [List.getElem?_set_ne (fun e => hj e.symm), repM_at k l hL]
      have e : (j ∈ (l ++ [p]).map Prod.fst) ↔ j ∈ l.map Prod.fst := by
        rw [List.map_append, List.mem_append]
        simp only [List.map_cons, List.map_nil, List.mem_singleton, or_iff_left_iff_imp]
        intro h
        exact absurd h hj
      simp only [e]

/-- a row of items copied, with another one's items behind -/
theorem cat_items {X F : World} {v x : Value} {l m : List (Nat × List UInt8)} (hF : X.alloc (.cells #[] 88) = F) (h : Its X.drew v l) (h2 : Its X.drew x m) (hl : l.length + m.length ≤ 8000000) :
    ∃ v1 u1 a2 c2 u2, (Builtin.append_ #[85, 85] 85 #[.slice (some ⟨X.heap.size, 0, none⟩) 0 0, v]).run Try.prog F.drew = .ok v1 u1 ∧ (Builtin.append_ #[85, 85] 85 #[v1, x]).run Try.prog u1 = .ok (.slice a2 (l.length + m.length) c2) u2 ∧
      Its u2 (.slice a2 (l.length + m.length) c2) (l ++ m) ∧ Below X.drew.heap.size X.drew u1 ∧ Below X.drew.heap.size X.drew u2 ∧ Below X.drew.heap.size X.drew F.drew := by
  have d1 : F.drew = X.drew.alloc (.cells #[] 88) := by rw [← hF]; rfl
  obtain ⟨v1, u1, r1, q1, b1, -⟩ := copy_row row85 X.drew h (icells_one _) (by omega) (by decide)
  obtain ⟨j, z, hj, hz, hsz, hby, hzs⟩ := row85.info
  obtain ⟨v2, u2, r2, q3, q4, -, -⟩ := q1.append (P := Try.prog) 85 85 j z 24 row85.ht hj hz hsz hby hzs x m.length (icells m) (row_src row85 (Rw.below h2 b1) (icells_one m)) (by unfold maxLen; omega) (by omega) b1.size
  obtain ⟨a2, c2, rfl, -⟩ := q3.slice
  refine ⟨v1, u1, a2, c2, u2, by rw [d1]; exact r1, r2, ?_, b1, b1.grown q4 b1.size (fun q hq => (q1.lt q hq).1), by rw [d1]; exact At.below_alloc _⟩
  unfold Its
  rw [List.length_append, icells_append]
  exact q3.base (Nat.zero_le _)

/-- where the loop of Move stands -/
def RmRel (b0 cp k : Nat) (l : List (Nat × List UInt8)) (M2 : List MN) (w : World) (s0 s1 s2 s3 : Value) (vI : Value) (v8 : Value) (wr : World) : Prop :=
  ∃ n : Nat, v8 = .int .i64 (n : Int) ∧ n ≤ l.length ∧ Its wr vI l ∧ BB w s0 s1 s2 s3 cp wr ∧ RA b0 wr s0 s1 s2 s3 (repM k (l.take n) M2)

set_option maxHeartbeats 16000000 in
set_option maxRecDepth 100000 in
theorem rmove_any {b0 : Nat} {w : World} {v0 v1 v2 v3 : Value} {M : List MN} (h : RA b0 w v0 v1 v2 v3 M) (hb0 : b0 ≤ w.heap.size) (cp k i : Nat) (nk ni : MN) (hk : M[k]? = some nk) (hi : M[i]? = some ni) (hki : k ≠ i) (hel : ∀ p ∈ ni.inn, p.1 < M.length) (hM : M.length ≤ 4000000) (hl : nk.inn.length + ni.inn.length ≤ 4000000) :
    Calls Try.prog 22 #[rv v0 v1 v2 v3 cp, .int .i64 (i : Int), .int .i64 (k : Int)] w (RPost b0 cp (repM k ni.inn ((M.set i { ni with inn := [] }).set k { nk with inn := nk.inn ++ ni.inn })) w) := by
  have hRA := h
  obtain ⟨hnm, ⟨xa, ha, ha'⟩, ⟨xi, hxi, hxi'⟩, hp⟩ := h
  obtain ⟨a0, c0, rfl, -⟩ := hnm.slice
  obtain ⟨a1, c1, rfl, -⟩ := ha.slice
  obtain ⟨a2, c2, rfl, -⟩ := hxi.slice
  obtain ⟨a3, c3, rfl, -⟩ := hp.slice
  have hkl := (List.getElem?_eq_some_iff.1 hk).1
  have hil := (List.getElem?_eq_some_iff.1 hi).1
  have hM0 : M ≠ [] := by intro e; rw [e] at hkl; exact absurd hkl (Nat.not_lt_zero _)
  have bb := bb_new w (.slice a0 M.length c0) (.slice a1 M.length c1) (.slice a2 M.length c2) (.slice a3 M.length c3) cp
  obtain ⟨W0, hW0⟩ : ∃ W0, (w.alloc (.cells #[.slice a0 M.length c0, .slice a1 M.length c1, .slice a2 M.length c2, .slice a3 M.length c3, .int .i64 (cp : Int)] 31)).alloc (.cells #[.slice none 0 0, .slice none 0 0, .slice none 0 0, .slice none 0 0, .int .i64 0] 31) = W0 := ⟨_, rfl⟩
  rw [hW0] at bb
  obtain ⟨g, c, W1, r1, hg, hgb, hra1, hb1⟩ := (hRA.below bb.below).copyInn (Nat.le_trans hb0 bb.below.size) hM hM0
  have q2 : (W0.alloc (.cells #[] 85)).cell? ⟨w.heap.size, 2, none⟩ = some (.slice a2 M.length c2) := (bb.grow (At.below_alloc _)).cells.1.2.2.1
  have bb1 := bb.grow hb1
  have k2 := bb1.cells.1.2.2.1
  have f2 := bb1.box.fr 2
  obtain ⟨X1, hX1⟩ : ∃ X1, W1.setCell ⟨w.heap.size, 2, none⟩ (.slice (some ⟨g, 0, none⟩) M.length c) = X1 := ⟨_, rfl⟩
  have bx1 := bb1.set2 (.slice (some ⟨g, 0, none⟩) M.length c)
  have hrx := hra1.setBox bb1.box.ty hb0 2 (.slice (some ⟨g, 0, none⟩) M.length c)
  rw [hX1] at bx1 hrx
  obtain ⟨g4, c4, W2, r2, hg4, hgb4, hra2, hb2⟩ := hrx.copyPar (Nat.le_trans hb0 bx1.below.size) hM hM0
  have q3 : (X1.alloc (.cells #[] 3)).cell? ⟨w.heap.size, 3, none⟩ = some (.slice a3 M.length c3) := (bx1.grow (At.below_alloc _)).cells.1.2.2.2.1
  have bb2 := bx1.grow hb2
  have k3 := bb2.cells.1.2.2.2.1
  have f3 := bb2.box.fr 3
  obtain ⟨X2, hX2⟩ : ∃ X2, W2.setCell ⟨w.heap.size, 3, none⟩ (.slice (some ⟨g4, 0, none⟩) M.length c4) = X2 := ⟨_, rfl⟩
  have bx2 := bb2.set3 (.slice (some ⟨g4, 0, none⟩) M.length c4)
  have hrx2 := hra2.setBox bb2.box.ty hb0 3 (.slice (some ⟨g4, 0, none⟩) M.length c4)
  rw [hX2] at bx2 hrx2
  have hgw : w.heap.size ≤ g := Nat.le_trans bb.below.size hg
  have hgw4 : w.heap.size ≤ g4 := Nat.le_trans bx1.below.size hg4
  have k5 := bx2.cells.1.2.2.2.1
  have k6 := bx2.cells.1.2.2.1
  have hkI : (k : Int) < (M.length : Int) := by omega
  have hiI : (i : Int) < (M.length : Int) := by omega
  have HB0 := Lib.hid hb0
  have R1 := Lib.hid r1
  have R2 := Lib.hid r2
  have hdx := Below.refl X2.heap.size X2
  obtain ⟨ai, cci, hIi, CI, ENi⟩ := en_of bx2 hrx2 rfl hgw hgb hi
  have l1 := (CI X2 hdx).2
  have en1 := ENi X2 (.slice none 0 0) [] hdx (Rw.nil _ _ _ _)
  have l2 := en1.e3
  obtain ⟨X3, hX3⟩ : ∃ X3, X2.setCell ⟨g, i, none⟩ (.slice none 0 0) = X3 := ⟨_, rfl⟩
  have bx3 := en1.bb
  have hrx3 := en1.ra
  rw [hX3] at bx3 hrx3
  have hIi3 : Its X3 (.slice ai ni.inn.length cci) ni.inn := by
    obtain ⟨xj, hj1, hj2⟩ := hrx2.inn
    obtain ⟨vk, hvk, -⟩ := hj2 i ni hi
    obtain ⟨g', c', hv, -, hT, -, -, -⟩ := hj1.el hvk
    have hgg : g' = g := by injection hv with e1; injection e1 with e1; injection e1 with e1; exact e1.symm
    subst hgg
    rw [← hX3]
    exact Rw.setBox hIi hT (by decide) i _
  have hk3 : (M.set i { ni with inn := [] })[k]? = some nk := by rw [List.getElem?_set_ne (fun e => hki e.symm)]; exact hk
  have hlM : (M.set i { ni with inn := [] }).length = M.length := List.length_set
  have hdr := below_drew X3
  obtain ⟨ak, cck, hIts, CC, EN⟩ := en_of (bx3.grow hdr) (hrx3.below hdr) hlM hgw hgb hk3
  obtain ⟨F, hF⟩ : ∃ F, X3.alloc (.cells #[] 88) = F := ⟨_, rfl⟩
  obtain ⟨vA, uA, aA, cA, zA, rA, rA', iA, bA1, bA2, bF⟩ := cat_items hF hIts (Rw.below hIi3 hdr : Its X3.drew _ ni.inn) (by omega)
  have o0 : X3.cell? ⟨w.heap.size, 2, none⟩ = _ ∧ X3.cell? ⟨g, k, none⟩ = _ := CC X3.drew (Below.refl _ _)
  have o1 : F.cell? ⟨w.heap.size, 2, none⟩ = _ ∧ F.cell? ⟨g, k, none⟩ = _ := CC F.drew bF
  have o5 := CC _ bA1
  obtain ⟨m0, n0⟩ := o0
  obtain ⟨m1, n1⟩ := o1
  obtain ⟨m5, n5⟩ := o5
  have enA := EN zA _ _ bA2 iA
  have e1A := enA.e1
  have e2A := enA.e2
  have e3A := enA.e3
  have bzA := enA.bb
  have rzA := enA.ra
  obtain ⟨ZA, hZA⟩ : ∃ Z, zA.setCell ⟨g, k, none⟩ (.slice aA (nk.inn.length + ni.inn.length) cA) = Z := ⟨_, rfl⟩
  rw [hZA] at bzA rzA
  have EA1 := Lib.hid rA
  have EA2 := Lib.hid rA'
  obtain ⟨M2, hM2⟩ : ∃ M2, (M.set i { ni with inn := [] }).set k { nk with inn := nk.inn ++ ni.inn } = M2 := ⟨_, rfl⟩
  rw [hM2] at rzA ⊢
  have hlM2 : M2.length = M.length := by rw [← hM2, List.length_set, List.length_set]
  have HBZ := Lib.hid bzA
  have HRZ := Lib.hid rzA
  have HEL := Lib.hid hel
  have HL2 := Lib.hid hlM2
  have HGW4 := Lib.hid hgw4
  have HGB4 := Lib.hid hgb4
  have HITZ := Lib.hid (show Its ZA (.slice ai ni.inn.length cci) ni.inn from by
    have h1 : Its zA (.slice ai ni.inn.length cci) ni.inn := Rw.below (Rw.below hIi3 hdr) bA2
    obtain ⟨xj, hj1, hj2⟩ := hrx3.inn
    obtain ⟨vk, hvk, -⟩ := hj2 k nk hk3
    obtain ⟨g', c', hv, -, hT, -, -, -⟩ := ((hj1.below hdr).below bA2).el hvk
    have hgg : g' = g := by injection hv with e1; injection e1 with e1; injection e1 with e1; exact e1.symm
    subst hgg
    rw [← hZA]
    exact Rw.setBox h1 hT (by decide) k _)
  clear hRA hnm ha ha' hxi hxi' hp bb hra1 hb1 bb1 bx1 hrx hra2 hb2 bb2 bx2 hrx2 hgw hgw4 bx3 hrx3 hk3 hlM hdr hdx hIi CI ENi en1 hIi3 hIts CC EN r1 r2 hM0 hk hi hb0 hg hg4 hgb hgb4 hkl hil rA rA' iA bA1 bA2 bF enA bzA rzA hel hlM2
  go_enter Try.func22, Try.ntmps22
  go_upto_region 5 with (at_builtin; first
    | (refine Lib.wpList_append_run _ rfl (.tmp 9) (.tmp 11) 28 28 rfl _ _ rfl rfl _ W1 R1.out ?_)
    | (refine Lib.wpList_append_run _ rfl (.tmp 14) (.tmp 16) 29 29 rfl _ _ rfl rfl _ W2 R2.out ?_))
  go_cut [] from 28 to 40 (fun wx => wx = ZA)
  case first =>
    go_region_law (first
      | (refine step_run rfl (.tmp 31) (.tmp 36) 85 85 rfl _ _ rfl rfl _ uA EA1.out ?_)
      | (refine step_run rfl (.tmp 37) (.tmp 38) 85 85 rfl _ _ rfl rfl _ zA EA2.out ?_))
    all_goals (go_wp2_with fail; go_meet; exact rfl)
  case rest =>
    subst hcut
    clear EA1 EA2 m0 m1 m5 n0 n1 n5 e1A e2A e3A hF hZA hX3 hX2 hX1 hW0 R1 R2 q2 q3 k2 k3 k5 k6 f2 f3 l1 l2
    go_wp2
    go_loopw [8] (fun v8 wr => RmRel b0 cp k ni.inn M2 w (.slice a0 M.length c0) (.slice a1 M.length c1) (.slice (some ⟨g, 0, none⟩) M.length c) (.slice (some ⟨g4, 0, none⟩) M.length c4) (.slice ai ni.inn.length cci) v8 wr) (fun v _ => ni.inn.length - (RowKit.intOf v).toNat)
    case atStart => exact ⟨0, rfl, Nat.zero_le _, HITZ.out, HBZ.out, by rw [List.take_zero, repM_nil]; exact HRZ.out⟩
    case round =>
      obtain ⟨n, rfl, hn, hit, hbb, hra⟩ := hrel
      obtain ⟨⟨q0', q1', q2', q3', q4'⟩, ⟨z0, z1, z2, z3, z4⟩, y0, y1, y2, y3, y4⟩ := hbb.cells
      by_cases hlt : n < ni.inn.length
      · have h1 : (n : Int) < (ni.inn.length : Int) := by omega
        obtain ⟨p, hp⟩ : ∃ p, ni.inn[n]? = some p := ⟨_, List.getElem?_eq_getElem hlt⟩
        obtain ⟨gk, cck', hvk', -, -, k0, k1⟩ := Its.item hit hp
        injection hvk' with e1 _ e3
        subst e1 e3
        have htk : ni.inn.take (n + 1) = ni.inn.take n ++ [p] := by rw [List.take_add_one, hp]; rfl
        have HTK := Lib.hid htk
        have hpl : p.1 < M2.length := by rw [HL2.out]; exact HEL.out p (mem_of_at hp)
        have hn8 : n ≤ 4000000 := by omega
        by_cases he : p.1 = 0
        · have hng : ¬ ((0 : Int) < (p.1 : Int)) := by omega
          have HE := Lib.hid he
          have HIT := Lib.hid hit
          have HBB := Lib.hid hbb
          have HRA := Lib.hid hra
          clear he hit hbb hra hp htk hpl z0 z1 z2 z3 z4 y0 y1 y2 y3 y4 q0' q1' q2' q3' q4'
          go_wp2
          go_roundw
          case rel => exact ⟨n + 1, by go_num, by omega, HIT.out, HBB.out, by rw [HTK.out, repM_zero _ _ _ _ HE.out]; exact HRA.out⟩
          case measure => simp [RowKit.intOf]; omega
        · have hng : (0 : Int) < (p.1 : Int) := by omega
          obtain ⟨mn, hmn, hset⟩ := repM_snoc k (ni.inn.take n) p M2 he hpl
          have hdw := below_drew wr
          have hra' := hra.below hdw
          obtain ⟨g7, c7, hv7, -, hT7, -, k7, f7⟩ := hra'.par.el (j := p.1) (x := .int .i64 mn.par) (by rw [List.getElem?_map, hmn]; rfl)
          have hgg7 : g7 = g4 := by injection hv7 with e1; injection e1 with e1; injection e1 with e1; exact e1.symm
          subst hgg7
          have k7' : wr.cell? ⟨g7, p.1, none⟩ = some (.int .i64 mn.par) := k7
          have f7' : wr.frozen? ⟨g7, p.1, none⟩ = false := f7
          have hlr : (repM k (ni.inn.take n) M2).length = M.length := by rw [repM_len]; exact HL2.out
          have HBB := Lib.hid ((hbb.grow hdw).other HGW4.out ⟨3, hT7, by decide⟩ p.1 (.int .i64 (k : Int)))
          have hra2 := hra'.setPar hmn (by rw [hlr]) HGB4.out (k : Int)
          rw [hset] at hra2
          have HRA := Lib.hid hra2
          have HIT := Lib.hid (Rw.setBox (Rw.below hit hdw) hT7 (by decide) p.1 (.int .i64 (k : Int)))
          have hpI : (p.1 : Int) < (M.length : Int) := by have := HL2.out; omega
          have hpb : p.1 ≤ 4000000 := by have := HL2.out; omega
          clear he hit hbb hra hp htk hpl z0 z1 z2 z3 z4 y0 y1 y2 y3 y4 q0' q1' q2' q4' hra' hv7 hT7 k7 f7 hra2 hset hmn hlr hdw
          go_wp2_with fail
          go_region_law (fail)
          all_goals go_wp2
          all_goals
            go_roundw
            case rel => exact ⟨n + 1, by go_num, by omega, HIT.out, HBB.out, by rw [HTK.out]; exact HRA.out⟩
            case measure => simp [RowKit.intOf]; omega
      · obtain rfl : n = ni.inn.length := by omega
        have h1 : ¬ ((ni.inn.length : Int) < (ni.inn.length : Int)) := by omega
        rw [List.take_length] at hra
        have FIN := Lib.hid (fun y0 y1 y2 y3 y4 => hbb.answer hra HB0.out y0 y1 y2 y3 y4)
        clear hit hbb hra
        go_wp2
        (try simp only [Exit.inBlock, Exit.then])
        refine bodyPost_ret (results_cell_row rfl _ _ (w.heap.size + 1) 31 #[.slice a0 M.length c0, .slice a1 M.length c1, .slice (some ⟨g, 0, none⟩) M.length c, .slice (some ⟨g4, 0, none⟩) M.length c4, .int .i64 (cp : Int)] (0, 0) _ rfl ?_ Try.underlying31 rfl info31) rfl ?_
        · exact (FIN.out _ _ _ _ _).1
        · exact ⟨_, _, _, _, rfl, (FIN.out _ _ _ _ _).2.1, (FIN.out _ _ _ _ _).2.2⟩
end Go.Proofs.Ytpnjjpbgbdicoaa
