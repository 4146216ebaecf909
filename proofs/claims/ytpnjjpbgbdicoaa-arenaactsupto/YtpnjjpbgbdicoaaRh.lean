/- The document's arena: Append, walked. -/
import Derived.Test.YtpnjjpbgbdicoaaRg
import Derived.Deep.DeepCutAuto
import Derived.Test.YtpnjjpbgbdicoaaOr
namespace Go.Proofs.Ytpnjjpbgbdicoaa
open Go.RowKit Go.Lib
open At (Str cellsA cellsA_len Sl below_drewN)

set_option linter.unusedSimpArgs false in
set_option maxHeartbeats 16000000 in
set_option maxRecDepth 100000 in
theorem rappend_none {b0 : Nat} {w : World} {v0 v1 v2 v3 : Value} {M : List MN} (h : RA b0 w v0 v1 v2 v3 M) (hb0 : b0 ≤ w.heap.size) (cp k i : Nat) (nk1 ni : MN) (hk : M[k]? = some nk1) (hi : M[i]? = some ni) (hki : k ≠ i) (hpar : ni.par = -1) (hM : M.length ≤ 4000000) (hl : nk1.inn.length + 1 ≤ 4000000) :
    Calls Try.prog 18 #[rv v0 v1 v2 v3 cp, .int .i64 (k : Int), .int .i64 (i : Int)] w (RPost b0 cp ((M.set i { ni with par := (k : Int) }).set k { nk1 with inn := nk1.inn ++ [(i, [])] }) w) := by
  have hRA := h
  obtain ⟨hnm, ⟨xa, ha, ha'⟩, ⟨xi, hxi, hxi'⟩, hp⟩ := h
  obtain ⟨a0, c0, rfl, -⟩ := hnm.slice
  obtain ⟨a1, c1, rfl, -⟩ := ha.slice
  obtain ⟨a2, c2, rfl, -⟩ := hxi.slice
  obtain ⟨a3, c3, rfl, -⟩ := hp.slice
  have hkl := (List.getElem?_eq_some_iff.1 hk).1
  have hil := (List.getElem?_eq_some_iff.1 hi).1
  have hM0 : M ≠ [] := by intro e; rw [e] at hkl; exact absurd hkl (Nat.not_lt_zero _)
  have bb := bb_new w (.slice a0 M.length c0) (.slice a1 M.length c1) (.slice a2 M.length c2) (.slice a3 M.length c3) cp
  obtain ⟨W0, hW0⟩ : ∃ W0, (w.alloc (.cells #[.slice a0 M.length c0, .slice a1 M.length c1, .slice a2 M.length c2, .slice a3 M.length c3, .int .i64 (cp : Int)] 31)).alloc (.cells #[.slice none 0 0, .slice none 0 0, .slice none 0 0, .slice none 0 0, .int .i64 0] 31) = W0 := ⟨_, rfl⟩
  rw [hW0] at bb
  obtain ⟨g, c, W1, r1, hg, hgb, hra1, hb1⟩ := (hRA.below bb.below).copyInn (Nat.le_trans hb0 bb.below.size) hM hM0
  have q2 : (W0.alloc (.cells #[] 85)).cell? ⟨w.heap.size, 2, none⟩ = some (.slice a2 M.length c2) := (bb.grow (At.below_alloc _)).cells.1.2.2.1
  have bb1 := bb.grow hb1
  have k2 := bb1.cells.1.2.2.1
  have f2 := bb1.box.fr 2
  obtain ⟨X1, hX1⟩ : ∃ X1, W1.setCell ⟨w.heap.size, 2, none⟩ (.slice (some ⟨g, 0, none⟩) M.length c) = X1 := ⟨_, rfl⟩
  have bx1 := bb1.set2 (.slice (some ⟨g, 0, none⟩) M.length c)
  have hrx := hra1.setBox bb1.box.ty hb0 2 (.slice (some ⟨g, 0, none⟩) M.length c)
  rw [hX1] at bx1 hrx
  obtain ⟨g4, c4, W2, r2, hg4, hgb4, hra2, hb2⟩ := hrx.copyPar (Nat.le_trans hb0 bx1.below.size) hM hM0
  have q3 : (X1.alloc (.cells #[] 3)).cell? ⟨w.heap.size, 3, none⟩ = some (.slice a3 M.length c3) := (bx1.grow (At.below_alloc _)).cells.1.2.2.2.1
  have bb2 := bx1.grow hb2
  have k3 := bb2.cells.1.2.2.2.1
  have f3 := bb2.box.fr 3
  obtain ⟨X2, hX2⟩ : ∃ X2, W2.setCell ⟨w.heap.size, 3, none⟩ (.slice (some ⟨g4, 0, none⟩) M.length c4) = X2 := ⟨_, rfl⟩
  have bx2 := bb2.set3 (.slice (some ⟨g4, 0, none⟩) M.length c4)
  have hrx2 := hra2.setBox bb2.box.ty hb0 3 (.slice (some ⟨g4, 0, none⟩) M.length c4)
  rw [hX2] at bx2 hrx2
  have hgw : w.heap.size ≤ g := Nat.le_trans bb.below.size hg
  have hgw4 : w.heap.size ≤ g4 := Nat.le_trans bx1.below.size hg4
  have k5 := bx2.cells.1.2.2.2.1
  have k6 := bx2.cells.1.2.2.1
  have hkI : (k : Int) < (M.length : Int) := by omega
  have hiI : (i : Int) < (M.length : Int) := by omega
  have HB0 := Lib.hid hb0
  have R1 := Lib.hid r1
  have R2 := Lib.hid r2
  have hi1 := hi
  have hk1 := hk
  have hlM1 : M.length = M.length := rfl
  obtain ⟨g5, c5', hv5, -, hT5, -, k9, f9⟩ := hrx2.par.el (j := i) (x := .int .i64 ni.par) (by rw [List.getElem?_map, hi1]; rfl)
  have hgg5 : g5 = g4 := by injection hv5 with e1; injection e1 with e1; injection e1 with e1; exact e1.symm
  subst hgg5
  have k10 := bx2.cells.1.2.2.2.1
  obtain ⟨X3, hX3⟩ : ∃ X3, X2.setCell ⟨g5, i, none⟩ (.int .i64 (k : Int)) = X3 := ⟨_, rfl⟩
  have bx3 := bx2.other hgw4 ⟨3, hT5, by decide⟩ i (.int .i64 (k : Int))
  have hrx3 := hrx2.setPar hi1 rfl hgb4 (k : Int)
  rw [hX3] at bx3 hrx3
  rw [hpar] at k9
  have hk3 : (M.set i { ni with par := (k : Int) })[k]? = some nk1 := by rw [List.getElem?_set_ne (fun e => hki e.symm)]; exact hk1
  have hlM2 : (M.set i { ni with par := (k : Int) }).length = M.length := List.length_set.trans hlM1
  have hdr := below_drew X3
  obtain ⟨ak, cck, hIts, CC, EN⟩ := en_of (bx3.grow hdr) (hrx3.below hdr) hlM2 hgw hgb hk3
  obtain ⟨F, hF⟩ : ∃ F, X3.alloc (.cells #[] 88) = F := ⟨_, rfl⟩
  obtain ⟨I, hI⟩ : ∃ I, X3.alloc (.cells #[.string ⟨#[]⟩, .int .i64 (i : Int)] 88) = I := ⟨_, rfl⟩
  obtain ⟨FI, hFI⟩ : ∃ FI, F.alloc (.cells #[.string ⟨#[]⟩, .int .i64 (i : Int)] 88) = FI := ⟨_, rfl⟩
  obtain ⟨IF, hIF⟩ : ∃ IF, I.alloc (.cells #[] 88) = IF := ⟨_, rfl⟩
  obtain ⟨⟨vA, uA, aA, cA, zA, rA, rA', iA, bA1, bA2, bA3⟩, ⟨vB, uB, aB, cB, zB, rB, rB', iB, bB1, bB2⟩, ⟨vC, uC, aC, cC, zC, rC, rC', iC, bC1, bC2⟩, bF, bI, bFI, bIF⟩ := ext_items4 i hF hI hFI hIF hIts (by omega)
  obtain ⟨UA, hUA⟩ : ∃ UA, uA.alloc (.cells #[.string ⟨#[]⟩, .int .i64 (i : Int)] 88) = UA := ⟨_, rfl⟩
  rw [hUA] at rA' bA3
  have o0 : X3.cell? ⟨w.heap.size, 2, none⟩ = _ ∧ X3.cell? ⟨g, k, none⟩ = _ := CC X3.drew (Below.refl _ _)
  have o1 : F.cell? ⟨w.heap.size, 2, none⟩ = _ ∧ F.cell? ⟨g, k, none⟩ = _ := CC F.drew bF
  have o2 : I.cell? ⟨w.heap.size, 2, none⟩ = _ ∧ I.cell? ⟨g, k, none⟩ = _ := CC I.drew bI
  have o3 : FI.cell? ⟨w.heap.size, 2, none⟩ = _ ∧ FI.cell? ⟨g, k, none⟩ = _ := CC FI.drew bFI
  have o4 : IF.cell? ⟨w.heap.size, 2, none⟩ = _ ∧ IF.cell? ⟨g, k, none⟩ = _ := CC IF.drew bIF
  have o5 := CC _ bA1
  have o6 := CC _ bA3
  have o7 := CC _ bB1
  have o8 := CC _ bC1
  obtain ⟨m0, n0⟩ := o0
  obtain ⟨m1, n1⟩ := o1
  obtain ⟨m2, n2⟩ := o2
  obtain ⟨m3, n3⟩ := o3
  obtain ⟨m4, n4⟩ := o4
  obtain ⟨m5, n5⟩ := o5
  obtain ⟨m6, n6⟩ := o6
  obtain ⟨m7, n7⟩ := o7
  obtain ⟨m8, n8⟩ := o8
  have enA := EN zA _ _ bA2 iA
  have e1A := enA.e1
  have e2A := enA.e2
  have e3A := enA.e3
  have FINA := Lib.hid (And.intro enA.bb enA.ra)
  have EA1 := Lib.hid rA
  have EA2 := Lib.hid rA'
  have enB := EN zB _ _ bB2 iB
  have e1B := enB.e1
  have e2B := enB.e2
  have e3B := enB.e3
  have FINB := Lib.hid (And.intro enB.bb enB.ra)
  have EB1 := Lib.hid rB
  have EB2 := Lib.hid rB'
  have enC := EN zC _ _ bC2 iC
  have e1C := enC.e1
  have e2C := enC.e2
  have e3C := enC.e3
  have FINC := Lib.hid (And.intro enC.bb enC.ra)
  have EC1 := Lib.hid rC
  have EC2 := Lib.hid rC'
  clear hRA hnm ha ha' hxi hxi' hp bb hra1 hb1 bb1 bx1 hrx hra2 hb2 bb2 bx2 hrx2 hgw hgw4 r1 r2 hM0 hk hi hb0 hg hg4 hgb hgb4 hkl hil hv5 hT5 bx3 hrx3 hk3 hlM1 hlM2 hdr hIts CC EN hk1 hi1 bA3 bF bI bFI bIF rA rA' iA bA1 bA2 enA rB rB' iB bB1 bB2 enB rC rC' iC bC1 bC2 enC
  go_enter Try.func18, Try.ntmps18
  go_upto_region 5 with (at_builtin; first
    | (refine Lib.wpList_append_run _ rfl (.tmp 7) (.tmp 9) 28 28 rfl _ _ rfl rfl _ W1 R1.out ?_)
    | (refine Lib.wpList_append_run _ rfl (.tmp 12) (.tmp 14) 29 29 rfl _ _ rfl rfl _ W2 R2.out ?_))
  go_upto_region 6 with fail
  go_cut [] from 47 to 61 (fun wx => BB w (.slice a0 M.length c0) (.slice a1 M.length c1) (.slice (some ⟨g, 0, none⟩) M.length c) (.slice (some ⟨g5, 0, none⟩) M.length c4) cp wx ∧ RA b0 wx (.slice a0 M.length c0) (.slice a1 M.length c1) (.slice (some ⟨g, 0, none⟩) M.length c) (.slice (some ⟨g5, 0, none⟩) M.length c4) ((M.set i { ni with par := (k : Int) }).set k { nk1 with inn := nk1.inn ++ [(i, [])] }))
  case first =>
    clear k9 f9 k10
    have hS0 : (fun wx => wx.cell? ⟨w.heap.size, 2, none⟩ = some (.slice (some ⟨g, 0, none⟩) M.length c) ∧ wx.cell? ⟨g, k, none⟩ = some (.slice ak nk1.inn.length cck)) X3.drew := ⟨m0, n0⟩
    refine wpE_region (S := (fun wx => wx.cell? ⟨w.heap.size, 2, none⟩ = some (.slice (some ⟨g, 0, none⟩) M.length c) ∧ wx.cell? ⟨g, k, none⟩ = some (.slice ak nk1.inn.length cck))) (last := 15) (by kernel_rfl) ?_
    refine wpE_take (i := 0) (v := ?_) rfl (by kernel_rfl) (by kernel_rfl) (by kernel_rfl) 14 (by kernel_rfl) (by kernel_rfl) (fun _ _ _ h => h) (Or.inl ⟨by rfl, ?_⟩) (by assumption) ?_
    rotate_left
    · intro wq hSq
      obtain ⟨hq1, hq2⟩ := hSq
      go_simp
      try with_reducible rfl
    try simp only [Act.put, List.setIfInBounds_toArray, List.set_cons_zero, List.set_cons_succ]
    refine wpE_take (i := 1) (v := ?_) rfl (by kernel_rfl) (by kernel_rfl) (by kernel_rfl) 14 (by kernel_rfl) (by kernel_rfl) (fun _ _ _ h => h) (Or.inl ⟨by rfl, ?_⟩) (by assumption) ?_
    rotate_left
    · intro wq hSq
      obtain ⟨hq1, hq2⟩ := hSq
      go_simp
      try with_reducible rfl
    try simp only [Act.put, List.setIfInBounds_toArray, List.set_cons_zero, List.set_cons_succ]
    refine wpE_take (i := 2) (v := ?_) rfl (by kernel_rfl) (by kernel_rfl) (by kernel_rfl) 14 (by kernel_rfl) (by kernel_rfl) (fun _ _ _ h => h) (Or.inl ⟨by rfl, ?_⟩) (by assumption) ?_
    rotate_left
    · intro wq hSq
      obtain ⟨hq1, hq2⟩ := hSq
      go_simp
      try with_reducible rfl
    try simp only [Act.put, List.setIfInBounds_toArray, List.set_cons_zero, List.set_cons_succ]
    refine wpE_take (i := 4) (v := ?_) rfl (by kernel_rfl) (by kernel_rfl) (by kernel_rfl) 14 (by kernel_rfl) (by kernel_rfl) (fun _ _ _ h => h) (Or.inl ⟨by rfl, ?_⟩) (by assumption) ?_
    rotate_left
    · intro wq hSq
      obtain ⟨hq1, hq2⟩ := hSq
      go_simp
      try with_reducible rfl
    try simp only [Act.put, List.setIfInBounds_toArray, List.set_cons_zero, List.set_cons_succ]
    refine wpE_take (i := 5) (v := ?_) rfl (by kernel_rfl) (by kernel_rfl) (by kernel_rfl) 14 (by kernel_rfl) (by kernel_rfl) (fun _ _ _ h => h) (Or.inl ⟨by rfl, ?_⟩) (by assumption) ?_
    rotate_left
    · intro wq hSq
      obtain ⟨hq1, hq2⟩ := hSq
      go_simp
      try with_reducible rfl
    try simp only [Act.put, List.setIfInBounds_toArray, List.set_cons_zero, List.set_cons_succ]
    refine wpE_take (i := 6) (v := ?_) rfl (by kernel_rfl) (by kernel_rfl) (by kernel_rfl) 14 (by kernel_rfl) (by kernel_rfl) (fun _ _ _ h => h) (Or.inl ⟨by rfl, ?_⟩) (by assumption) ?_
    rotate_left
    · intro wq hSq
      obtain ⟨hq1, hq2⟩ := hSq
      go_simp
      try with_reducible rfl
    try simp only [Act.put, List.setIfInBounds_toArray, List.set_cons_zero, List.set_cons_succ]
    refine wpE_take (i := 7) (v := ?_) rfl (by kernel_rfl) (by kernel_rfl) (by kernel_rfl) 14 (by kernel_rfl) (by kernel_rfl) (fun _ _ _ h => h) (Or.inl ⟨by rfl, ?_⟩) (by assumption) ?_
    rotate_left
    · intro wq hSq
      obtain ⟨hq1, hq2⟩ := hSq
      go_simp
      try with_reducible rfl
    try simp only [Act.put, List.setIfInBounds_toArray, List.set_cons_zero, List.set_cons_succ]
    refine wpE_take (i := 8) (v := ?_) rfl (by kernel_rfl) (by kernel_rfl) (by kernel_rfl) 14 (by kernel_rfl) (by kernel_rfl) (fun _ _ _ h => h) (Or.inl ⟨by rfl, ?_⟩) (by assumption) ?_
    rotate_left
    · intro wq hSq
      obtain ⟨hq1, hq2⟩ := hSq
      go_simp
      try with_reducible rfl
    try simp only [Act.put, List.setIfInBounds_toArray, List.set_cons_zero, List.set_cons_succ]
    refine wpE_take (i := 10) (v := ?_) rfl (by kernel_rfl) (by kernel_rfl) (by kernel_rfl) 14 (by kernel_rfl) (by kernel_rfl) (fun _ _ _ h => h) (Or.inl ⟨by rfl, ?_⟩) (by assumption) ?_
    rotate_left
    · intro wq hSq
      obtain ⟨hq1, hq2⟩ := hSq
      go_simp
      try with_reducible rfl
    try simp only [Act.put, List.setIfInBounds_toArray, List.set_cons_zero, List.set_cons_succ]
    refine wpE_take (i := 11) (v := ?_) rfl (by kernel_rfl) (by kernel_rfl) (by kernel_rfl) 14 (by kernel_rfl) (by kernel_rfl) (fun _ _ _ h => h) (Or.inl ⟨by rfl, ?_⟩) (by assumption) ?_
    rotate_left
    · intro wq hSq
      obtain ⟨hq1, hq2⟩ := hSq
      go_simp
      try with_reducible rfl
    try simp only [Act.put, List.setIfInBounds_toArray, List.set_cons_zero, List.set_cons_succ]
    refine wpE_two (i := 3) (j := 12) (by kernel_rfl) rfl rfl ?_ ?_
    · intro K9 hK9
      go_simp
      refine hK9 _ _ (Or.inr ⟨m1, n1⟩) ?_
      clear hK9
      try simp only [Act.put, List.setIfInBounds_toArray, List.set_cons_zero, List.set_cons_succ]
      refine wpE_two (i := 9) (j := 12) (by kernel_rfl) rfl rfl ?_ ?_
      · intro K9 hK9
        refine step_run rfl (.tmp 50) (.tmp 55) 85 85 rfl _ _ rfl rfl _ uA EA1.out ?_
        refine hK9 _ _ (Or.inr ⟨m5, n5⟩) ?_
        clear hK9
        try simp only [Act.put, List.setIfInBounds_toArray, List.set_cons_zero, List.set_cons_succ]
        refine wpE_one (i := 12) (by kernel_rfl) rfl ?_
        intro K9 hK9
        go_simp
        refine hK9 _ _ (Or.inr ⟨m6, n6⟩) ?_
        clear hK9
        try simp only [Act.put, List.setIfInBounds_toArray, List.set_cons_zero, List.set_cons_succ]
        refine wpE_one (i := 13) (by kernel_rfl) rfl ?_
        intro K9 hK9
        refine step_run rfl (.tmp 56) (.tmp 59) 85 85 rfl _ _ rfl rfl _ zA EA2.out ?_
        refine hK9 _ _ (Or.inr ⟨e1A, e2A⟩) ?_
        clear hK9
        try simp only [Act.put, List.setIfInBounds_toArray, List.set_cons_zero, List.set_cons_succ]
        refine wpE_one (i := 14) (by kernel_rfl) rfl ?_
        intro K9 hK9
        go_simp
        refine hK9 _ _ (Or.inr ⟨e1A, e2A⟩) ?_
        clear hK9
        try simp only [Act.put, List.setIfInBounds_toArray, List.set_cons_zero, List.set_cons_succ]
        refine wpE_one (i := 15) (by kernel_rfl) rfl ?_
        intro K9 hK9
        go_simp
        refine hK9 _ _ (Or.inl rfl) ?_
        clear hK9
        try simp only [Act.put, List.setIfInBounds_toArray, List.set_cons_zero, List.set_cons_succ]
        refine wpE_done (by kernel_rfl) ?_
        go_wp2_with fail
        go_meet
        exact FINA.out
      · intro K9 hK9
        go_simp
        refine hK9 _ _ (Or.inr ⟨m3, n3⟩) ?_
        clear hK9
        try simp only [Act.put, List.setIfInBounds_toArray, List.set_cons_zero, List.set_cons_succ]
        refine wpE_one (i := 9) (by kernel_rfl) rfl ?_
        intro K9 hK9
        refine step_run rfl (.tmp 50) (.tmp 55) 85 85 rfl _ _ rfl rfl _ uB EB1.out ?_
        refine hK9 _ _ (Or.inr ⟨m7, n7⟩) ?_
        clear hK9
        try simp only [Act.put, List.setIfInBounds_toArray, List.set_cons_zero, List.set_cons_succ]
        refine wpE_one (i := 13) (by kernel_rfl) rfl ?_
        intro K9 hK9
        refine step_run rfl (.tmp 56) (.tmp 59) 85 85 rfl _ _ rfl rfl _ zB EB2.out ?_
        refine hK9 _ _ (Or.inr ⟨e1B, e2B⟩) ?_
        clear hK9
        try simp only [Act.put, List.setIfInBounds_toArray, List.set_cons_zero, List.set_cons_succ]
        refine wpE_one (i := 14) (by kernel_rfl) rfl ?_
        intro K9 hK9
        go_simp
        refine hK9 _ _ (Or.inr ⟨e1B, e2B⟩) ?_
        clear hK9
        try simp only [Act.put, List.setIfInBounds_toArray, List.set_cons_zero, List.set_cons_succ]
        refine wpE_one (i := 15) (by kernel_rfl) rfl ?_
        intro K9 hK9
        go_simp
        refine hK9 _ _ (Or.inl rfl) ?_
        clear hK9
        try simp only [Act.put, List.setIfInBounds_toArray, List.set_cons_zero, List.set_cons_succ]
        refine wpE_done (by kernel_rfl) ?_
        go_wp2_with fail
        go_meet
        exact FINB.out
    · intro K9 hK9
      go_simp
      refine hK9 _ _ (Or.inr ⟨m2, n2⟩) ?_
      clear hK9
      try simp only [Act.put, List.setIfInBounds_toArray, List.set_cons_zero, List.set_cons_succ]
      refine wpE_one (i := 3) (by kernel_rfl) rfl ?_
      intro K9 hK9
      go_simp
      refine hK9 _ _ (Or.inr ⟨m4, n4⟩) ?_
      clear hK9
      try simp only [Act.put, List.setIfInBounds_toArray, List.set_cons_zero, List.set_cons_succ]
      refine wpE_one (i := 9) (by kernel_rfl) rfl ?_
      intro K9 hK9
      refine step_run rfl (.tmp 50) (.tmp 55) 85 85 rfl _ _ rfl rfl _ uC EC1.out ?_
      refine hK9 _ _ (Or.inr ⟨m8, n8⟩) ?_
      clear hK9
      try simp only [Act.put, List.setIfInBounds_toArray, List.set_cons_zero, List.set_cons_succ]
      refine wpE_one (i := 13) (by kernel_rfl) rfl ?_
      intro K9 hK9
      refine step_run rfl (.tmp 56) (.tmp 59) 85 85 rfl _ _ rfl rfl _ zC EC2.out ?_
      refine hK9 _ _ (Or.inr ⟨e1C, e2C⟩) ?_
      clear hK9
      try simp only [Act.put, List.setIfInBounds_toArray, List.set_cons_zero, List.set_cons_succ]
      refine wpE_one (i := 14) (by kernel_rfl) rfl ?_
      intro K9 hK9
      go_simp
      refine hK9 _ _ (Or.inr ⟨e1C, e2C⟩) ?_
      clear hK9
      try simp only [Act.put, List.setIfInBounds_toArray, List.set_cons_zero, List.set_cons_succ]
      refine wpE_one (i := 15) (by kernel_rfl) rfl ?_
      intro K9 hK9
      go_simp
      refine hK9 _ _ (Or.inl rfl) ?_
      clear hK9
      try simp only [Act.put, List.setIfInBounds_toArray, List.set_cons_zero, List.set_cons_succ]
      refine wpE_done (by kernel_rfl) ?_
      go_wp2_with fail
      go_meet
      exact FINC.out
  case rest =>
    obtain ⟨bbF, raF⟩ := hcut
    clear EA1 EA2 EB1 EB2 EC1 EC2 m0 n0 m1 n1 m2 n2 m3 n3 m4 n4 m5 n5 m6 n6 m7 n7 m8 n8 e1A e2A e3A e1B e2B e3B e1C e2C e3C FINA FINB FINC
    obtain ⟨⟨q0', q1', q2', q3', q4'⟩, ⟨z0, z1, z2, z3, z4⟩, y0, y1, y2, y3, y4⟩ := bbF.cells
    have FIN := Lib.hid (fun y0 y1 y2 y3 y4 => bbF.answer raF HB0.out y0 y1 y2 y3 y4)
    clear bbF raF
    go_wp2
    (try simp only [Exit.inBlock, Exit.then])
    refine bodyPost_ret (results_cell_row rfl _ _ (w.heap.size + 1) 31 #[.slice a0 M.length c0, .slice a1 M.length c1, .slice (some ⟨g, 0, none⟩) M.length c, .slice (some ⟨g5, 0, none⟩) M.length c4, .int .i64 (cp : Int)] (0, 0) _ rfl ?_ Try.underlying31 rfl info31) rfl ?_
    · exact (FIN.out _ _ _ _ _).1
    · exact ⟨_, _, _, _, rfl, (FIN.out _ _ _ _ _).2.1, (FIN.out _ _ _ _ _).2.2⟩

set_option linter.unusedSimpArgs false in
set_option maxHeartbeats 16000000 in
set_option maxRecDepth 100000 in
theorem rappend_some {b0 : Nat} {w : World} {v0 v1 v2 v3 : Value} {M : List MN} (h : RA b0 w v0 v1 v2 v3 M) (hb0 : b0 ≤ w.heap.size) (cp k i p : Nat) (nk nk1 ni ni1 np : MN) (hk : M[k]? = some nk) (hi : M[i]? = some ni) (hki : k ≠ i) (hpar : ni.par = (p : Int)) (hpp : M[p]? = some np)
    (hk1 : (M.set p { np with inn := wo i np.inn })[k]? = some nk1) (hi1 : (M.set p { np with inn := wo i np.inn })[i]? = some ni1) (hM : M.length ≤ 4000000) (hl : nk1.inn.length + 1 ≤ 4000000) (hlp : np.inn.length ≤ 4000000) :
    Calls Try.prog 18 #[rv v0 v1 v2 v3 cp, .int .i64 (k : Int), .int .i64 (i : Int)] w (RPost b0 cp (((M.set p { np with inn := wo i np.inn }).set i { ni1 with par := (k : Int) }).set k { nk1 with inn := nk1.inn ++ [(i, [])] }) w) := by
  have hRA := h
  obtain ⟨hnm, ⟨xa, ha, ha'⟩, ⟨xi, hxi, hxi'⟩, hp⟩ := h
  obtain ⟨a0, c0, rfl, -⟩ := hnm.slice
  obtain ⟨a1, c1, rfl, -⟩ := ha.slice
  obtain ⟨a2, c2, rfl, -⟩ := hxi.slice
  obtain ⟨a3, c3, rfl, -⟩ := hp.slice
  have hkl := (List.getElem?_eq_some_iff.1 hk).1
  have hil := (List.getElem?_eq_some_iff.1 hi).1
  have hM0 : M ≠ [] := by intro e; rw [e] at hkl; exact absurd hkl (Nat.not_lt_zero _)
  have bb := bb_new w (.slice a0 M.length c0) (.slice a1 M.length c1) (.slice a2 M.length c2) (.slice a3 M.length c3) cp
  obtain ⟨W0, hW0⟩ : ∃ W0, (w.alloc (.cells #[.slice a0 M.length c0, .slice a1 M.length c1, .slice a2 M.length c2, .slice a3 M.length c3, .int .i64 (cp : Int)] 31)).alloc (.cells #[.slice none 0 0, .slice none 0 0, .slice none 0 0, .slice none 0 0, .int .i64 0] 31) = W0 := ⟨_, rfl⟩
  rw [hW0] at bb
  obtain ⟨g, c, W1, r1, hg, hgb, hra1, hb1⟩ := (hRA.below bb.below).copyInn (Nat.le_trans hb0 bb.below.size) hM hM0
  have q2 : (W0.alloc (.cells #[] 85)).cell? ⟨w.heap.size, 2, none⟩ = some (.slice a2 M.length c2) := (bb.grow (At.below_alloc _)).cells.1.2.2.1
  have bb1 := bb.grow hb1
  have k2 := bb1.cells.1.2.2.1
  have f2 := bb1.box.fr 2
  obtain ⟨X1, hX1⟩ : ∃ X1, W1.setCell ⟨w.heap.size, 2, none⟩ (.slice (some ⟨g, 0, none⟩) M.length c) = X1 := ⟨_, rfl⟩
  have bx1 := bb1.set2 (.slice (some ⟨g, 0, none⟩) M.length c)
  have hrx := hra1.setBox bb1.box.ty hb0 2 (.slice (some ⟨g, 0, none⟩) M.length c)
  rw [hX1] at bx1 hrx
  obtain ⟨g4, c4, W2, r2, hg4, hgb4, hra2, hb2⟩ := hrx.copyPar (Nat.le_trans hb0 bx1.below.size) hM hM0
  have q3 : (X1.alloc (.cells #[] 3)).cell? ⟨w.heap.size, 3, none⟩ = some (.slice a3 M.length c3) := (bx1.grow (At.below_alloc _)).cells.1.2.2.2.1
  have bb2 := bx1.grow hb2
  have k3 := bb2.cells.1.2.2.2.1
  have f3 := bb2.box.fr 3
  obtain ⟨X2, hX2⟩ : ∃ X2, W2.setCell ⟨w.heap.size, 3, none⟩ (.slice (some ⟨g4, 0, none⟩) M.length c4) = X2 := ⟨_, rfl⟩
  have bx2 := bb2.set3 (.slice (some ⟨g4, 0, none⟩) M.length c4)
  have hrx2 := hra2.setBox bb2.box.ty hb0 3 (.slice (some ⟨g4, 0, none⟩) M.length c4)
  rw [hX2] at bx2 hrx2
  have hgw : w.heap.size ≤ g := Nat.le_trans bb.below.size hg
  have hgw4 : w.heap.size ≤ g4 := Nat.le_trans bx1.below.size hg4
  have k5 := bx2.cells.1.2.2.2.1
  have k6 := bx2.cells.1.2.2.1
  have hkI : (k : Int) < (M.length : Int) := by omega
  have hiI : (i : Int) < (M.length : Int) := by omega
  have HB0 := Lib.hid hb0
  have R1 := Lib.hid r1
  have R2 := Lib.hid r2
  have hpl := (List.getElem?_eq_some_iff.1 hpp).1
  have hpI : (p : Int) < (M.length : Int) := by omega
  have hp0 : (0 : Int) ≤ (p : Int) := by omega
  obtain ⟨g6, c6, hv6, -, -, -, l0, -⟩ := hrx2.par.el (j := i) (x := .int .i64 ni.par) (by rw [List.getElem?_map, hi]; rfl)
  have hgg6 : g6 = g4 := by injection hv6 with e1; injection e1 with e1; injection e1 with e1; exact e1.symm
  subst hgg6
  rw [hpar] at l0
  have hdx := below_drew X2
  obtain ⟨ap, ccp, hItp, CP, ENp⟩ := en_of (bx2.grow hdx) (hrx2.below hdx) rfl hgw hgb hpp
  have l1 : X2.cell? ⟨g, p, none⟩ = _ := (CP X2.drew (Below.refl _ _)).2
  have cWo := without_any hItp i hlp
  have AFT := Lib.hid (fun (v' : Value) (u2 : World) (hr : Rw X2.drew.heap.size 88 2 v' (wo i np.inn).length (icells (wo i np.inn)) u2) (hb : Below X2.drew.heap.size X2.drew u2) => (show u2.cell? ⟨w.heap.size, 2, none⟩ = some (.slice (some ⟨g, 0, none⟩) M.length c) ∧ u2.cell? ⟨w.heap.size, 3, none⟩ = some (.slice (some ⟨g6, 0, none⟩) M.length c4) ∧ u2.cell? ⟨g6, i, none⟩ = some (.int .i64 (p : Int)) ∧ u2.cell? ⟨g, p, none⟩ = some (.slice ap np.inn.length ccp) ∧ u2.frozen? ⟨g, p, none⟩ = false ∧ BB w (.slice a0 M.length c0) (.slice a1 M.length c1) (.slice (some ⟨g, 0, none⟩) M.length c) (.slice (some ⟨g6, 0, none⟩) M.length c4) cp (u2.setCell ⟨g, p, none⟩ v') ∧ RA b0 (u2.setCell ⟨g, p, none⟩ v') (.slice a0 M.length c0) (.slice a1 M.length c1) (.slice (some ⟨g, 0, none⟩) M.length c) (.slice (some ⟨g6, 0, none⟩) M.length c4) (M.set p { np with inn := wo i np.inn }) from by
    have en := ENp u2 v' _ hb (hr.base (Nat.zero_le _))
    have hb2' := (bx2.grow hdx).grow hb
    exact ⟨hb2'.cells.1.2.2.1, hb2'.cells.1.2.2.2.1, (hb.cell (p := ⟨g6, i, none⟩) (World.block_lt_of_cell? X2 _ l0)).trans l0, en.e2, en.e3, en.bb, en.ra⟩))
  have HI1 := Lib.hid hi1
  have HK1 := Lib.hid hk1
  have HGW := Lib.hid hgw
  have HGW4 := Lib.hid hgw4
  have HGB := Lib.hid hgb
  have HGB4 := Lib.hid hgb4
  have HLM := Lib.hid (show (M.set p { np with inn := wo i np.inn }).length = M.length from List.length_set)
  clear hRA hnm ha ha' hxi hxi' hp bb hra1 hb1 bb1 bx1 hrx hra2 hb2 bb2 bx2 hrx2 hgw hgw4 hv6 hdx hItp CP ENp r1 r2 hM0 hk hi hk1 hi1 hb0 hg hg4 hgb hgb4 hkl hil hpp hpl
  go_enter Try.func18, Try.ntmps18
  go_upto_region 4 with (at_builtin; first
    | (refine Lib.wpList_append_run _ rfl (.tmp 7) (.tmp 9) 28 28 rfl _ _ rfl rfl _ W1 R1.out ?_)
    | (refine Lib.wpList_append_run _ rfl (.tmp 12) (.tmp 14) 29 29 rfl _ _ rfl rfl _ W2 R2.out ?_))
  go_cut [] from 23 to 41 (fun wx => BB w (.slice a0 M.length c0) (.slice a1 M.length c1) (.slice (some ⟨g, 0, none⟩) M.length c) (.slice (some ⟨g6, 0, none⟩) M.length c4) cp wx ∧ RA b0 wx (.slice a0 M.length c0) (.slice a1 M.length c1) (.slice (some ⟨g, 0, none⟩) M.length c) (.slice (some ⟨g6, 0, none⟩) M.length c4) (M.set p { np with inn := wo i np.inn }))
  case first =>
    clear q2 q3 k2 k3 f2 f3 hW0 hX1 hX2
    have hS0 : (fun wx => wx.cell? ⟨w.heap.size, 2, none⟩ = some (.slice (some ⟨g, 0, none⟩) M.length c) ∧ wx.cell? ⟨w.heap.size, 3, none⟩ = some (.slice (some ⟨g6, 0, none⟩) M.length c4) ∧ wx.cell? ⟨g6, i, none⟩ = some (.int .i64 (p : Int)) ∧ wx.cell? ⟨g, p, none⟩ = some (.slice ap np.inn.length ccp)) X2.drew := ⟨k6, k5, l0, l1⟩
    refine wpE_region (S := (fun wx => wx.cell? ⟨w.heap.size, 2, none⟩ = some (.slice (some ⟨g, 0, none⟩) M.length c) ∧ wx.cell? ⟨w.heap.size, 3, none⟩ = some (.slice (some ⟨g6, 0, none⟩) M.length c4) ∧ wx.cell? ⟨g6, i, none⟩ = some (.int .i64 (p : Int)) ∧ wx.cell? ⟨g, p, none⟩ = some (.slice ap np.inn.length ccp))) (last := 19) (by kernel_rfl) ?_
    refine wpE_take (i := 0) (v := ?_) rfl (by kernel_rfl) (by kernel_rfl) (by kernel_rfl) 18 (by kernel_rfl) (by kernel_rfl) (fun _ _ _ h => h) (Or.inl ⟨by rfl, ?_⟩) (by assumption) ?_
    rotate_left
    · intro wq hSq
      obtain ⟨hq1, hq2, hq3, hq4⟩ := hSq
      go_simp
      try with_reducible rfl
    try simp only [Act.put, List.setIfInBounds_toArray, List.set_cons_zero, List.set_cons_succ]
    refine wpE_take (i := 1) (v := ?_) rfl (by kernel_rfl) (by kernel_rfl) (by kernel_rfl) 18 (by kernel_rfl) (by kernel_rfl) (fun _ _ _ h => h) (Or.inl ⟨by rfl, ?_⟩) (by assumption) ?_
    rotate_left
    · intro wq hSq
      obtain ⟨hq1, hq2, hq3, hq4⟩ := hSq
      go_simp
      try with_reducible rfl
    try simp only [Act.put, List.setIfInBounds_toArray, List.set_cons_zero, List.set_cons_succ]
    refine wpE_take (i := 2) (v := ?_) rfl (by kernel_rfl) (by kernel_rfl) (by kernel_rfl) 18 (by kernel_rfl) (by kernel_rfl) (fun _ _ _ h => h) (Or.inl ⟨by rfl, ?_⟩) (by assumption) ?_
    rotate_left
    · intro wq hSq
      obtain ⟨hq1, hq2, hq3, hq4⟩ := hSq
      go_simp
      try with_reducible rfl
    try simp only [Act.put, List.setIfInBounds_toArray, List.set_cons_zero, List.set_cons_succ]
    refine wpE_take (i := 3) (v := ?_) rfl (by kernel_rfl) (by kernel_rfl) (by kernel_rfl) 18 (by kernel_rfl) (by kernel_rfl) (fun _ _ _ h => h) (Or.inl ⟨by rfl, ?_⟩) (by assumption) ?_
    rotate_left
    · intro wq hSq
      obtain ⟨hq1, hq2, hq3, hq4⟩ := hSq
      go_simp
      try with_reducible rfl
    try simp only [Act.put, List.setIfInBounds_toArray, List.set_cons_zero, List.set_cons_succ]
    refine wpE_take (i := 4) (v := ?_) rfl (by kernel_rfl) (by kernel_rfl) (by kernel_rfl) 18 (by kernel_rfl) (by kernel_rfl) (fun _ _ _ h => h) (Or.inl ⟨by rfl, ?_⟩) (by assumption) ?_
    rotate_left
    · intro wq hSq
      obtain ⟨hq1, hq2, hq3, hq4⟩ := hSq
      go_simp
      try with_reducible rfl
    try simp only [Act.put, List.setIfInBounds_toArray, List.set_cons_zero, List.set_cons_succ]
    refine wpE_take (i := 5) (v := ?_) rfl (by kernel_rfl) (by kernel_rfl) (by kernel_rfl) 18 (by kernel_rfl) (by kernel_rfl) (fun _ _ _ h => h) (Or.inl ⟨by rfl, ?_⟩) (by assumption) ?_
    rotate_left
    · intro wq hSq
      obtain ⟨hq1, hq2, hq3, hq4⟩ := hSq
      go_simp
      try with_reducible rfl
    try simp only [Act.put, List.setIfInBounds_toArray, List.set_cons_zero, List.set_cons_succ]
    refine wpE_take (i := 6) (v := ?_) rfl (by kernel_rfl) (by kernel_rfl) (by kernel_rfl) 18 (by kernel_rfl) (by kernel_rfl) (fun _ _ _ h => h) (Or.inl ⟨by rfl, ?_⟩) (by assumption) ?_
    rotate_left
    · intro wq hSq
      obtain ⟨hq1, hq2, hq3, hq4⟩ := hSq
      go_simp
      try with_reducible rfl
    try simp only [Act.put, List.setIfInBounds_toArray, List.set_cons_zero, List.set_cons_succ]
    refine wpE_take (i := 7) (v := ?_) rfl (by kernel_rfl) (by kernel_rfl) (by kernel_rfl) 18 (by kernel_rfl) (by kernel_rfl) (fun _ _ _ h => h) (Or.inl ⟨by rfl, ?_⟩) (by assumption) ?_
    rotate_left
    · intro wq hSq
      obtain ⟨hq1, hq2, hq3, hq4⟩ := hSq
      go_simp
      try with_reducible rfl
    try simp only [Act.put, List.setIfInBounds_toArray, List.set_cons_zero, List.set_cons_succ]
    refine wpE_take (i := 8) (v := ?_) rfl (by kernel_rfl) (by kernel_rfl) (by kernel_rfl) 18 (by kernel_rfl) (by kernel_rfl) (fun _ _ _ h => h) (Or.inl ⟨by rfl, ?_⟩) (by assumption) ?_
    rotate_left
    · intro wq hSq
      obtain ⟨hq1, hq2, hq3, hq4⟩ := hSq
      go_simp
      try with_reducible rfl
    try simp only [Act.put, List.setIfInBounds_toArray, List.set_cons_zero, List.set_cons_succ]
    refine wpE_take (i := 9) (v := ?_) rfl (by kernel_rfl) (by kernel_rfl) (by kernel_rfl) 18 (by kernel_rfl) (by kernel_rfl) (fun _ _ _ h => h) (Or.inl ⟨by rfl, ?_⟩) (by assumption) ?_
    rotate_left
    · intro wq hSq
      obtain ⟨hq1, hq2, hq3, hq4⟩ := hSq
      go_simp
      try with_reducible rfl
    try simp only [Act.put, List.setIfInBounds_toArray, List.set_cons_zero, List.set_cons_succ]
    refine wpE_take (i := 10) (v := ?_) rfl (by kernel_rfl) (by kernel_rfl) (by kernel_rfl) 18 (by kernel_rfl) (by kernel_rfl) (fun _ _ _ h => h) (Or.inl ⟨by rfl, ?_⟩) (by assumption) ?_
    rotate_left
    · intro wq hSq
      obtain ⟨hq1, hq2, hq3, hq4⟩ := hSq
      go_simp
      try with_reducible rfl
    try simp only [Act.put, List.setIfInBounds_toArray, List.set_cons_zero, List.set_cons_succ]
    refine wpE_take (i := 11) (v := ?_) rfl (by kernel_rfl) (by kernel_rfl) (by kernel_rfl) 18 (by kernel_rfl) (by kernel_rfl) (fun _ _ _ h => h) (Or.inl ⟨by rfl, ?_⟩) (by assumption) ?_
    rotate_left
    · intro wq hSq
      obtain ⟨hq1, hq2, hq3, hq4⟩ := hSq
      go_simp
      try with_reducible rfl
    try simp only [Act.put, List.setIfInBounds_toArray, List.set_cons_zero, List.set_cons_succ]
    refine wpE_take (i := 12) (v := ?_) rfl (by kernel_rfl) (by kernel_rfl) (by kernel_rfl) 18 (by kernel_rfl) (by kernel_rfl) (fun _ _ _ h => h) (Or.inl ⟨by rfl, ?_⟩) (by assumption) ?_
    rotate_left
    · intro wq hSq
      obtain ⟨hq1, hq2, hq3, hq4⟩ := hSq
      go_simp
      try with_reducible rfl
    try simp only [Act.put, List.setIfInBounds_toArray, List.set_cons_zero, List.set_cons_succ]
    refine wpE_take (i := 13) (v := ?_) rfl (by kernel_rfl) (by kernel_rfl) (by kernel_rfl) 18 (by kernel_rfl) (by kernel_rfl) (fun _ _ _ h => h) (Or.inl ⟨by rfl, ?_⟩) (by assumption) ?_
    rotate_left
    · intro wq hSq
      obtain ⟨hq1, hq2, hq3, hq4⟩ := hSq
      go_simp
      try with_reducible rfl
    try simp only [Act.put, List.setIfInBounds_toArray, List.set_cons_zero, List.set_cons_succ]
    refine wpE_take (i := 14) (v := ?_) rfl (by kernel_rfl) (by kernel_rfl) (by kernel_rfl) 18 (by kernel_rfl) (by kernel_rfl) (fun _ _ _ h => h) (Or.inl ⟨by rfl, ?_⟩) (by assumption) ?_
    rotate_left
    · intro wq hSq
      obtain ⟨hq1, hq2, hq3, hq4⟩ := hSq
      go_simp
      try with_reducible rfl
    try simp only [Act.put, List.setIfInBounds_toArray, List.set_cons_zero, List.set_cons_succ]
    refine wpE_take (i := 15) (v := ?_) rfl (by kernel_rfl) (by kernel_rfl) (by kernel_rfl) 18 (by kernel_rfl) (by kernel_rfl) (fun _ _ _ h => h) (Or.inl ⟨by rfl, ?_⟩) (by assumption) ?_
    rotate_left
    · intro wq hSq
      obtain ⟨hq1, hq2, hq3, hq4⟩ := hSq
      go_simp
      try with_reducible rfl
    try simp only [Act.put, List.setIfInBounds_toArray, List.set_cons_zero, List.set_cons_succ]
    refine wpE_take (i := 16) (v := ?_) rfl (by kernel_rfl) (by kernel_rfl) (by kernel_rfl) 18 (by kernel_rfl) (by kernel_rfl) (fun _ _ _ h => h) (Or.inl ⟨by rfl, ?_⟩) (by assumption) ?_
    rotate_left
    · intro wq hSq
      obtain ⟨hq1, hq2, hq3, hq4⟩ := hSq
      go_simp
      try with_reducible rfl
    try simp only [Act.put, List.setIfInBounds_toArray, List.set_cons_zero, List.set_cons_succ]
    refine wpE_one (i := 17) (by kernel_rfl) rfl ?_
    intro K9 hK9
    go_simp
    go_at_call 45
    refine cWo.mono ?_
    rintro e u2 ⟨v', rfl, hrv, hbv⟩
    obtain ⟨av, cv, rfl, -⟩ := hrv.slice
    obtain ⟨h1, h2, h3, h4, h5, h6, h7⟩ := AFT.out _ u2 hrv hbv
    have HB67 := Lib.hid (And.intro h6 h7)
    clear hrv hbv h6 h7
    dsimp only
    refine hK9 _ _ (Or.inr ⟨h1, h2, h3, h4⟩) ?_
    clear hK9
    try simp only [Act.put, List.setIfInBounds_toArray, List.set_cons_zero, List.set_cons_succ]
    refine wpE_one (i := 18) (by kernel_rfl) rfl ?_
    intro K9 hK9
    go_simp
    refine hK9 _ _ (Or.inr ⟨h1, h2, h3, h4⟩) ?_
    clear hK9
    try simp only [Act.put, List.setIfInBounds_toArray, List.set_cons_zero, List.set_cons_succ]
    refine wpE_one (i := 19) (by kernel_rfl) rfl ?_
    intro K9 hK9
    go_simp
    refine hK9 _ _ (Or.inl rfl) ?_
    clear hK9
    refine wpE_done (by kernel_rfl) ?_
    go_wp2_with fail
    go_meet
    exact HB67.out
  case rest =>
    obtain ⟨bx2, hrx2⟩ := hcut
    have hi1 := HI1.out
    have hk1 := HK1.out
    have hgw := HGW.out
    have hgw4 := HGW4.out
    have hgb := HGB.out
    have hgb4 := HGB4.out
    have hlM1 := HLM.out
    clear q2 q3 k2 k3 k5 k6 f2 f3 hW0 hX1 hX2 l0 l1 cWo AFT hp0
    obtain ⟨g5, c5', hv5, -, hT5, -, k9, f9⟩ := hrx2.par.el (j := i) (x := .int .i64 ni1.par) (by rw [List.getElem?_map, hi1]; rfl)
    have hgg5 : g5 = g6 := by injection hv5 with e1; injection e1 with e1; injection e1 with e1; exact e1.symm
    subst hgg5
    have k10 := bx2.cells.1.2.2.2.1
    obtain ⟨X3, hX3⟩ : ∃ X3, wc.setCell ⟨g5, i, none⟩ (.int .i64 (k : Int)) = X3 := ⟨_, rfl⟩
    have bx3 := bx2.other hgw4 ⟨3, hT5, by decide⟩ i (.int .i64 (k : Int))
    have hrx3 := hrx2.setPar hi1 (by rw [hlM1]) hgb4 (k : Int)
    rw [hX3] at bx3 hrx3
    have hk3 : ((M.set p { np with inn := wo i np.inn }).set i { ni1 with par := (k : Int) })[k]? = some nk1 := by rw [List.getElem?_set_ne (fun e => hki e.symm)]; exact hk1
    have hlM2 : ((M.set p { np with inn := wo i np.inn }).set i { ni1 with par := (k : Int) }).length = M.length := List.length_set.trans hlM1
    have hdr := below_drew X3
    obtain ⟨ak, cck, hIts, CC, EN⟩ := en_of (bx3.grow hdr) (hrx3.below hdr) hlM2 hgw hgb hk3
    obtain ⟨F, hF⟩ : ∃ F, X3.alloc (.cells #[] 88) = F := ⟨_, rfl⟩
    obtain ⟨I, hI⟩ : ∃ I, X3.alloc (.cells #[.string ⟨#[]⟩, .int .i64 (i : Int)] 88) = I := ⟨_, rfl⟩
    obtain ⟨FI, hFI⟩ : ∃ FI, F.alloc (.cells #[.string ⟨#[]⟩, .int .i64 (i : Int)] 88) = FI := ⟨_, rfl⟩
    obtain ⟨IF, hIF⟩ : ∃ IF, I.alloc (.cells #[] 88) = IF := ⟨_, rfl⟩
    obtain ⟨⟨vA, uA, aA, cA, zA, rA, rA', iA, bA1, bA2, bA3⟩, ⟨vB, uB, aB, cB, zB, rB, rB', iB, bB1, bB2⟩, ⟨vC, uC, aC, cC, zC, rC, rC', iC, bC1, bC2⟩, bF, bI, bFI, bIF⟩ := ext_items4 i hF hI hFI hIF hIts (by omega)
    obtain ⟨UA, hUA⟩ : ∃ UA, uA.alloc (.cells #[.string ⟨#[]⟩, .int .i64 (i : Int)] 88) = UA := ⟨_, rfl⟩
    rw [hUA] at rA' bA3
    have o0 : X3.cell? ⟨w.heap.size, 2, none⟩ = _ ∧ X3.cell? ⟨g, k, none⟩ = _ := CC X3.drew (Below.refl _ _)
    have o1 : F.cell? ⟨w.heap.size, 2, none⟩ = _ ∧ F.cell? ⟨g, k, none⟩ = _ := CC F.drew bF
    have o2 : I.cell? ⟨w.heap.size, 2, none⟩ = _ ∧ I.cell? ⟨g, k, none⟩ = _ := CC I.drew bI
    have o3 : FI.cell? ⟨w.heap.size, 2, none⟩ = _ ∧ FI.cell? ⟨g, k, none⟩ = _ := CC FI.drew bFI
    have o4 : IF.cell? ⟨w.heap.size, 2, none⟩ = _ ∧ IF.cell? ⟨g, k, none⟩ = _ := CC IF.drew bIF
    have o5 := CC _ bA1
    have o6 := CC _ bA3
    have o7 := CC _ bB1
    have o8 := CC _ bC1
    obtain ⟨m0, n0⟩ := o0
    obtain ⟨m1, n1⟩ := o1
    obtain ⟨m2, n2⟩ := o2
    obtain ⟨m3, n3⟩ := o3
    obtain ⟨m4, n4⟩ := o4
    obtain ⟨m5, n5⟩ := o5
    obtain ⟨m6, n6⟩ := o6
    obtain ⟨m7, n7⟩ := o7
    obtain ⟨m8, n8⟩ := o8
    have enA := EN zA _ _ bA2 iA
    have e1A := enA.e1
    have e2A := enA.e2
    have e3A := enA.e3
    have FINA := Lib.hid (And.intro enA.bb enA.ra)
    have EA1 := Lib.hid rA
    have EA2 := Lib.hid rA'
    have enB := EN zB _ _ bB2 iB
    have e1B := enB.e1
    have e2B := enB.e2
    have e3B := enB.e3
    have FINB := Lib.hid (And.intro enB.bb enB.ra)
    have EB1 := Lib.hid rB
    have EB2 := Lib.hid rB'
    have enC := EN zC _ _ bC2 iC
    have e1C := enC.e1
    have e2C := enC.e2
    have e3C := enC.e3
    have FINC := Lib.hid (And.intro enC.bb enC.ra)
    have EC1 := Lib.hid rC
    have EC2 := Lib.hid rC'
    clear bx2 hrx2 hgw hgw4 hgb hgb4 hv5 hT5 bx3 hrx3 hk3 hlM1 hlM2 hdr hIts CC EN hk1 hi1 bA3 bF bI bFI bIF rA rA' iA bA1 bA2 enA rB rB' iB bB1 bB2 enB rC rC' iC bC1 bC2 enC
    go_upto_region 6 with fail
    go_cut [] from 47 to 61 (fun wx => BB w (.slice a0 M.length c0) (.slice a1 M.length c1) (.slice (some ⟨g, 0, none⟩) M.length c) (.slice (some ⟨g5, 0, none⟩) M.length c4) cp wx ∧ RA b0 wx (.slice a0 M.length c0) (.slice a1 M.length c1) (.slice (some ⟨g, 0, none⟩) M.length c) (.slice (some ⟨g5, 0, none⟩) M.length c4) (((M.set p { np with inn := wo i np.inn }).set i { ni1 with par := (k : Int) }).set k { nk1 with inn := nk1.inn ++ [(i, [])] }))
    case first =>
      clear k9 f9 k10
      have hS0 : (fun wx => wx.cell? ⟨w.heap.size, 2, none⟩ = some (.slice (some ⟨g, 0, none⟩) M.length c) ∧ wx.cell? ⟨g, k, none⟩ = some (.slice ak nk1.inn.length cck)) X3.drew := ⟨m0, n0⟩
      refine wpE_region (S := (fun wx => wx.cell? ⟨w.heap.size, 2, none⟩ = some (.slice (some ⟨g, 0, none⟩) M.length c) ∧ wx.cell? ⟨g, k, none⟩ = some (.slice ak nk1.inn.length cck))) (last := 15) (by kernel_rfl) ?_
      refine wpE_take (i := 0) (v := ?_) rfl (by kernel_rfl) (by kernel_rfl) (by kernel_rfl) 14 (by kernel_rfl) (by kernel_rfl) (fun _ _ _ h => h) (Or.inl ⟨by rfl, ?_⟩) (by assumption) ?_
      rotate_left
      · intro wq hSq
        obtain ⟨hq1, hq2⟩ := hSq
        go_simp
        try with_reducible rfl
      try simp only [Act.put, List.setIfInBounds_toArray, List.set_cons_zero, List.set_cons_succ]
      refine wpE_take (i := 1) (v := ?_) rfl (by kernel_rfl) (by kernel_rfl) (by kernel_rfl) 14 (by kernel_rfl) (by kernel_rfl) (fun _ _ _ h => h) (Or.inl ⟨by rfl, ?_⟩) (by assumption) ?_
      rotate_left
      · intro wq hSq
        obtain ⟨hq1, hq2⟩ := hSq
        go_simp
        try with_reducible rfl
      try simp only [Act.put, List.setIfInBounds_toArray, List.set_cons_zero, List.set_cons_succ]
      refine wpE_take (i := 2) (v := ?_) rfl (by kernel_rfl) (by kernel_rfl) (by kernel_rfl) 14 (by kernel_rfl) (by kernel_rfl) (fun _ _ _ h => h) (Or.inl ⟨by rfl, ?_⟩) (by assumption) ?_
      rotate_left
      · intro wq hSq
        obtain ⟨hq1, hq2⟩ := hSq
        go_simp
        try with_reducible rfl
      try simp only [Act.put, List.setIfInBounds_toArray, List.set_cons_zero, List.set_cons_succ]
      refine wpE_take (i := 4) (v := ?_) rfl (by kernel_rfl) (by kernel_rfl) (by kernel_rfl) 14 (by kernel_rfl) (by kernel_rfl) (fun _ _ _ h => h) (Or.inl ⟨by rfl, ?_⟩) (by assumption) ?_
      rotate_left
      · intro wq hSq
        obtain ⟨hq1, hq2⟩ := hSq
        go_simp
        try with_reducible rfl
      try simp only [Act.put, List.setIfInBounds_toArray, List.set_cons_zero, List.set_cons_succ]
      refine wpE_take (i := 5) (v := ?_) rfl (by kernel_rfl) (by kernel_rfl) (by kernel_rfl) 14 (by kernel_rfl) (by kernel_rfl) (fun _ _ _ h => h) (Or.inl ⟨by rfl, ?_⟩) (by assumption) ?_
      rotate_left
      · intro wq hSq
        obtain ⟨hq1, hq2⟩ := hSq
        go_simp
        try with_reducible rfl
      try simp only [Act.put, List.setIfInBounds_toArray, List.set_cons_zero, List.set_cons_succ]
      refine wpE_take (i := 6) (v := ?_) rfl (by kernel_rfl) (by kernel_rfl) (by kernel_rfl) 14 (by kernel_rfl) (by kernel_rfl) (fun _ _ _ h => h) (Or.inl ⟨by rfl, ?_⟩) (by assumption) ?_
      rotate_left
      · intro wq hSq
        obtain ⟨hq1, hq2⟩ := hSq
        go_simp
        try with_reducible rfl
      try simp only [Act.put, List.setIfInBounds_toArray, List.set_cons_zero, List.set_cons_succ]
      refine wpE_take (i := 7) (v := ?_) rfl (by kernel_rfl) (by kernel_rfl) (by kernel_rfl) 14 (by kernel_rfl) (by kernel_rfl) (fun _ _ _ h => h) (Or.inl ⟨by rfl, ?_⟩) (by assumption) ?_
      rotate_left
      · intro wq hSq
        obtain ⟨hq1, hq2⟩ := hSq
        go_simp
        try with_reducible rfl
      try simp only [Act.put, List.setIfInBounds_toArray, List.set_cons_zero, List.set_cons_succ]
      refine wpE_take (i := 8) (v := ?_) rfl (by kernel_rfl) (by kernel_rfl) (by kernel_rfl) 14 (by kernel_rfl) (by kernel_rfl) (fun _ _ _ h => h) (Or.inl ⟨by rfl, ?_⟩) (by assumption) ?_
      rotate_left
      · intro wq hSq
        obtain ⟨hq1, hq2⟩ := hSq
        go_simp
        try with_reducible rfl
      try simp only [Act.put, List.setIfInBounds_toArray, List.set_cons_zero, List.set_cons_succ]
      refine wpE_take (i := 10) (v := ?_) rfl (by kernel_rfl) (by kernel_rfl) (by kernel_rfl) 14 (by kernel_rfl) (by kernel_rfl) (fun _ _ _ h => h) (Or.inl ⟨by rfl, ?_⟩) (by assumption) ?_
      rotate_left
      · intro wq hSq
        obtain ⟨hq1, hq2⟩ := hSq
        go_simp
        try with_reducible rfl
      try simp only [Act.put, List.setIfInBounds_toArray, List.set_cons_zero, List.set_cons_succ]
      refine wpE_take (i := 11) (v := ?_) rfl (by kernel_rfl) (by kernel_rfl) (by kernel_rfl) 14 (by kernel_rfl) (by kernel_rfl) (fun _ _ _ h => h) (Or.inl ⟨by rfl, ?_⟩) (by assumption) ?_
      rotate_left
      · intro wq hSq
        obtain ⟨hq1, hq2⟩ := hSq
        go_simp
        try with_reducible rfl
      try simp only [Act.put, List.setIfInBounds_toArray, List.set_cons_zero, List.set_cons_succ]
      refine wpE_two (i := 3) (j := 12) (by kernel_rfl) rfl rfl ?_ ?_
      · intro K9 hK9
        go_simp
        refine hK9 _ _ (Or.inr ⟨m1, n1⟩) ?_
        clear hK9
        try simp only [Act.put, List.setIfInBounds_toArray, List.set_cons_zero, List.set_cons_succ]
        refine wpE_two (i := 9) (j := 12) (by kernel_rfl) rfl rfl ?_ ?_
        · intro K9 hK9
          refine step_run rfl (.tmp 50) (.tmp 55) 85 85 rfl _ _ rfl rfl _ uA EA1.out ?_
          refine hK9 _ _ (Or.inr ⟨m5, n5⟩) ?_
          clear hK9
          try simp only [Act.put, List.setIfInBounds_toArray, List.set_cons_zero, List.set_cons_succ]
          refine wpE_one (i := 12) (by kernel_rfl) rfl ?_
          intro K9 hK9
          go_simp
          refine hK9 _ _ (Or.inr ⟨m6, n6⟩) ?_
          clear hK9
          try simp only [Act.put, List.setIfInBounds_toArray, List.set_cons_zero, List.set_cons_succ]
          refine wpE_one (i := 13) (by kernel_rfl) rfl ?_
          intro K9 hK9
          refine step_run rfl (.tmp 56) (.tmp 59) 85 85 rfl _ _ rfl rfl _ zA EA2.out ?_
          refine hK9 _ _ (Or.inr ⟨e1A, e2A⟩) ?_
          clear hK9
          try simp only [Act.put, List.setIfInBounds_toArray, List.set_cons_zero, List.set_cons_succ]
          refine wpE_one (i := 14) (by kernel_rfl) rfl ?_
          intro K9 hK9
          go_simp
          refine hK9 _ _ (Or.inr ⟨e1A, e2A⟩) ?_
          clear hK9
          try simp only [Act.put, List.setIfInBounds_toArray, List.set_cons_zero, List.set_cons_succ]
          refine wpE_one (i := 15) (by kernel_rfl) rfl ?_
          intro K9 hK9
          go_simp
          refine hK9 _ _ (Or.inl rfl) ?_
          clear hK9
          try simp only [Act.put, List.setIfInBounds_toArray, List.set_cons_zero, List.set_cons_succ]
          refine wpE_done (by kernel_rfl) ?_
          go_wp2_with fail
          go_meet
          exact FINA.out
        · intro K9 hK9
          go_simp
          refine hK9 _ _ (Or.inr ⟨m3, n3⟩) ?_
          clear hK9
          try simp only [Act.put, List.setIfInBounds_toArray, List.set_cons_zero, List.set_cons_succ]
          refine wpE_one (i := 9) (by kernel_rfl) rfl ?_
          intro K9 hK9
          refine step_run rfl (.tmp 50) (.tmp 55) 85 85 rfl _ _ rfl rfl _ uB EB1.out ?_
          refine hK9 _ _ (Or.inr ⟨m7, n7⟩) ?_
          clear hK9
          try simp only [Act.put, List.setIfInBounds_toArray, List.set_cons_zero, List.set_cons_succ]
          refine wpE_one (i := 13) (by kernel_rfl) rfl ?_
          intro K9 hK9
          refine step_run rfl (.tmp 56) (.tmp 59) 85 85 rfl _ _ rfl rfl _ zB EB2.out ?_
          refine hK9 _ _ (Or.inr ⟨e1B, e2B⟩) ?_
          clear hK9
          try simp only [Act.put, List.setIfInBounds_toArray, List.set_cons_zero, List.set_cons_succ]
          refine wpE_one (i := 14) (by kernel_rfl) rfl ?_
          intro K9 hK9
          go_simp
          refine hK9 _ _ (Or.inr ⟨e1B, e2B⟩) ?_
          clear hK9
          try simp only [Act.put, List.setIfInBounds_toArray, List.set_cons_zero, List.set_cons_succ]
          refine wpE_one (i := 15) (by kernel_rfl) rfl ?_
          intro K9 hK9
          go_simp
          refine hK9 _ _ (Or.inl rfl) ?_
          clear hK9
          try simp only [Act.put, List.setIfInBounds_toArray, List.set_cons_zero, List.set_cons_succ]
          refine wpE_done (by kernel_rfl) ?_
          go_wp2_with fail
          go_meet
          exact FINB.out
      · intro K9 hK9
        go_simp
        refine hK9 _ _ (Or.inr ⟨m2, n2⟩) ?_
        clear hK9
        try simp only [Act.put, List.setIfInBounds_toArray, List.set_cons_zero, List.set_cons_succ]
        refine wpE_one (i := 3) (by kernel_rfl) rfl ?_
        intro K9 hK9
        go_simp
        refine hK9 _ _ (Or.inr ⟨m4, n4⟩) ?_
        clear hK9
        try simp only [Act.put, List.setIfInBounds_toArray, List.set_cons_zero, List.set_cons_succ]
        refine wpE_one (i := 9) (by kernel_rfl) rfl ?_
        intro K9 hK9
        refine step_run rfl (.tmp 50) (.tmp 55) 85 85 rfl _ _ rfl rfl _ uC EC1.out ?_
        refine hK9 _ _ (Or.inr ⟨m8, n8⟩) ?_
        clear hK9
        try simp only [Act.put, List.setIfInBounds_toArray, List.set_cons_zero, List.set_cons_succ]
        refine wpE_one (i := 13) (by kernel_rfl) rfl ?_
        intro K9 hK9
        refine step_run rfl (.tmp 56) (.tmp 59) 85 85 rfl _ _ rfl rfl _ zC EC2.out ?_
        refine hK9 _ _ (Or.inr ⟨e1C, e2C⟩) ?_
        clear hK9
        try simp only [Act.put, List.setIfInBounds_toArray, List.set_cons_zero, List.set_cons_succ]
        refine wpE_one (i := 14) (by kernel_rfl) rfl ?_
        intro K9 hK9
        go_simp
        refine hK9 _ _ (Or.inr ⟨e1C, e2C⟩) ?_
        clear hK9
        try simp only [Act.put, List.setIfInBounds_toArray, List.set_cons_zero, List.set_cons_succ]
        refine wpE_one (i := 15) (by kernel_rfl) rfl ?_
        intro K9 hK9
        go_simp
        refine hK9 _ _ (Or.inl rfl) ?_
        clear hK9
        try simp only [Act.put, List.setIfInBounds_toArray, List.set_cons_zero, List.set_cons_succ]
        refine wpE_done (by kernel_rfl) ?_
        go_wp2_with fail
        go_meet
        exact FINC.out
    case rest =>
      obtain ⟨bbF, raF⟩ := hcut
      clear EA1 EA2 EB1 EB2 EC1 EC2 m0 n0 m1 n1 m2 n2 m3 n3 m4 n4 m5 n5 m6 n6 m7 n7 m8 n8 e1A e2A e3A e1B e2B e3B e1C e2C e3C FINA FINB FINC
      obtain ⟨⟨q0', q1', q2', q3', q4'⟩, ⟨z0, z1, z2, z3, z4⟩, y0, y1, y2, y3, y4⟩ := bbF.cells
      have FIN := Lib.hid (fun y0 y1 y2 y3 y4 => bbF.answer raF HB0.out y0 y1 y2 y3 y4)
      clear bbF raF
      go_wp2
      (try simp only [Exit.inBlock, Exit.then])
      refine bodyPost_ret (results_cell_row rfl _ _ (w.heap.size + 1) 31 #[.slice a0 M.length c0, .slice a1 M.length c1, .slice (some ⟨g, 0, none⟩) M.length c, .slice (some ⟨g5, 0, none⟩) M.length c4, .int .i64 (cp : Int)] (0, 0) _ rfl ?_ Try.underlying31 rfl info31) rfl ?_
      · exact (FIN.out _ _ _ _ _).1
      · exact ⟨_, _, _, _, rfl, (FIN.out _ _ _ _ _).2.1, (FIN.out _ _ _ _ _).2.2⟩
end Go.Proofs.Ytpnjjpbgbdicoaa
