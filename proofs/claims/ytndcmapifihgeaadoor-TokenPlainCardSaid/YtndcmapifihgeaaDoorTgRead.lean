/- The program's Read, the law's To and the reference's Same, walked. -/
import Derived.Test.YtndcmapifihgeaaDoorTgStart
namespace Go.Proofs.YtndcmapifihgeaaDoor.Tg
open Go.RowKit Go.Lib
open Ch (at0 nx nx_width nx_range at0_lt at0_drop enc_len Sl Sl.below Cells ret_str good nx_good ret_bool)
open At (cellsA ads)

variable {l : List UInt8} {a : Option Addr} {cap R i : Nat} {W w w' : World}

theorem results_row_tmp {P : Program} {fn : Func} {p u : Tmp} {ty : TypeId} (h : fn.results = #[.cell p ty, .tmp u]) (tmps : Array Value) (w : World) (g : Nat) (t : TypeId) (cs : Array Value) (fr : Nat × Nat) (d : TypeDesc)
    (hp : tmps.getD p undef = .pointer (some ⟨g, 0, none⟩)) (hg : w.heap[g]? = some (.cells cs t fr))
    (hu : P.underlying ty = some d) (hd : (match d with | .struct _ | .array _ _ => true | _ => false) = true) (hi : (P.info? ty).map (·.size) = some cs.size) :
    (results fn tmps).run P w = .ok (.tuple #[.agg cs, tmps.getD u undef]) w := by
  rw [results_cell_tmp h]
  have e1 : (asAddr (tmps.getD p undef)).run P w = .ok ⟨g, 0, none⟩ w := by rw [hp]; simp [asAddr]
  rw [e1]
  simp only [Result.andThen]
  rw [run_loadVar_row w g t ty cs fr d hg hu hd hi]

/-- what Read answers -/
def ReadPost (l : List UInt8) (x : Int) (w : World) (e : Ending) (w' : World) : Prop :=
  ∃ s, e = .returned (.tuple #[tokV (tkAt l x) s, .bool (decide (bgAt l x ≠ 0))]) ∧ w'.ownsRow w.heap.size 63 2 s (tkAt l x).attrs.length (cellsA (tkAt l x).attrs) ∧ Below w.heap.size w w'

set_option maxHeartbeats 4000000 in
set_option maxRecDepth 100000 in
theorem read_on (x : Int) (hs : Sl l a cap w) (hT : Tb w) (hlen : l.length ≤ 100000 - 1) :
    Calls Tryd.prog 28 #[.slice a l.length cap, .int .i64 x] w (ReadPost l x w) := by
  have hbA : Below w.heap.size w (w.alloc (.cells zero29 28)) := (Below.refl _ w).alloc (Nat.le_refl _) _
  have cB := begins_any x (w.alloc (.cells zero29 28)) (hs.below hbA) (by omega)
  have hb2 : bgAt l x ≤ 2 := by unfold bgAt; split; exact bg_le _; omega
  have bT := bk_new w zero29 28
  by_cases h0 : bgAt l x = 0
  · rw [h0] at cB
    have HTK := Lib.hid (show tkAt l x = ⟨0, [], [], 0, 0⟩ by unfold tkAt; rw [if_pos h0])
    have H0 := Lib.hid h0
    unfold zero29 at cB bT
    obtain ⟨k0, k1, k2, k3, k4, k5, f0, f1, f2, f3, f4, f5⟩ := bT.six
    have HBT := Lib.hid bT
    clear h0 hbA bT
    go_enter Tryd.func28, Tryd.ntmps28
    go_wp2_with fail
    refine cB.mono ?_
    rintro e w1 ⟨rfl, rfl⟩
    go_wp2
    (try simp only [Exit.inBlock, Exit.then])
    refine bodyPost_ret (results_row_tmp rfl _ _ w.heap.size 28 #[.int .i64 0, .string ⟨#[]⟩, .slice none 0 0, .string ⟨#[]⟩, .int .i64 0, .int .i64 0] (0, 0) _ rfl ?_ Tryd.underlying28 rfl info29) rfl ?_
    · first | exact HBT.out.blk | exact (HBT.out.set6 _ _ _ _ _ _).blk
    · refine ⟨.slice none 0 0, ?_, ?_, ?_⟩
      · rw [HTK.out, H0.out]; rfl
      · rw [HTK.out]; exact World.ownsRow_nil _ _ _ _
      · first | exact (Below.refl _ w).alloc (Nat.le_refl _) _ | exact below_set6 ((Below.refl _ w).alloc (Nat.le_refl _) _) (Nat.le_refl _) _ _ _ _ _ _
  · have hin : 0 ≤ x ∧ x < (l.length : Int) := by
      unfold bgAt at h0
      split at h0
      · assumption
      · exact absurd rfl h0
    obtain ⟨i, rfl⟩ : ∃ i : Nat, x = i := ⟨x.toNat, by omega⟩
    have hbg : bgAt l (i : Int) = bg (l.drop i) := if_pos hin
    have HTK := Lib.hid (show tkAt l (i : Int) = tkIn l i by unfold tkAt; rw [if_neg h0]; rfl)
    have hd1 : decide (bgAt l (i : Int) ≠ 0) = true := decide_eq_true h0
    have HD1 := Lib.hid hd1
    rcases (by omega : bgAt l (i : Int) = 1 ∨ bgAt l (i : Int) = 2) with h1 | h1
    · rw [h1] at cB
      have cS := startTag_any (hs.below hbA) (hT.below hbA) hlen (by rw [← hbg]; exact h1) (by omega)
      have HBA := Lib.hid hbA
      have HBT := Lib.hid bT
      clear hbA bT h0 hd1 hbg h1
      unfold zero29 at cB cS HBA HBT
      go_enter Tryd.func28, Tryd.ntmps28
      go_wp2_with fail
      refine cB.mono ?_
      rintro e w1 ⟨rfl, rfl⟩
      go_wp2_with fail
      refine cS.mono ?_
      rintro e w2 ⟨s, rfl, ho, hb⟩
      obtain ⟨a5, cap5, rfl, -⟩ := At.sl_own ho
      have b2 := HBT.out.below hb
      obtain ⟨k0, k1, k2, k3, k4, k5, f0, f1, f2, f3, f4, f5⟩ := b2.six
      have HB2 := Lib.hid b2
      have HBW := Lib.hid (HBA.out.trans (hb.mono HBA.out.size))
      have HO := Lib.hid ho
      generalize tkIn l i = T at HTK HO ⊢
      obtain ⟨tk, tnm, tat, tfr, tup⟩ := T
      unfold tokV
      simp only at HO ⊢
      clear hb b2 ho cB cS
      go_wp2
      (try simp only [Exit.inBlock, Exit.then])
      refine bodyPost_ret (results_row_tmp rfl _ _ w.heap.size 28 #[.int .i64 (tk : Int), .string ⟨tnm.toArray⟩, .slice a5 tat.length cap5, .string ⟨#[]⟩, .int .i64 tfr, .int .i64 tup] (0, 0) _ rfl ?_ Tryd.underlying28 rfl info29) rfl ?_
      · exact (HB2.out.set6 _ _ _ _ _ _).blk
      · refine ⟨.slice a5 tat.length cap5, ?_, ?_, ?_⟩
        · rw [HTK.out, HD1.out]; rfl
        · rw [HTK.out]
          exact own_set6 (At.ownsRow_base HO.out (by simp)) (by
             cases hv : (Value.slice a5 tat.length cap5).ownBlock with
             | none => exact Or.inl rfl
             | some q => have := (HO.out.lt q hv).1; exact Or.inr (by simp at this ⊢; omega)) _ _ _ _ _ _
        · exact below_set6 HBW.out (Nat.le_refl _) _ _ _ _ _ _
    · rw [h1] at cB
      have cS := endTag_any (hs.below hbA) (hT.below hbA) (by omega) (by rw [← hbg]; exact h1) (by omega)
      have HBA := Lib.hid hbA
      have HBT := Lib.hid bT
      clear hbA bT h0 hd1 hbg h1
      unfold zero29 at cB cS HBA HBT
      go_enter Tryd.func28, Tryd.ntmps28
      go_wp2_with fail
      refine cB.mono ?_
      rintro e w1 ⟨rfl, rfl⟩
      go_wp2_with fail
      refine cS.mono ?_
      rintro e w2 ⟨s, rfl, ho, hb⟩
      obtain ⟨a5, cap5, rfl, -⟩ := At.sl_own ho
      have b2 := HBT.out.below hb
      obtain ⟨k0, k1, k2, k3, k4, k5, f0, f1, f2, f3, f4, f5⟩ := b2.six
      have HB2 := Lib.hid b2
      have HBW := Lib.hid (HBA.out.trans (hb.mono HBA.out.size))
      have HO := Lib.hid ho
      generalize tkIn l i = T at HTK HO ⊢
      obtain ⟨tk, tnm, tat, tfr, tup⟩ := T
      unfold tokV
      simp only at HO ⊢
      clear hb b2 ho cB cS
      go_wp2
      (try simp only [Exit.inBlock, Exit.then])
      refine bodyPost_ret (results_row_tmp rfl _ _ w.heap.size 28 #[.int .i64 (tk : Int), .string ⟨tnm.toArray⟩, .slice a5 tat.length cap5, .string ⟨#[]⟩, .int .i64 tfr, .int .i64 tup] (0, 0) _ rfl ?_ Tryd.underlying28 rfl info29) rfl ?_
      · exact (HB2.out.set6 _ _ _ _ _ _).blk
      · refine ⟨.slice a5 tat.length cap5, ?_, ?_, ?_⟩
        · rw [HTK.out, HD1.out]; rfl
        · rw [HTK.out]
          exact own_set6 (At.ownsRow_base HO.out (by simp)) (by
             cases hv : (Value.slice a5 tat.length cap5).ownBlock with
             | none => exact Or.inl rfl
             | some q => have := (HO.out.lt q hv).1; exact Or.inr (by simp at this ⊢; omega)) _ _ _ _ _ _
        · exact below_set6 HBW.out (Nat.le_refl _) _ _ _ _ _ _

def zero34 : Array Value := #[.int .i64 0, .string ⟨#[]⟩, .slice none 0 0, .string ⟨#[]⟩, .int .i64 0, .int .i64 0]
theorem info34 : (Tryd.prog.info? 34).map (·.size) = some 6 := by kernel_rfl

set_option maxHeartbeats 4000000 in
set_option maxRecDepth 100000 in
/-- the same token, with lists that read alike: Same says yes -/
theorem same_tok (k : Int) (n : At.Str) (L : List At.At) (f u : Int) (a5 : Option Addr) (cap5 : Nat) (a6 : Option Addr) (cap6 : Nat) (w : World) (hs : At.Sl L a5 cap5 w) (hs2 : At.Sl L a6 cap6 w) (hl : L.length ≤ 100000) :
    Calls Tryd.prog 9 #[.agg #[.int .i64 k, .string ⟨n.toArray⟩, .slice a5 L.length cap5, .string ⟨#[]⟩, .int .i64 f, .int .i64 u], .agg #[.int .i64 k, .string ⟨n.toArray⟩, .slice a6 L.length cap6, .string ⟨#[]⟩, .int .i64 f, .int .i64 u]] w fun e w' => e = .returned (.bool true) ∧ Below w.heap.size w w' := by
  obtain ⟨W2, hW2⟩ : ∃ W2, (w.alloc (.cells #[.int .i64 k, .string ⟨n.toArray⟩, .slice a5 L.length cap5, .string ⟨#[]⟩, .int .i64 f, .int .i64 u] 34)).alloc (.cells #[.int .i64 k, .string ⟨n.toArray⟩, .slice a6 L.length cap6, .string ⟨#[]⟩, .int .i64 f, .int .i64 u] 34) = W2 := ⟨_, rfl⟩
  have hb2 : Below w.heap.size w W2 := by rw [← hW2]; exact ((Below.refl _ w).alloc (Nat.le_refl _) _).alloc (by simp) _
  have b1 : Bk w.heap.size #[.int .i64 k, .string ⟨n.toArray⟩, .slice a5 L.length cap5, .string ⟨#[]⟩, .int .i64 f, .int .i64 u] 34 W2 := by rw [← hW2]; exact (bk_new w _ 34).alloc _
  have b2 : Bk (w.heap.size + 1) #[.int .i64 k, .string ⟨n.toArray⟩, .slice a6 L.length cap6, .string ⟨#[]⟩, .int .i64 f, .int .i64 u] 34 W2 := by
    rw [← hW2]
    have := bk_new (w.alloc (.cells #[.int .i64 k, .string ⟨n.toArray⟩, .slice a5 L.length cap5, .string ⟨#[]⟩, .int .i64 f, .int .i64 u] 34)) #[.int .i64 k, .string ⟨n.toArray⟩, .slice a6 L.length cap6, .string ⟨#[]⟩, .int .i64 f, .int .i64 u] 34
    simpa using this
  have cA := At.alike_any L a5 cap5 L a6 cap6 W2 (hs.below hb2) (hs2.below hb2) (by omega)
  rw [show At.alike L L = true from decide_eq_true rfl] at cA
  obtain ⟨k0, k1, k2, k3, k4, k5, -, -, -, -, -, -⟩ := b1.six
  obtain ⟨q0, q1, q2, q3, q4, q5, -, -, -, -, -, -⟩ := b2.six
  have HB := Lib.hid hb2
  clear hb2 b1 b2 hs hs2
  go_enter Tryd.func9, Tryd.ntmps9
  go_wp2_with fail
  refine cA.mono ?_
  rintro e w3 ⟨rfl, hb3⟩
  go_wp2
  go_ret
  exact ⟨rfl, HB.out.trans (hb3.mono HB.out.size)⟩
end Go.Proofs.YtndcmapifihgeaaDoor.Tg
