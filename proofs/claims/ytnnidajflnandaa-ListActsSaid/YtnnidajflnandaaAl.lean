/- alike, walked: how many elements behind the last mark have an element's name and attributes, and the place of the first one. -/
import Derived.Test.YtnnidajflnandaaLa
import Derived.Test.YtnnidajflnandaaAtSame
import Derived.Test.YtnnidajflnandaaRr
namespace Go.Proofs.Ytnnidajflnandaa
open Go.RowKit Go.Lib
open At (Str cellsA cellsA_len Sl)
attribute [local go_sem] Oper.semAt_some

theorem ba {n : Nat} {W X : World} (h : Below n W X) (hn : n ≤ W.heap.size) (o : Obj) : Below n W (X.alloc o) := h.alloc (Nat.le_trans hn h.size) o
theorem bd {n : Nat} {W X : World} (h : Below n W X) : Below n W X.drew := h.trans ⟨rfl, rfl, rfl, Nat.le_refl _, fun _ _ => rfl⟩
theorem bt {W X Y : World} (h2 : Below X.heap.size X Y) (h : Below W.heap.size W X) : Below W.heap.size W Y := h.trans (h2.mono h.size)
theorem bs {n g : Nat} {W X : World} {u : Value} (hg : n ≤ g) (h : Below n W X) : Below n W (X.setCell ⟨g, 0, none⟩ u) := below_set h hg 0 u
theorem bx_drew {g : Nat} {cs : Array Value} {t : TypeId} {w : World} (h : Bx g cs t w) : Bx g cs t w.drew := h
theorem bx_set1 {g : Nat} {x u : Value} {t : TypeId} {w : World} (h : Bx g #[x] t w) : Bx g #[u] t (w.setCell ⟨g, 0, none⟩ u) := h.set 0 u
theorem sl_alloc {M : List At.At} {a : Option Addr} {c : Nat} {w : World} (h : Sl M a c w) (o : Obj) : Sl M a c (w.alloc o) := h.below (At.below_alloc _)
/-- has an entry that name and these attributes? -/
def alk (L : List QN) (s : List UInt8) (t : List At.At) (i : Int) : Bool := match L[i.toNat]? with
  | some n => n.nm == s && At.same n.ats t
  | none => false
/-- those that have -/
def flt (L : List QN) (s : List UInt8) (t : List At.At) (pre : List (Nat × Int)) : List (Nat × Int) := pre.filter fun p => alk L s t p.2
def fst (l : List (Nat × Int)) : Int := match l.getLast? with
  | some p => (p.1 : Int)
  | none => -1
theorem flt_yes {L : List QN} {s : List UInt8} {t : List At.At} {pre : List (Nat × Int)} {p : Nat × Int} (h : alk L s t p.2 = true) : flt L s t (pre ++ [p]) = flt L s t pre ++ [p] := by unfold flt; rw [List.filter_append]; simp [h]
theorem flt_no {L : List QN} {s : List UInt8} {t : List At.At} {pre : List (Nat × Int)} {p : Nat × Int} (h : alk L s t p.2 = false) : flt L s t (pre ++ [p]) = flt L s t pre := by unfold flt; rw [List.filter_append]; simp [h]
theorem fst_snoc (l : List (Nat × Int)) (p : Nat × Int) : fst (l ++ [p]) = (p.1 : Int) := by unfold fst; simp
theorem flt_len (L : List QN) (s : List UInt8) (t : List At.At) (pre : List (Nat × Int)) : (flt L s t pre).length ≤ pre.length := List.length_filter_le _ _
theorem alk_at {L : List QN} {s : List UInt8} {t : List At.At} {m : Nat} {n : QN} (h : L[m]? = some n) : alk L s t (m : Int) = (n.nm == s && At.same n.ats t) := by
  unfold alk
  rw [Int.toNat_natCast, h]

theorem cutg {p q : Prop} (h : p) (k : p → q) : q := k h
theorem rwb {W X Y : World} {e k n : Nat} {v : Value} {xs : List Value} (ho : Y.ownsRow X.heap.size e k v n xs) (_ : Below X.heap.size X Y) (h : Below W.heap.size W X) : Rw W.heap.size e k v n xs Y := (Rw.of_own ho).base h.size
theorem rw_set {B e k n : Nat} {v : Value} {xs : List Value} {w : World} (h : Rw B e k v n xs w) {g : Nat} {cs : Array Value} {t : TypeId} (hb : Bx g cs t w) (hne : e ≠ t) (u : Value) : Rw B e k v n xs (w.setCell ⟨g, 0, none⟩ u) := h.setBox hb.ty hne 0 u
theorem size_drew (w : World) : w.drew.heap.size = w.heap.size := rfl

set_option maxRecDepth 100000 in
set_option maxHeartbeats 4000000 in
theorem alike_any {A B Ls R cp : Nat} {w : World} {L : List QN} {vn : Value} {E : List Int} {v : Value} (ha : AR A w R L cp vn) (h : LR B w Ls R E v) (hok : Ok L E) (hl : E.length ≤ 1000000) (hal : ∀ n ∈ L, n.ats.length ≤ 1000000) (m : Nat) (n : QN) (hm : m ≠ 0) (hn : L[m]? = some n) :
    Calls Try.prog 32 #[.pointer (some ⟨Ls, 0, none⟩), .int .i64 (m : Int)] w fun e w' => e = .returned (.tuple #[.int .i64 ((flt L n.nm n.ats (bb E.reverse)).length : Int), .int .i64 (fst (flt L n.nm n.ats (bb E.reverse)))]) ∧ Below w.heap.size w w' := by
  have hlt := h.lt
  have hmix := mixed
  refine (callsIn_wide (n := 0)).1 (callsIn_of_wp_marks Try.func32 rfl trivial ?_ rfl)
  simp only [Try.ntmps32, List.size_toArray, List.length_cons, List.length_nil, Nat.reduceAdd, Nat.reduceSub, Array.replicate_succ, Array.replicate_zero, List.push_toArray, List.append_toArray, List.nil_append, List.cons_append]
  gi_wp2
  rename_i Q K hK
  obtain ⟨W, hW⟩ : ∃ W, ((w.alloc (.cells #[.pointer (some ⟨Ls, 0, none⟩)] 33)).alloc (.cells #[.int .i64 0] 3)).alloc (.cells #[.int .i64 0] 3) = W := ⟨_, rfl⟩
  have z2 : W.heap.size = w.heap.size + 3 := by rw [← hW]; simp
  have b2 : Below w.heap.size w W := by rw [← hW]; exact ((At.below_alloc _).alloc (by simp) _).alloc (by simp; omega) _
  have x0 : Bx w.heap.size #[.pointer (some ⟨Ls, 0, none⟩)] 33 W := by rw [← hW]; exact bx_more (bx_more (bx_at w _ _ _ rfl) _) _
  have x1 : Bx (w.heap.size + 1) #[.int .i64 0] 3 W := by rw [← hW]; exact bx_more (bx_at _ _ _ _ (by simp)) _
  have x2 : Bx (w.heap.size + 2) #[.int .i64 0] 3 W := by rw [← hW]; exact bx_at _ _ _ _ (by simp)
  have h2 := h.below b2
  have ha2 := ha.below b2
  rw [hW]
  clear hW
  have k0 := x0.cell 0
  have l0 := h2.c0
  have cN := fun (X : World) (hb : Below W.heap.size W X) => name_any (ha2.below hb) m n hn (Or.inl hm)
  have cA := fun (X : World) (hb : Below W.heap.size W X) => attrs_any (ha2.below hb) m n hn (Or.inl hm) (hal n (mem_of_at hn))
  have sk : ∀ X, Below W.heap.size W X → X.cell? ⟨w.heap.size, 0, none⟩ = some (.pointer (some ⟨Ls, 0, none⟩)) ∧ X.cell? ⟨Ls, 0, none⟩ = some (.pointer (some ⟨R, 0, none⟩)) := fun X hb =>
    ⟨(hb.cell (p := ⟨w.heap.size, 0, none⟩) x0.lt).trans k0, (hb.cell (p := ⟨Ls, 0, none⟩) h2.lt).trans l0⟩
  have rest : ∀ (g6 g7 : Nat) (a6 : Option Addr) (c6 : Nat) (Y : World), Below W.heap.size W Y → W.heap.size ≤ g6 → W.heap.size ≤ g7 → Bx g6 #[.string ⟨n.nm.toArray⟩] 9 Y → Bx g7 #[.slice a6 n.ats.length c6] 41 Y →
      Rw W.heap.size 72 2 (.slice a6 n.ats.length c6) n.ats.length (cellsA n.ats) Y →
      K { tmps := #[.pointer (some ⟨Ls, 0, none⟩), .int .i64 (m : Int), .pointer (some ⟨w.heap.size, 0, none⟩), undef, .pointer (some ⟨w.heap.size + 1, 0, none⟩), .pointer (some ⟨w.heap.size + 1 + 1, 0, none⟩), .pointer (some ⟨g6, 0, none⟩), .pointer (some ⟨g7, 0, none⟩), undef, undef,
        .pointer (some ⟨Ls, 0, none⟩), .pointer (some ⟨Ls, 0, none⟩), .pointer (some ⟨Ls, 0, none⟩), .pointer (some ⟨R, 0, none⟩), .int .i64 (m : Int), .string ⟨n.nm.toArray⟩, .pointer (some ⟨Ls, 0, none⟩), .pointer (some ⟨Ls, 0, none⟩), .pointer (some ⟨Ls, 0, none⟩), .pointer (some ⟨R, 0, none⟩), .int .i64 (m : Int), .slice a6 n.ats.length c6,
        undef, undef, undef, undef, undef, undef, undef, undef, undef, undef, undef, undef, undef, undef, undef, undef, undef, undef, undef, undef, undef, undef, undef, undef, undef, undef, undef], defers := [] } Y := by
    intro g6 g7 a6 c6 Y hB h6 h7 y6 y7 hrw
    refine hK _ _ ?_
    have hBw : Below w.heap.size w Y := b2.trans (hB.mono (by omega))
    have v0 := x0.below hB
    have v1 := x1.below hB
    have v2 := x2.below hB
    have c2 := v2.cell 0
    have f2 := v2.fr 0
    have k0Y := v0.cell 0
    have cB := fun W => behindMark_any Ls W
    clear hK
    gi_wp2_with (refine ⟨trivial, rfl, ?_⟩; gi_at_call 35; refine (callsIn_wide.2 (cB _)).mono ?_; rintro e w' ⟨rfl, rfl⟩)
    -- REST
    have b67 : g6 < Y.heap.size ∧ g7 < Y.heap.size := ⟨y6.lt, y7.lt⟩
    have hown72 : ∀ q, (Value.slice a6 n.ats.length c6).ownBlock = some q → q < Y.heap.size := fun q hq => (hrw.lt q hq).2
    obtain ⟨Y1, hY1⟩ : ∃ Y1, Y.setCell ⟨w.heap.size + 1 + 1, 0, none⟩ (.int .i64 (-1)) = Y1 := ⟨_, rfl⟩
    have zY : Y1.heap.size = Y.heap.size := by rw [← hY1, World.size_setCell]
    have hB1 : Below w.heap.size w Y1 := by rw [← hY1]; exact below_set hBw (by omega) _ _
    have u0 : Bx w.heap.size #[.pointer (some ⟨Ls, 0, none⟩)] 33 Y1 := by rw [← hY1]; exact v0.other (by omega) _ _
    have u1 : Bx (w.heap.size + 1) #[.int .i64 0] 3 Y1 := by rw [← hY1]; exact v1.other (by omega) _ _
    have u2 : Bx (w.heap.size + 2) #[.int .i64 (-1)] 3 Y1 := by rw [← hY1]; exact v2.set 0 _
    have u6 : Bx g6 #[.string ⟨n.nm.toArray⟩] 9 Y1 := by rw [← hY1]; exact y6.other (by omega) _ _
    have u7 : Bx g7 #[.slice a6 n.ats.length c6] 41 Y1 := by rw [← hY1]; exact y7.other (by omega) _ _
    have urw : Rw W.heap.size 72 2 (.slice a6 n.ats.length c6) n.ats.length (cellsA n.ats) Y1 := by rw [← hY1]; exact rw_set hrw v2 (by decide) _
    rw [hY1]
    obtain ⟨Y2, hY2⟩ : ∃ Y2, Y1.alloc (.cells #[.pointer (some ⟨Ls, 0, none⟩)] 33) = Y2 := ⟨_, rfl⟩
    have z2' : Y2.heap.size = Y.heap.size + 1 := by rw [← hY2]; simp [zY]
    have bY2 : Below Y1.heap.size Y1 Y2 := by rw [← hY2]; exact At.below_alloc _
    have x4 : Y2.cell? ⟨Y.heap.size, 0, none⟩ = some (.pointer (some ⟨Ls, 0, none⟩)) := by rw [← hY2]; exact (bx_at _ _ #[.pointer (some ⟨Ls, 0, none⟩)] 33 zY.symm).cell 0
    have hB2 : Below w.heap.size w Y2 := hB1.trans (bY2.mono hB1.size)
    have hYw : w.heap.size + 3 ≤ Y.heap.size := by have := hB.size; omega
    have hLs2 := h.below hB2
    have hown : ∀ q, some q = v.ownBlock → q < w.heap.size := fun q hq => (h.row.lt q hq.symm).2
    rw [hY2]
    have w0 := u0.below bY2
    have w1 := u1.below bY2
    have w2 := u2.below bY2
    have w6 := u6.below bY2
    have w7 := u7.below bY2
    have wrw := urw.below bY2
    clear hY1 hY2 u0 u1 u2 u6 u7 urw v0 v1 v2 y6 y7 hrw hB1 bY2 c2 f2 k0Y
    refine range_law (gf := 44) (lb := #[.pointer (some ⟨Y.heap.size, 0, none⟩)]) rfl (enters_of Try.func44 (by kernel_rfl) rfl) (mark_gives Y.heap.size Ls B R v E hl Y2 x4 hLs2)
      (fun g hg => by have := hown g hg; omega) (Below.refl _ _) (fun _ => rfl)
      (fun pre X => Below w.heap.size w X ∧ Bx w.heap.size #[.pointer (some ⟨Ls, 0, none⟩)] 33 X ∧ Bx (w.heap.size + 1) #[.int .i64 ((flt L n.nm n.ats pre).length : Int)] 3 X ∧ Bx (w.heap.size + 2) #[.int .i64 (fst (flt L n.nm n.ats pre))] 3 X ∧ Bx g6 #[.string ⟨n.nm.toArray⟩] 9 X ∧ Bx g7 #[.slice a6 n.ats.length c6] 41 X ∧ Rw W.heap.size 72 2 (.slice a6 n.ats.length c6) n.ats.length (cellsA n.ats) X)
      (fun c pre X => False)
      (fun s X Z h hb => ⟨h.1.trans (hb.mono (by omega)), (hb.block _ (by omega)).trans h.2.1, (hb.block _ (by omega)).trans h.2.2.1, (hb.block _ (by omega)).trans h.2.2.2.1, (hb.block _ (by omega)).trans h.2.2.2.2.1, (hb.block _ (by omega)).trans h.2.2.2.2.2.1, h.2.2.2.2.2.2.same fun q hq => hb.block q (by have := hown72 q hq; omega)⟩)
      (fun c s X Y h hb => h)
      ⟨hB2, w0, w1, w2, w6, w7, wrw⟩
      (fun x => { tmps := #[.pointer (some ⟨Ls, 0, none⟩), .int .i64 (m : Int), .pointer (some ⟨w.heap.size, 0, none⟩), undef, .pointer (some ⟨w.heap.size + 1, 0, none⟩), .pointer (some ⟨w.heap.size + 1 + 1, 0, none⟩), .pointer (some ⟨g6, 0, none⟩), .pointer (some ⟨g7, 0, none⟩), .int .i64 (x.1 : Int), .int .i64 x.2, .pointer (some ⟨Ls, 0, none⟩), .pointer (some ⟨Ls, 0, none⟩), .pointer (some ⟨Ls, 0, none⟩), .pointer (some ⟨R, 0, none⟩), .int .i64 (m : Int), .string ⟨n.nm.toArray⟩, .pointer (some ⟨Ls, 0, none⟩), .pointer (some ⟨Ls, 0, none⟩), .pointer (some ⟨Ls, 0, none⟩), .pointer (some ⟨R, 0, none⟩), .int .i64 (m : Int), .slice a6 n.ats.length c6, .pointer (some ⟨Ls, 0, none⟩), .func (.func 44) #[] #[.pointer (some ⟨Y.heap.size, 0, none⟩)], .int .i64 (x.1 : Int), .int .i64 x.2, undef, undef, undef, undef, undef, undef, undef, undef, undef, undef, undef, undef, undef, undef, undef, undef, undef, undef, undef, undef, undef, undef, undef], defers := [] })
      ?assign ?body ?done ?stop
    case assign =>
      intro l2 x X K hK
      unfold enc2
      gi_wp2
      exact hK
    case body =>
      rintro l2 pre ⟨k, j⟩ X hpre ⟨hb, q0, q1, q2, q6, q7, qr⟩ hX
      obtain ⟨hE, hj1, -⟩ := bb_mem (hpre.subset (List.mem_append.2 (Or.inr (List.mem_singleton.2 rfl))))
      simp only at hE hj1
      obtain ⟨m2, n2, rfl, hm2, hLm, -⟩ := hok.at hE hj1
      have haX := ha.below (hb.trans ((below_drew X).mono hb.size))
      have l0X := (h.below hb).c0
      have cNX := name_any haX m2 n2 hLm (Or.inl hm2)
      have cAX := attrs_any haX m2 n2 hLm (Or.inl hm2) (hal n2 (mem_of_at hLm))
      have hpl : (flt L n.nm n.ats pre).length ≤ 1000000 := Nat.le_trans (flt_len _ _ _ _) (by
        have h1 := hpre.length_le
        have h2 := (List.takeWhile_prefix (p := fun p : Nat × Int => nm p.2) (l := bw E.reverse)).length_le
        rw [bw_len] at h2
        unfold bb at h1
        simp at h1 h2
        omega)
      have e0 := q0.cell 0
      have e1 := q1.cell 0
      have e6 := q6.cell 0
      have e7 := q7.cell 0
      have s1 := q1.fr 0
      have s2 := q2.fr 0
      have e2 := q2.cell 0
      have hpn : ¬ (some (w.heap.size + 1) = v.ownBlock) := fun h => by have := hown _ h; omega
      have hpn2 : ¬ (some (w.heap.size + 2) = v.ownBlock) := fun h => by have := hown _ h; omega
      have HB := Lib.hid hb
      have Q0 := Lib.hid q0
      have Q1 := Lib.hid q1
      have Q2 := Lib.hid q2
      have Q6 := Lib.hid q6
      have Q7 := Lib.hid q7
      have QR := Lib.hid qr
      have HA := Lib.hid (alk_at (s := n.nm) (t := n.ats) hLm)
      have HX := Lib.hid hX
      have hso : ∃ a c, (Value.slice a6 n.ats.length c6) = .slice a n.ats.length c ∧ Sl n.ats a c X := qr.sl
      obtain ⟨a6', c6', he6, hsl6⟩ := hso
      cases he6
      have HS6 := Lib.hid hsl6
      have HL2 := Lib.hid (hal n2 (mem_of_at hLm))
      have HL1 := Lib.hid (hal n (mem_of_at hn))
      clear hb q0 q1 q2 q6 q7 qr hpre hE hj1 haX hX hsl6 x4 hLs2 w0 w1 w2 w6 w7 wrw
      by_cases hnm : (n2.nm == n.nm) = true
      · have hwr : IntKind.i64.wrap (((flt L n.nm n.ats pre).length : Int) + 1) = ((flt L n.nm n.ats pre).length : Int) + 1 := wrap_small _ (by omega) (by omega)
        by_cases hsm : At.same n2.ats n.ats = true
        · have HT := Lib.hid (show alk L n.nm n.ats (m2 : Int) = true by rw [HA.out, hnm, hsm]; rfl)
          gi_wp2
          refine region_round' (S := (fun wx => wx.cell? ⟨w.heap.size, 0, none⟩ = some (.pointer (some ⟨Ls, 0, none⟩)) ∧ wx.cell? ⟨Ls, 0, none⟩ = some (.pointer (some ⟨R, 0, none⟩)) ∧ wx.cell? ⟨g6, 0, none⟩ = some (.string ⟨n.nm.toArray⟩) ∧ wx.cell? ⟨g7, 0, none⟩ = some (.slice a6 n.ats.length c6))) (n := 18) (listed := #[false, false, false, false, false, false, false, false, false, false, false, false, false, false, false, false, false, false]) rfl (by kernel_rfl) mixed (by kernel_rfl) (fun h => by obtain ⟨_, _, h⟩ := h; exact h) ?_
          have hS0 : (fun wx => wx.cell? ⟨w.heap.size, 0, none⟩ = some (.pointer (some ⟨Ls, 0, none⟩)) ∧ wx.cell? ⟨Ls, 0, none⟩ = some (.pointer (some ⟨R, 0, none⟩)) ∧ wx.cell? ⟨g6, 0, none⟩ = some (.string ⟨n.nm.toArray⟩) ∧ wx.cell? ⟨g7, 0, none⟩ = some (.slice a6 n.ats.length c6)) X.drew := ⟨e0, l0X, e6, e7⟩
          refine takeH (i := 0) (v := ?_) (d := some 26) (listed' := #[true, false, false, false, false, false, false, false, false, false, false, false, false, false, false, false, false, false]) (by kernel_rfl) rfl rfl (by kernel_rfl) (by kernel_rfl) (by kernel_rfl) (fun _ _ _ h => h) (Or.inl ⟨by rfl, ?_⟩) hS0 ?_
          rotate_left
          · intro wq hSq
            obtain ⟨hq1, hq2, hq3, hq4⟩ := hSq
            go_simp
            try with_reducible rfl
          try simp only [Act.put, List.setIfInBounds_toArray, List.set_cons_zero, List.set_cons_succ]
          refine takeH (i := 1) (v := ?_) (d := some 27) (listed' := #[true, true, false, false, false, false, false, false, false, false, false, false, false, false, false, false, false, false]) (by kernel_rfl) rfl rfl (by kernel_rfl) (by kernel_rfl) (by kernel_rfl) (fun _ _ _ h => h) (Or.inl ⟨by rfl, ?_⟩) hS0 ?_
          rotate_left
          · intro wq hSq
            obtain ⟨hq1, hq2, hq3, hq4⟩ := hSq
            go_simp
            try with_reducible rfl
          try simp only [Act.put, List.setIfInBounds_toArray, List.set_cons_zero, List.set_cons_succ]
          refine takeH (i := 2) (v := ?_) (d := some 28) (listed' := #[true, true, true, false, false, false, false, false, false, false, false, false, false, false, false, false, false, false]) (by kernel_rfl) rfl rfl (by kernel_rfl) (by kernel_rfl) (by kernel_rfl) (fun _ _ _ h => h) (Or.inl ⟨by rfl, ?_⟩) hS0 ?_
          rotate_left
          · intro wq hSq
            obtain ⟨hq1, hq2, hq3, hq4⟩ := hSq
            go_simp
            try with_reducible rfl
          try simp only [Act.put, List.setIfInBounds_toArray, List.set_cons_zero, List.set_cons_succ]
          refine takeH (i := 3) (v := ?_) (d := some 29) (listed' := #[true, true, true, true, false, false, false, false, false, false, false, false, false, false, false, false, false, false]) (by kernel_rfl) rfl rfl (by kernel_rfl) (by kernel_rfl) (by kernel_rfl) (fun _ _ _ h => h) (Or.inl ⟨by rfl, ?_⟩) hS0 ?_
          rotate_left
          · intro wq hSq
            obtain ⟨hq1, hq2, hq3, hq4⟩ := hSq
            go_simp
            try with_reducible rfl
          try simp only [Act.put, List.setIfInBounds_toArray, List.set_cons_zero, List.set_cons_succ]
          refine takeH (i := 4) (v := ?_) (d := some 30) (listed' := #[true, true, true, true, true, false, false, false, false, false, false, false, false, false, false, false, false, false]) (by kernel_rfl) rfl rfl (by kernel_rfl) (by kernel_rfl) (by kernel_rfl) (fun _ _ _ h => h) (Or.inl ⟨by rfl, ?_⟩) hS0 ?_
          rotate_left
          · intro wq hSq
            obtain ⟨hq1, hq2, hq3, hq4⟩ := hSq
            go_simp
            try with_reducible rfl
          try simp only [Act.put, List.setIfInBounds_toArray, List.set_cons_zero, List.set_cons_succ]
          refine takeH (i := 6) (v := ?_) (d := some 32) (listed' := #[true, true, true, true, true, false, true, false, false, false, false, false, false, false, false, false, false, false]) (by kernel_rfl) rfl rfl (by kernel_rfl) (by kernel_rfl) (by kernel_rfl) (fun _ _ _ h => h) (Or.inl ⟨by rfl, ?_⟩) hS0 ?_
          rotate_left
          · intro wq hSq
            obtain ⟨hq1, hq2, hq3, hq4⟩ := hSq
            go_simp
            try with_reducible rfl
          try simp only [Act.put, List.setIfInBounds_toArray, List.set_cons_zero, List.set_cons_succ]
          refine held_one (i := 5) (listed' := #[true, true, true, true, true, true, true, false, false, false, false, false, false, false, false, false, false, false]) (by kernel_rfl) (by kernel_rfl) rfl ?_
          intro K9 hK9
          go_simp
          refine cNX.mono ?_
          rintro e w' ⟨rfl, rfl⟩
          simp only
          refine hK9 _ _ hS0 ?_
          clear hK9
          try simp only [Act.put, List.setIfInBounds_toArray, List.set_cons_zero, List.set_cons_succ]
          refine takeH (i := 7) (v := ?_) (d := some 33) (listed' := #[true, true, true, true, true, true, true, true, false, false, false, false, false, false, false, false, false, false]) (by kernel_rfl) rfl rfl (by kernel_rfl) (by kernel_rfl) (by kernel_rfl) (fun _ _ _ h => h) (Or.inl ⟨by rfl, ?_⟩) hS0 ?_
          rotate_left
          · intro wq hSq
            obtain ⟨hq1, hq2, hq3, hq4⟩ := hSq
            go_simp
            try with_reducible rfl
          try simp only [Act.put, List.setIfInBounds_toArray, List.set_cons_zero, List.set_cons_succ]
          refine takeH (i := 8) (v := ?_) (d := some 34) (listed' := #[true, true, true, true, true, true, true, true, true, false, false, false, false, false, false, false, false, false]) (by kernel_rfl) rfl rfl (by kernel_rfl) (by kernel_rfl) (by kernel_rfl) (fun _ _ _ h => h) (Or.inl ⟨by rfl, ?_⟩) hS0 ?_
          rotate_left
          · intro wq hSq
            obtain ⟨hq1, hq2, hq3, hq4⟩ := hSq
            go_simp
            try with_reducible rfl
          try simp only [Act.put, List.setIfInBounds_toArray, List.set_cons_zero, List.set_cons_succ]
          refine takeH (i := 9) (v := ?_) (d := some 35) (listed' := #[true, true, true, true, true, true, true, true, true, true, false, false, false, false, false, false, false, false]) (by kernel_rfl) rfl rfl (by kernel_rfl) (by kernel_rfl) (by kernel_rfl) (fun _ _ _ h => h) (Or.inl ⟨by rfl, ?_⟩) hS0 ?_
          rotate_left
          · intro wq hSq
            obtain ⟨hq1, hq2, hq3, hq4⟩ := hSq
            go_simp
            try with_reducible rfl
          try simp only [Act.put, List.setIfInBounds_toArray, List.set_cons_zero, List.set_cons_succ]
          refine takeH (i := 10) (v := ?_) (d := some 36) (listed' := #[true, true, true, true, true, true, true, true, true, true, true, false, false, false, false, false, false, false]) (by kernel_rfl) rfl rfl (by kernel_rfl) (by kernel_rfl) (by kernel_rfl) (fun _ _ _ h => h) (Or.inl ⟨by rfl, ?_⟩) hS0 ?_
          rotate_left
          · intro wq hSq
            obtain ⟨hq1, hq2, hq3, hq4⟩ := hSq
            go_simp
            try with_reducible rfl
          try simp only [Act.put, List.setIfInBounds_toArray, List.set_cons_zero, List.set_cons_succ]
          refine takeH (i := 11) (v := ?_) (d := some 37) (listed' := #[true, true, true, true, true, true, true, true, true, true, true, true, false, false, false, false, false, false]) (by kernel_rfl) rfl rfl (by kernel_rfl) (by kernel_rfl) (by kernel_rfl) (fun _ _ _ h => h) (Or.inl ⟨by rfl, ?_⟩) hS0 ?_
          rotate_left
          · intro wq hSq
            obtain ⟨hq1, hq2, hq3, hq4⟩ := hSq
            go_simp
            try with_reducible rfl
          try simp only [Act.put, List.setIfInBounds_toArray, List.set_cons_zero, List.set_cons_succ]
          refine takeH (i := 12) (v := ?_) (d := some 38) (listed' := #[true, true, true, true, true, true, true, true, true, true, true, true, true, false, false, false, false, false]) (by kernel_rfl) rfl rfl (by kernel_rfl) (by kernel_rfl) (by kernel_rfl) (fun _ _ _ h => h) (Or.inl ⟨by rfl, ?_⟩) hS0 ?_
          rotate_left
          · intro wq hSq
            obtain ⟨hq1, hq2, hq3, hq4⟩ := hSq
            go_simp
            try with_reducible rfl
          try simp only [Act.put, List.setIfInBounds_toArray, List.set_cons_zero, List.set_cons_succ]
          refine takeH (i := 13) (v := ?_) (d := some 39) (listed' := #[true, true, true, true, true, true, true, true, true, true, true, true, true, true, false, false, false, false]) (by kernel_rfl) rfl rfl (by kernel_rfl) (by kernel_rfl) (by kernel_rfl) (fun _ _ _ h => h) (Or.inl ⟨by rfl, ?_⟩) hS0 ?_
          rotate_left
          · intro wq hSq
            obtain ⟨hq1, hq2, hq3, hq4⟩ := hSq
            go_simp
            try with_reducible rfl
          try simp only [Act.put, List.setIfInBounds_toArray, List.set_cons_zero, List.set_cons_succ]
          refine takeH (i := 15) (v := ?_) (d := some 41) (listed' := #[true, true, true, true, true, true, true, true, true, true, true, true, true, true, false, true, false, false]) (by kernel_rfl) rfl rfl (by kernel_rfl) (by kernel_rfl) (by kernel_rfl) (fun _ _ _ h => h) (Or.inl ⟨by rfl, ?_⟩) hS0 ?_
          rotate_left
          · intro wq hSq
            obtain ⟨hq1, hq2, hq3, hq4⟩ := hSq
            go_simp
            try with_reducible rfl
          try simp only [Act.put, List.setIfInBounds_toArray, List.set_cons_zero, List.set_cons_succ]
          refine held_one (i := 14) (listed' := #[true, true, true, true, true, true, true, true, true, true, true, true, true, true, true, true, false, false]) (by kernel_rfl) (by kernel_rfl) rfl ?_
          intro K9 hK9
          go_simp
          refine cAX.mono ?_
          rintro e w3 ⟨va, rfl, ho3, hb3⟩
          obtain ⟨a8, c8, rfl, hs8⟩ := At.sl_own ho3
          have hb3' : Below X.heap.size X w3 := (below_drew X).trans hb3
          have hS3 : (fun wx => wx.cell? ⟨w.heap.size, 0, none⟩ = some (.pointer (some ⟨Ls, 0, none⟩)) ∧ wx.cell? ⟨Ls, 0, none⟩ = some (.pointer (some ⟨R, 0, none⟩)) ∧ wx.cell? ⟨g6, 0, none⟩ = some (.string ⟨n.nm.toArray⟩) ∧ wx.cell? ⟨g7, 0, none⟩ = some (.slice a6 n.ats.length c6)) w3 := ⟨(hb3'.cell (p := ⟨w.heap.size, 0, none⟩) Q0.out.lt).trans e0, (hb3'.cell (p := ⟨Ls, 0, none⟩) (World.block_lt_of_cell? X _ l0X)).trans l0X, (hb3'.cell (p := ⟨g6, 0, none⟩) Q6.out.lt).trans e6, (hb3'.cell (p := ⟨g7, 0, none⟩) Q7.out.lt).trans e7⟩
          simp only
          refine hK9 _ _ hS3 ?_
          clear hK9
          try simp only [Act.put, List.setIfInBounds_toArray, List.set_cons_zero, List.set_cons_succ]
          refine held_one (i := 16) (listed' := #[true, true, true, true, true, true, true, true, true, true, true, true, true, true, true, true, true, false]) (by kernel_rfl) (by kernel_rfl) rfl ?_
          intro K9 hK9
          go_simp
          refine (At.same_any n2.ats a8 c8 n.ats a6 c6 w3 hs8 (HS6.out.below hb3') HL2.out HL1.out).mono ?_
          rintro e w4 ⟨rfl, hb4⟩
          rw [hsm]
          have hb4' : Below X.heap.size X w4 := below_trans hb3' hb4
          have hS4 : (fun wx => wx.cell? ⟨w.heap.size, 0, none⟩ = some (.pointer (some ⟨Ls, 0, none⟩)) ∧ wx.cell? ⟨Ls, 0, none⟩ = some (.pointer (some ⟨R, 0, none⟩)) ∧ wx.cell? ⟨g6, 0, none⟩ = some (.string ⟨n.nm.toArray⟩) ∧ wx.cell? ⟨g7, 0, none⟩ = some (.slice a6 n.ats.length c6)) w4 := ⟨(hb4'.cell (p := ⟨w.heap.size, 0, none⟩) Q0.out.lt).trans e0, (hb4'.cell (p := ⟨Ls, 0, none⟩) (World.block_lt_of_cell? X _ l0X)).trans l0X, (hb4'.cell (p := ⟨g6, 0, none⟩) Q6.out.lt).trans e6, (hb4'.cell (p := ⟨g7, 0, none⟩) Q7.out.lt).trans e7⟩
          simp only
          refine hK9 _ _ hS4 ?_
          clear hK9
          try simp only [Act.put, List.setIfInBounds_toArray, List.set_cons_zero, List.set_cons_succ]
          refine takeH (i := 17) (v := ?_) (d := some 43) (listed' := #[true, true, true, true, true, true, true, true, true, true, true, true, true, true, true, true, true, true]) (by kernel_rfl) rfl rfl (by kernel_rfl) (by kernel_rfl) (by kernel_rfl) (fun _ _ _ h => h) (Or.inl ⟨by rfl, ?_⟩) hS4 ?_
          rotate_left
          · intro wq hSq
            obtain ⟨hq1, hq2, hq3, hq4⟩ := hSq
            go_simp
            try with_reducible rfl
          try simp only [Act.put, List.setIfInBounds_toArray, List.set_cons_zero, List.set_cons_succ]
          refine wpAnyH_done (by kernel_rfl) ?_ _
          have r1 := Q1.out.below hb4'
          have r2 := Q2.out.below hb4'
          have i1 := r1.cell 0
          have i2 := r2.cell 0
          have j1 := r1.fr 0
          have j2 := r2.fr 0
          have H4 := Lib.hid hb4'
          have R1 := Lib.hid r1
          have R2 := Lib.hid r2
          clear hb3 hb3' hb4 hb4' hs8 ho3 hS0 hS3 hS4 r1 r2
          gi_wp2
          exact ⟨(Kr.of_below H4.out).trans ((Kr.setCell _ _ _ (by show w.heap.size + 1 < _; omega) hpn).trans (Kr.setCell _ _ _ (by show w.heap.size + 2 < _; omega) hpn2)), below_set (below_set (HB.out.trans (H4.out.mono HB.out.size)) (by omega) _ _) (by omega) _ _,
            ((Q0.out.below H4.out).other (by omega) _ _).other (by omega) _ _, by rw [flt_yes HT.out, List.length_append]; exact (R1.out.set 0 _).other (by omega) _ _, by rw [flt_yes HT.out, fst_snoc]; exact (R2.out.other (by omega) _ _).set 0 _, ((Q6.out.below H4.out).other (by omega) _ _).other (by omega) _ _, ((Q7.out.below H4.out).other (by omega) _ _).other (by omega) _ _,
            by first | exact rw_set (rw_set (QR.out.below H4.out) R1.out (by decide) _) (R2.out.other (by omega) _ _) (by decide) _ | (rw [← z2]; exact rw_set (rw_set (QR.out.below H4.out) R1.out (by decide) _) (R2.out.other (by omega) _ _) (by decide) _)⟩
        · have hsm : At.same n2.ats n.ats = false := by simpa using hsm
          have HT := Lib.hid (show alk L n.nm n.ats (m2 : Int) = false by rw [HA.out, hnm, hsm]; rfl)
          gi_wp2
          refine region_round' (S := (fun wx => wx.cell? ⟨w.heap.size, 0, none⟩ = some (.pointer (some ⟨Ls, 0, none⟩)) ∧ wx.cell? ⟨Ls, 0, none⟩ = some (.pointer (some ⟨R, 0, none⟩)) ∧ wx.cell? ⟨g6, 0, none⟩ = some (.string ⟨n.nm.toArray⟩) ∧ wx.cell? ⟨g7, 0, none⟩ = some (.slice a6 n.ats.length c6))) (n := 18) (listed := #[false, false, false, false, false, false, false, false, false, false, false, false, false, false, false, false, false, false]) rfl (by kernel_rfl) mixed (by kernel_rfl) (fun h => by obtain ⟨_, _, h⟩ := h; exact h) ?_
          have hS0 : (fun wx => wx.cell? ⟨w.heap.size, 0, none⟩ = some (.pointer (some ⟨Ls, 0, none⟩)) ∧ wx.cell? ⟨Ls, 0, none⟩ = some (.pointer (some ⟨R, 0, none⟩)) ∧ wx.cell? ⟨g6, 0, none⟩ = some (.string ⟨n.nm.toArray⟩) ∧ wx.cell? ⟨g7, 0, none⟩ = some (.slice a6 n.ats.length c6)) X.drew := ⟨e0, l0X, e6, e7⟩
          refine takeH (i := 0) (v := ?_) (d := some 26) (listed' := #[true, false, false, false, false, false, false, false, false, false, false, false, false, false, false, false, false, false]) (by kernel_rfl) rfl rfl (by kernel_rfl) (by kernel_rfl) (by kernel_rfl) (fun _ _ _ h => h) (Or.inl ⟨by rfl, ?_⟩) hS0 ?_
          rotate_left
          · intro wq hSq
            obtain ⟨hq1, hq2, hq3, hq4⟩ := hSq
            go_simp
            try with_reducible rfl
          try simp only [Act.put, List.setIfInBounds_toArray, List.set_cons_zero, List.set_cons_succ]
          refine takeH (i := 1) (v := ?_) (d := some 27) (listed' := #[true, true, false, false, false, false, false, false, false, false, false, false, false, false, false, false, false, false]) (by kernel_rfl) rfl rfl (by kernel_rfl) (by kernel_rfl) (by kernel_rfl) (fun _ _ _ h => h) (Or.inl ⟨by rfl, ?_⟩) hS0 ?_
          rotate_left
          · intro wq hSq
            obtain ⟨hq1, hq2, hq3, hq4⟩ := hSq
            go_simp
            try with_reducible rfl
          try simp only [Act.put, List.setIfInBounds_toArray, List.set_cons_zero, List.set_cons_succ]
          refine takeH (i := 2) (v := ?_) (d := some 28) (listed' := #[true, true, true, false, false, false, false, false, false, false, false, false, false, false, false, false, false, false]) (by kernel_rfl) rfl rfl (by kernel_rfl) (by kernel_rfl) (by kernel_rfl) (fun _ _ _ h => h) (Or.inl ⟨by rfl, ?_⟩) hS0 ?_
          rotate_left
          · intro wq hSq
            obtain ⟨hq1, hq2, hq3, hq4⟩ := hSq
            go_simp
            try with_reducible rfl
          try simp only [Act.put, List.setIfInBounds_toArray, List.set_cons_zero, List.set_cons_succ]
          refine takeH (i := 3) (v := ?_) (d := some 29) (listed' := #[true, true, true, true, false, false, false, false, false, false, false, false, false, false, false, false, false, false]) (by kernel_rfl) rfl rfl (by kernel_rfl) (by kernel_rfl) (by kernel_rfl) (fun _ _ _ h => h) (Or.inl ⟨by rfl, ?_⟩) hS0 ?_
          rotate_left
          · intro wq hSq
            obtain ⟨hq1, hq2, hq3, hq4⟩ := hSq
            go_simp
            try with_reducible rfl
          try simp only [Act.put, List.setIfInBounds_toArray, List.set_cons_zero, List.set_cons_succ]
          refine takeH (i := 4) (v := ?_) (d := some 30) (listed' := #[true, true, true, true, true, false, false, false, false, false, false, false, false, false, false, false, false, false]) (by kernel_rfl) rfl rfl (by kernel_rfl) (by kernel_rfl) (by kernel_rfl) (fun _ _ _ h => h) (Or.inl ⟨by rfl, ?_⟩) hS0 ?_
          rotate_left
          · intro wq hSq
            obtain ⟨hq1, hq2, hq3, hq4⟩ := hSq
            go_simp
            try with_reducible rfl
          try simp only [Act.put, List.setIfInBounds_toArray, List.set_cons_zero, List.set_cons_succ]
          refine takeH (i := 6) (v := ?_) (d := some 32) (listed' := #[true, true, true, true, true, false, true, false, false, false, false, false, false, false, false, false, false, false]) (by kernel_rfl) rfl rfl (by kernel_rfl) (by kernel_rfl) (by kernel_rfl) (fun _ _ _ h => h) (Or.inl ⟨by rfl, ?_⟩) hS0 ?_
          rotate_left
          · intro wq hSq
            obtain ⟨hq1, hq2, hq3, hq4⟩ := hSq
            go_simp
            try with_reducible rfl
          try simp only [Act.put, List.setIfInBounds_toArray, List.set_cons_zero, List.set_cons_succ]
          refine held_one (i := 5) (listed' := #[true, true, true, true, true, true, true, false, false, false, false, false, false, false, false, false, false, false]) (by kernel_rfl) (by kernel_rfl) rfl ?_
          intro K9 hK9
          go_simp
          refine cNX.mono ?_
          rintro e w' ⟨rfl, rfl⟩
          simp only
          refine hK9 _ _ hS0 ?_
          clear hK9
          try simp only [Act.put, List.setIfInBounds_toArray, List.set_cons_zero, List.set_cons_succ]
          refine takeH (i := 7) (v := ?_) (d := some 33) (listed' := #[true, true, true, true, true, true, true, true, false, false, false, false, false, false, false, false, false, false]) (by kernel_rfl) rfl rfl (by kernel_rfl) (by kernel_rfl) (by kernel_rfl) (fun _ _ _ h => h) (Or.inl ⟨by rfl, ?_⟩) hS0 ?_
          rotate_left
          · intro wq hSq
            obtain ⟨hq1, hq2, hq3, hq4⟩ := hSq
            go_simp
            try with_reducible rfl
          try simp only [Act.put, List.setIfInBounds_toArray, List.set_cons_zero, List.set_cons_succ]
          refine takeH (i := 8) (v := ?_) (d := some 34) (listed' := #[true, true, true, true, true, true, true, true, true, false, false, false, false, false, false, false, false, false]) (by kernel_rfl) rfl rfl (by kernel_rfl) (by kernel_rfl) (by kernel_rfl) (fun _ _ _ h => h) (Or.inl ⟨by rfl, ?_⟩) hS0 ?_
          rotate_left
          · intro wq hSq
            obtain ⟨hq1, hq2, hq3, hq4⟩ := hSq
            go_simp
            try with_reducible rfl
          try simp only [Act.put, List.setIfInBounds_toArray, List.set_cons_zero, List.set_cons_succ]
          refine takeH (i := 9) (v := ?_) (d := some 35) (listed' := #[true, true, true, true, true, true, true, true, true, true, false, false, false, false, false, false, false, false]) (by kernel_rfl) rfl rfl (by kernel_rfl) (by kernel_rfl) (by kernel_rfl) (fun _ _ _ h => h) (Or.inl ⟨by rfl, ?_⟩) hS0 ?_
          rotate_left
          · intro wq hSq
            obtain ⟨hq1, hq2, hq3, hq4⟩ := hSq
            go_simp
            try with_reducible rfl
          try simp only [Act.put, List.setIfInBounds_toArray, List.set_cons_zero, List.set_cons_succ]
          refine takeH (i := 10) (v := ?_) (d := some 36) (listed' := #[true, true, true, true, true, true, true, true, true, true, true, false, false, false, false, false, false, false]) (by kernel_rfl) rfl rfl (by kernel_rfl) (by kernel_rfl) (by kernel_rfl) (fun _ _ _ h => h) (Or.inl ⟨by rfl, ?_⟩) hS0 ?_
          rotate_left
          · intro wq hSq
            obtain ⟨hq1, hq2, hq3, hq4⟩ := hSq
            go_simp
            try with_reducible rfl
          try simp only [Act.put, List.setIfInBounds_toArray, List.set_cons_zero, List.set_cons_succ]
          refine takeH (i := 11) (v := ?_) (d := some 37) (listed' := #[true, true, true, true, true, true, true, true, true, true, true, true, false, false, false, false, false, false]) (by kernel_rfl) rfl rfl (by kernel_rfl) (by kernel_rfl) (by kernel_rfl) (fun _ _ _ h => h) (Or.inl ⟨by rfl, ?_⟩) hS0 ?_
          rotate_left
          · intro wq hSq
            obtain ⟨hq1, hq2, hq3, hq4⟩ := hSq
            go_simp
            try with_reducible rfl
          try simp only [Act.put, List.setIfInBounds_toArray, List.set_cons_zero, List.set_cons_succ]
          refine takeH (i := 12) (v := ?_) (d := some 38) (listed' := #[true, true, true, true, true, true, true, true, true, true, true, true, true, false, false, false, false, false]) (by kernel_rfl) rfl rfl (by kernel_rfl) (by kernel_rfl) (by kernel_rfl) (fun _ _ _ h => h) (Or.inl ⟨by rfl, ?_⟩) hS0 ?_
          rotate_left
          · intro wq hSq
            obtain ⟨hq1, hq2, hq3, hq4⟩ := hSq
            go_simp
            try with_reducible rfl
          try simp only [Act.put, List.setIfInBounds_toArray, List.set_cons_zero, List.set_cons_succ]
          refine takeH (i := 13) (v := ?_) (d := some 39) (listed' := #[true, true, true, true, true, true, true, true, true, true, true, true, true, true, false, false, false, false]) (by kernel_rfl) rfl rfl (by kernel_rfl) (by kernel_rfl) (by kernel_rfl) (fun _ _ _ h => h) (Or.inl ⟨by rfl, ?_⟩) hS0 ?_
          rotate_left
          · intro wq hSq
            obtain ⟨hq1, hq2, hq3, hq4⟩ := hSq
            go_simp
            try with_reducible rfl
          try simp only [Act.put, List.setIfInBounds_toArray, List.set_cons_zero, List.set_cons_succ]
          refine takeH (i := 15) (v := ?_) (d := some 41) (listed' := #[true, true, true, true, true, true, true, true, true, true, true, true, true, true, false, true, false, false]) (by kernel_rfl) rfl rfl (by kernel_rfl) (by kernel_rfl) (by kernel_rfl) (fun _ _ _ h => h) (Or.inl ⟨by rfl, ?_⟩) hS0 ?_
          rotate_left
          · intro wq hSq
            obtain ⟨hq1, hq2, hq3, hq4⟩ := hSq
            go_simp
            try with_reducible rfl
          try simp only [Act.put, List.setIfInBounds_toArray, List.set_cons_zero, List.set_cons_succ]
          refine held_one (i := 14) (listed' := #[true, true, true, true, true, true, true, true, true, true, true, true, true, true, true, true, false, false]) (by kernel_rfl) (by kernel_rfl) rfl ?_
          intro K9 hK9
          go_simp
          refine cAX.mono ?_
          rintro e w3 ⟨va, rfl, ho3, hb3⟩
          obtain ⟨a8, c8, rfl, hs8⟩ := At.sl_own ho3
          have hb3' : Below X.heap.size X w3 := (below_drew X).trans hb3
          have hS3 : (fun wx => wx.cell? ⟨w.heap.size, 0, none⟩ = some (.pointer (some ⟨Ls, 0, none⟩)) ∧ wx.cell? ⟨Ls, 0, none⟩ = some (.pointer (some ⟨R, 0, none⟩)) ∧ wx.cell? ⟨g6, 0, none⟩ = some (.string ⟨n.nm.toArray⟩) ∧ wx.cell? ⟨g7, 0, none⟩ = some (.slice a6 n.ats.length c6)) w3 := ⟨(hb3'.cell (p := ⟨w.heap.size, 0, none⟩) Q0.out.lt).trans e0, (hb3'.cell (p := ⟨Ls, 0, none⟩) (World.block_lt_of_cell? X _ l0X)).trans l0X, (hb3'.cell (p := ⟨g6, 0, none⟩) Q6.out.lt).trans e6, (hb3'.cell (p := ⟨g7, 0, none⟩) Q7.out.lt).trans e7⟩
          simp only
          refine hK9 _ _ hS3 ?_
          clear hK9
          try simp only [Act.put, List.setIfInBounds_toArray, List.set_cons_zero, List.set_cons_succ]
          refine held_one (i := 16) (listed' := #[true, true, true, true, true, true, true, true, true, true, true, true, true, true, true, true, true, false]) (by kernel_rfl) (by kernel_rfl) rfl ?_
          intro K9 hK9
          go_simp
          refine (At.same_any n2.ats a8 c8 n.ats a6 c6 w3 hs8 (HS6.out.below hb3') HL2.out HL1.out).mono ?_
          rintro e w4 ⟨rfl, hb4⟩
          rw [hsm]
          have hb4' : Below X.heap.size X w4 := below_trans hb3' hb4
          have hS4 : (fun wx => wx.cell? ⟨w.heap.size, 0, none⟩ = some (.pointer (some ⟨Ls, 0, none⟩)) ∧ wx.cell? ⟨Ls, 0, none⟩ = some (.pointer (some ⟨R, 0, none⟩)) ∧ wx.cell? ⟨g6, 0, none⟩ = some (.string ⟨n.nm.toArray⟩) ∧ wx.cell? ⟨g7, 0, none⟩ = some (.slice a6 n.ats.length c6)) w4 := ⟨(hb4'.cell (p := ⟨w.heap.size, 0, none⟩) Q0.out.lt).trans e0, (hb4'.cell (p := ⟨Ls, 0, none⟩) (World.block_lt_of_cell? X _ l0X)).trans l0X, (hb4'.cell (p := ⟨g6, 0, none⟩) Q6.out.lt).trans e6, (hb4'.cell (p := ⟨g7, 0, none⟩) Q7.out.lt).trans e7⟩
          simp only
          refine hK9 _ _ hS4 ?_
          clear hK9
          try simp only [Act.put, List.setIfInBounds_toArray, List.set_cons_zero, List.set_cons_succ]
          refine takeH (i := 17) (v := ?_) (d := some 43) (listed' := #[true, true, true, true, true, true, true, true, true, true, true, true, true, true, true, true, true, true]) (by kernel_rfl) rfl rfl (by kernel_rfl) (by kernel_rfl) (by kernel_rfl) (fun _ _ _ h => h) (Or.inl ⟨by rfl, ?_⟩) hS4 ?_
          rotate_left
          · intro wq hSq
            obtain ⟨hq1, hq2, hq3, hq4⟩ := hSq
            go_simp
            try with_reducible rfl
          try simp only [Act.put, List.setIfInBounds_toArray, List.set_cons_zero, List.set_cons_succ]
          refine wpAnyH_done (by kernel_rfl) ?_ _
          have r1 := Q1.out.below hb4'
          have r2 := Q2.out.below hb4'
          have i1 := r1.cell 0
          have i2 := r2.cell 0
          have j1 := r1.fr 0
          have j2 := r2.fr 0
          have H4 := Lib.hid hb4'
          have R1 := Lib.hid r1
          have R2 := Lib.hid r2
          clear hb3 hb3' hb4 hb4' hs8 ho3 hS0 hS3 hS4 r1 r2
          gi_wp2
          exact ⟨Kr.of_below H4.out, HB.out.trans (H4.out.mono HB.out.size), Q0.out.below H4.out, by rw [flt_no HT.out]; exact R1.out, by rw [flt_no HT.out]; exact R2.out, Q6.out.below H4.out, Q7.out.below H4.out, by first | exact QR.out.below H4.out | (rw [← z2]; exact QR.out.below H4.out)⟩
      · have hnm' : (n2.nm == n.nm) = false := by simpa using hnm
        have HN := Lib.hid (show alk L n.nm n.ats (m2 : Int) = false by rw [HA.out, hnm']; rfl)
        gi_wp2
        refine region_round' (S := (fun wx => wx.cell? ⟨w.heap.size, 0, none⟩ = some (.pointer (some ⟨Ls, 0, none⟩)) ∧ wx.cell? ⟨Ls, 0, none⟩ = some (.pointer (some ⟨R, 0, none⟩)) ∧ wx.cell? ⟨g6, 0, none⟩ = some (.string ⟨n.nm.toArray⟩) ∧ wx.cell? ⟨g7, 0, none⟩ = some (.slice a6 n.ats.length c6))) (n := 18) (listed := #[false, false, false, false, false, false, false, false, false, false, false, false, false, false, false, false, false, false]) rfl (by kernel_rfl) mixed (by kernel_rfl) (fun h => by obtain ⟨_, _, h⟩ := h; exact h) ?_
        have hS0 : (fun wx => wx.cell? ⟨w.heap.size, 0, none⟩ = some (.pointer (some ⟨Ls, 0, none⟩)) ∧ wx.cell? ⟨Ls, 0, none⟩ = some (.pointer (some ⟨R, 0, none⟩)) ∧ wx.cell? ⟨g6, 0, none⟩ = some (.string ⟨n.nm.toArray⟩) ∧ wx.cell? ⟨g7, 0, none⟩ = some (.slice a6 n.ats.length c6)) X.drew := ⟨e0, l0X, e6, e7⟩
        refine takeH (i := 0) (v := ?_) (d := some 26) (listed' := #[true, false, false, false, false, false, false, false, false, false, false, false, false, false, false, false, false, false]) (by kernel_rfl) rfl rfl (by kernel_rfl) (by kernel_rfl) (by kernel_rfl) (fun _ _ _ h => h) (Or.inl ⟨by rfl, ?_⟩) hS0 ?_
        rotate_left
        · intro wq hSq
          obtain ⟨hq1, hq2, hq3, hq4⟩ := hSq
          go_simp
          try with_reducible rfl
        try simp only [Act.put, List.setIfInBounds_toArray, List.set_cons_zero, List.set_cons_succ]
        refine takeH (i := 1) (v := ?_) (d := some 27) (listed' := #[true, true, false, false, false, false, false, false, false, false, false, false, false, false, false, false, false, false]) (by kernel_rfl) rfl rfl (by kernel_rfl) (by kernel_rfl) (by kernel_rfl) (fun _ _ _ h => h) (Or.inl ⟨by rfl, ?_⟩) hS0 ?_
        rotate_left
        · intro wq hSq
          obtain ⟨hq1, hq2, hq3, hq4⟩ := hSq
          go_simp
          try with_reducible rfl
        try simp only [Act.put, List.setIfInBounds_toArray, List.set_cons_zero, List.set_cons_succ]
        refine takeH (i := 2) (v := ?_) (d := some 28) (listed' := #[true, true, true, false, false, false, false, false, false, false, false, false, false, false, false, false, false, false]) (by kernel_rfl) rfl rfl (by kernel_rfl) (by kernel_rfl) (by kernel_rfl) (fun _ _ _ h => h) (Or.inl ⟨by rfl, ?_⟩) hS0 ?_
        rotate_left
        · intro wq hSq
          obtain ⟨hq1, hq2, hq3, hq4⟩ := hSq
          go_simp
          try with_reducible rfl
        try simp only [Act.put, List.setIfInBounds_toArray, List.set_cons_zero, List.set_cons_succ]
        refine takeH (i := 3) (v := ?_) (d := some 29) (listed' := #[true, true, true, true, false, false, false, false, false, false, false, false, false, false, false, false, false, false]) (by kernel_rfl) rfl rfl (by kernel_rfl) (by kernel_rfl) (by kernel_rfl) (fun _ _ _ h => h) (Or.inl ⟨by rfl, ?_⟩) hS0 ?_
        rotate_left
        · intro wq hSq
          obtain ⟨hq1, hq2, hq3, hq4⟩ := hSq
          go_simp
          try with_reducible rfl
        try simp only [Act.put, List.setIfInBounds_toArray, List.set_cons_zero, List.set_cons_succ]
        refine takeH (i := 4) (v := ?_) (d := some 30) (listed' := #[true, true, true, true, true, false, false, false, false, false, false, false, false, false, false, false, false, false]) (by kernel_rfl) rfl rfl (by kernel_rfl) (by kernel_rfl) (by kernel_rfl) (fun _ _ _ h => h) (Or.inl ⟨by rfl, ?_⟩) hS0 ?_
        rotate_left
        · intro wq hSq
          obtain ⟨hq1, hq2, hq3, hq4⟩ := hSq
          go_simp
          try with_reducible rfl
        try simp only [Act.put, List.setIfInBounds_toArray, List.set_cons_zero, List.set_cons_succ]
        refine takeH (i := 6) (v := ?_) (d := some 32) (listed' := #[true, true, true, true, true, false, true, false, false, false, false, false, false, false, false, false, false, false]) (by kernel_rfl) rfl rfl (by kernel_rfl) (by kernel_rfl) (by kernel_rfl) (fun _ _ _ h => h) (Or.inl ⟨by rfl, ?_⟩) hS0 ?_
        rotate_left
        · intro wq hSq
          obtain ⟨hq1, hq2, hq3, hq4⟩ := hSq
          go_simp
          try with_reducible rfl
        try simp only [Act.put, List.setIfInBounds_toArray, List.set_cons_zero, List.set_cons_succ]
        refine held_one (i := 5) (listed' := #[true, true, true, true, true, true, true, false, false, false, false, false, false, false, false, false, false, false]) (by kernel_rfl) (by kernel_rfl) rfl ?_
        intro K9 hK9
        go_simp
        refine cNX.mono ?_
        rintro e w' ⟨rfl, rfl⟩
        simp only
        refine hK9 _ _ hS0 ?_
        clear hK9
        try simp only [Act.put, List.setIfInBounds_toArray, List.set_cons_zero, List.set_cons_succ]
        refine takeH (i := 7) (v := ?_) (d := some 33) (listed' := #[true, true, true, true, true, true, true, true, false, false, false, false, false, false, false, false, false, false]) (by kernel_rfl) rfl rfl (by kernel_rfl) (by kernel_rfl) (by kernel_rfl) (fun _ _ _ h => h) (Or.inl ⟨by rfl, ?_⟩) hS0 ?_
        rotate_left
        · intro wq hSq
          obtain ⟨hq1, hq2, hq3, hq4⟩ := hSq
          go_simp
          try with_reducible rfl
        try simp only [Act.put, List.setIfInBounds_toArray, List.set_cons_zero, List.set_cons_succ]
        refine takeH (i := 8) (v := ?_) (d := some 34) (listed' := #[true, true, true, true, true, true, true, true, true, false, false, false, false, false, false, false, false, false]) (by kernel_rfl) rfl rfl (by kernel_rfl) (by kernel_rfl) (by kernel_rfl) (fun _ _ _ h => h) (Or.inl ⟨by rfl, ?_⟩) hS0 ?_
        rotate_left
        · intro wq hSq
          obtain ⟨hq1, hq2, hq3, hq4⟩ := hSq
          go_simp
          try with_reducible rfl
        try simp only [Act.put, List.setIfInBounds_toArray, List.set_cons_zero, List.set_cons_succ]
        refine takeH (i := 9) (v := undef) (d := some 35) (listed' := #[true, true, true, true, true, true, true, true, true, true, false, false, false, false, false, false, false, false]) (by kernel_rfl) rfl rfl (by kernel_rfl) (by kernel_rfl) (by kernel_rfl) (fun _ _ _ h => h) (Or.inr ⟨by kernel_rfl, rfl⟩) hS0 ?_
        try simp only [Act.put, List.setIfInBounds_toArray, List.set_cons_zero, List.set_cons_succ]
        refine takeH (i := 10) (v := undef) (d := some 36) (listed' := #[true, true, true, true, true, true, true, true, true, true, true, false, false, false, false, false, false, false]) (by kernel_rfl) rfl rfl (by kernel_rfl) (by kernel_rfl) (by kernel_rfl) (fun _ _ _ h => h) (Or.inr ⟨by kernel_rfl, rfl⟩) hS0 ?_
        try simp only [Act.put, List.setIfInBounds_toArray, List.set_cons_zero, List.set_cons_succ]
        refine takeH (i := 11) (v := undef) (d := some 37) (listed' := #[true, true, true, true, true, true, true, true, true, true, true, true, false, false, false, false, false, false]) (by kernel_rfl) rfl rfl (by kernel_rfl) (by kernel_rfl) (by kernel_rfl) (fun _ _ _ h => h) (Or.inr ⟨by kernel_rfl, rfl⟩) hS0 ?_
        try simp only [Act.put, List.setIfInBounds_toArray, List.set_cons_zero, List.set_cons_succ]
        refine takeH (i := 12) (v := undef) (d := some 38) (listed' := #[true, true, true, true, true, true, true, true, true, true, true, true, true, false, false, false, false, false]) (by kernel_rfl) rfl rfl (by kernel_rfl) (by kernel_rfl) (by kernel_rfl) (fun _ _ _ h => h) (Or.inr ⟨by kernel_rfl, rfl⟩) hS0 ?_
        try simp only [Act.put, List.setIfInBounds_toArray, List.set_cons_zero, List.set_cons_succ]
        refine takeH (i := 13) (v := undef) (d := some 39) (listed' := #[true, true, true, true, true, true, true, true, true, true, true, true, true, true, false, false, false, false]) (by kernel_rfl) rfl rfl (by kernel_rfl) (by kernel_rfl) (by kernel_rfl) (fun _ _ _ h => h) (Or.inr ⟨by kernel_rfl, rfl⟩) hS0 ?_
        try simp only [Act.put, List.setIfInBounds_toArray, List.set_cons_zero, List.set_cons_succ]
        refine takeH (i := 14) (v := undef) (d := some 40) (listed' := #[true, true, true, true, true, true, true, true, true, true, true, true, true, true, true, false, false, false]) (by kernel_rfl) rfl rfl (by kernel_rfl) (by kernel_rfl) (by kernel_rfl) (fun _ _ _ h => h) (Or.inr ⟨by kernel_rfl, rfl⟩) hS0 ?_
        try simp only [Act.put, List.setIfInBounds_toArray, List.set_cons_zero, List.set_cons_succ]
        refine takeH (i := 15) (v := undef) (d := some 41) (listed' := #[true, true, true, true, true, true, true, true, true, true, true, true, true, true, true, true, false, false]) (by kernel_rfl) rfl rfl (by kernel_rfl) (by kernel_rfl) (by kernel_rfl) (fun _ _ _ h => h) (Or.inr ⟨by kernel_rfl, rfl⟩) hS0 ?_
        try simp only [Act.put, List.setIfInBounds_toArray, List.set_cons_zero, List.set_cons_succ]
        refine takeH (i := 16) (v := undef) (d := some 42) (listed' := #[true, true, true, true, true, true, true, true, true, true, true, true, true, true, true, true, true, false]) (by kernel_rfl) rfl rfl (by kernel_rfl) (by kernel_rfl) (by kernel_rfl) (fun _ _ _ h => h) (Or.inr ⟨by kernel_rfl, rfl⟩) hS0 ?_
        try simp only [Act.put, List.setIfInBounds_toArray, List.set_cons_zero, List.set_cons_succ]
        refine takeH (i := 17) (v := ?_) (d := some 43) (listed' := #[true, true, true, true, true, true, true, true, true, true, true, true, true, true, true, true, true, true]) (by kernel_rfl) rfl rfl (by kernel_rfl) (by kernel_rfl) (by kernel_rfl) (fun _ _ _ h => h) (Or.inl ⟨by rfl, ?_⟩) hS0 ?_
        rotate_left
        · intro wq hSq
          obtain ⟨hq1, hq2, hq3, hq4⟩ := hSq
          go_simp
          try with_reducible rfl
        try simp only [Act.put, List.setIfInBounds_toArray, List.set_cons_zero, List.set_cons_succ]
        refine wpAnyH_done (by kernel_rfl) ?_ _
        gi_wp2
        exact ⟨Kr.drew _ _ X, HB.out.trans ((below_drew X).mono HB.out.size), Q0.out.below (below_drew X), by rw [flt_no HN.out]; exact Q1.out.below (below_drew X), by rw [flt_no HN.out]; exact Q2.out.below (below_drew X), Q6.out.below (below_drew X), Q7.out.below (below_drew X), by first | exact QR.out.below (below_drew X) | (rw [← z2]; exact QR.out.below (below_drew X))⟩
    case done =>
      rintro D X hD ⟨hb, q0, q1, q2, q6, q7, qr⟩ hK
      have e1 := q1.cell 0
      have e2 := q2.cell 0
      have s1 := q1.fr 0
      have s2 := q2.fr 0
      gi_wp2
      refine wpIn_wide.2 (wp_region_noPanic ?_)
      go_region
      all_goals (refine NoPanic.normal ?_)
      gi_wp2
      have hK' : (((X.setCell ⟨w.heap.size + 1, 0, none⟩ (.int .i64 ((flt L n.nm n.ats (bb E.reverse)).length : Int))).setCell ⟨w.heap.size + 1 + 1, 0, none⟩ (.int .i64 (fst (flt L n.nm n.ats (bb E.reverse))))).drew).heap[D]? = some (.deferred (some [])) :=
        (Below.heap_setCell _ _ _ _ (by show D ≠ w.heap.size + 1 + 1; omega)).trans ((Below.heap_setCell _ _ _ _ (by show D ≠ w.heap.size + 1; omega)).trans hK)
      refine ⟨by simp, .inl ⟨_, _, rfl, run_takeDeferred hK', ?_⟩⟩
      have cc1 := (((q1.set 0 (.int .i64 ((flt L n.nm n.ats (bb E.reverse)).length : Int))).other (show w.heap.size + 1 ≠ w.heap.size + 1 + 1 by omega) 0 (.int .i64 (fst (flt L n.nm n.ats (bb E.reverse))))).put (show w.heap.size + 1 ≠ D by omega) (.deferred none)).cell 0
      have cc2 := (((q2.other (show w.heap.size + 2 ≠ w.heap.size + 1 by omega) 0 (.int .i64 ((flt L n.nm n.ats (bb E.reverse)).length : Int))).set 0 (.int .i64 (fst (flt L n.nm n.ats (bb E.reverse))))).put (show w.heap.size + 2 ≠ D by omega) (.deferred none)).cell 0
      have hbd : Below w.heap.size w (((X.setCell ⟨w.heap.size + 1, 0, none⟩ (.int .i64 ((flt L n.nm n.ats (bb E.reverse)).length : Int))).setCell ⟨w.heap.size + 1 + 1, 0, none⟩ (.int .i64 (fst (flt L n.nm n.ats (bb E.reverse))))).drew) :=
        bd (below_set (below_set hb (by omega) _ _) (by omega) _ _)
      have hz := below_put (n := w.heap.size) _ D (.deferred none) (by omega) (Array.getElem?_eq_some_iff.1 hK').1
      have hfin := hbd.trans hz
      obtain ⟨V, hV⟩ : ∃ V, (((X.setCell ⟨w.heap.size + 1, 0, none⟩ (.int .i64 ((flt L n.nm n.ats (bb E.reverse)).length : Int))).setCell ⟨w.heap.size + 1 + 1, 0, none⟩ (.int .i64 (fst (flt L n.nm n.ats (bb E.reverse))))).drew) = V := ⟨_, rfl⟩
      have cc1' : (V.putObj D (.deferred none)).cell? ⟨w.heap.size + 1, 0, none⟩ = some (.int .i64 ((flt L n.nm n.ats (bb E.reverse)).length : Int)) := by rw [← hV]; exact cc1
      have cc2' : (V.putObj D (.deferred none)).cell? ⟨w.heap.size + 1 + 1, 0, none⟩ = some (.int .i64 (fst (flt L n.nm n.ats (bb E.reverse)))) := by rw [← hV]; exact cc2
      rw [hV] at hfin ⊢
      obtain ⟨Z, hZ⟩ : ∃ Z, V.putObj D (.deferred none) = Z := ⟨_, rfl⟩
      rw [hZ] at hfin cc1' cc2' ⊢
      exact ⟨_, by simp [results, Try.f32, go_sem, cc1', cc2'] <;> rfl, rfl, hfin⟩
    case stop =>
      rintro D c pre X hD hpre h hK
      exact h.elim
  refine wpIn_wide.2 ?_
  go_region_held3 (fun wx => wx.cell? ⟨w.heap.size, 0, none⟩ = some (.pointer (some ⟨Ls, 0, none⟩)) ∧ wx.cell? ⟨Ls, 0, none⟩ = some (.pointer (some ⟨R, 0, none⟩)))
    (exact sk _ (by repeat (first | with_reducible exact Below.refl _ _ | with_reducible assumption | with_reducible refine ba ?_ (Nat.le_refl _) _ | with_reducible refine bd ?_ | with_reducible refine bs (by omega) ?_)))
    (first
      | (go_at_call 39; (with_reducible refine (cN _ (by repeat (first | with_reducible exact Below.refl _ _ | with_reducible assumption | with_reducible refine ba ?_ (Nat.le_refl _) _ | with_reducible refine bd ?_ | with_reducible refine bs (by omega) ?_))).mono ?_); rintro e w3 ⟨rfl, rfl⟩)
      | (go_at_call 41; (with_reducible refine (cA _ (by repeat (first | with_reducible exact Below.refl _ _ | with_reducible assumption | with_reducible refine ba ?_ (Nat.le_refl _) _ | with_reducible refine bd ?_ | with_reducible refine bs (by omega) ?_))).mono ?_); rintro e w3 ⟨va, rfl, ho, hb3⟩; obtain ⟨a6, c6, rfl, hs6⟩ := At.sl_own ho; have f0 : Below W.heap.size W w3 := bt hb3 (by repeat (first | with_reducible exact Below.refl _ _ | with_reducible assumption | with_reducible refine ba ?_ (Nat.le_refl _) _ | with_reducible refine bd ?_ | with_reducible refine bs (by omega) ?_)); have rw6 : Rw W.heap.size 72 2 (.slice a6 n.ats.length c6) n.ats.length (cellsA n.ats) w3 := rwb ho hb3 (by repeat (first | with_reducible exact Below.refl _ _ | with_reducible assumption | with_reducible refine ba ?_ (Nat.le_refl _) _ | with_reducible refine bd ?_ | with_reducible refine bs (by omega) ?_)); have zf := f0.size; (try (refine cutg (p := Bx (w.heap.size + 3) #[.string ⟨#[]⟩] 9 w3) ?_ ?_; (focus (refine Bx.below ?_ hb3; (repeat (first | with_reducible assumption | ((with_reducible refine bx_at _ _ _ _ ?_); (try simp only [World.size_alloc]); omega) | with_reducible refine bx_more ?_ _ | with_reducible refine bx_drew ?_)))); intro g39; have q39 : w3.cell? ⟨w.heap.size + 3, 0, none⟩ = some (.string ⟨#[]⟩) := g39.cell 0; have p39 := g39.fr 0; have r39 : ∀ o, (w3.alloc o).cell? ⟨w.heap.size + 3, 0, none⟩ = some (.string ⟨#[]⟩) := fun o => (bx_more g39 o).cell 0; have o39 : ∀ o, (w3.alloc o).frozen? ⟨w.heap.size + 3, 0, none⟩ = false := fun o => (bx_more g39 o).fr 0; have t39 : ∀ u, (w3.setCell ⟨w.heap.size + 3 + 1, 0, none⟩ u).cell? ⟨w.heap.size + 3, 0, none⟩ = some (.string ⟨#[]⟩) := fun u => (g39.other (by omega) 0 u).cell 0; have s39 : ∀ u, (w3.setCell ⟨w.heap.size + 3 + 1, 0, none⟩ u).frozen? ⟨w.heap.size + 3, 0, none⟩ = false := fun u => (g39.other (by omega) 0 u).fr 0; have zl := g39.lt; have v39 : ∀ u, ((w3.alloc (.cells #[.slice none 0 0] 41)).setCell ⟨w.heap.size + 3, 0, none⟩ u).cell? ⟨w3.heap.size, 0, none⟩ = some (.slice none 0 0) := fun u => ((bx_new w3 #[.slice none 0 0] 41).other (by omega) 0 u).cell 0; have y39 : ∀ u, ((w3.alloc (.cells #[.slice none 0 0] 41)).setCell ⟨w.heap.size + 3, 0, none⟩ u).frozen? ⟨w3.heap.size, 0, none⟩ = false := fun u => ((bx_new w3 #[.slice none 0 0] 41).other (by omega) 0 u).fr 0)); (try (refine cutg (p := Bx (w.heap.size + 3) #[.slice none 0 0] 41 w3) ?_ ?_; (focus (refine Bx.below ?_ hb3; (repeat (first | with_reducible assumption | ((with_reducible refine bx_at _ _ _ _ ?_); (try simp only [World.size_alloc]); omega) | with_reducible refine bx_more ?_ _ | with_reducible refine bx_drew ?_)))); intro g34; have q34 : w3.cell? ⟨w.heap.size + 3, 0, none⟩ = some (.slice none 0 0) := g34.cell 0; have p34 := g34.fr 0; have r34 : ∀ o, (w3.alloc o).cell? ⟨w.heap.size + 3, 0, none⟩ = some (.slice none 0 0) := fun o => (bx_more g34 o).cell 0; have o34 : ∀ o, (w3.alloc o).frozen? ⟨w.heap.size + 3, 0, none⟩ = false := fun o => (bx_more g34 o).fr 0; have t34 : ∀ u, (w3.setCell ⟨w.heap.size + 3 + 1, 0, none⟩ u).cell? ⟨w.heap.size + 3, 0, none⟩ = some (.slice none 0 0) := fun u => (g34.other (by omega) 0 u).cell 0; have s34 : ∀ u, (w3.setCell ⟨w.heap.size + 3 + 1, 0, none⟩ u).frozen? ⟨w.heap.size + 3, 0, none⟩ = false := fun u => (g34.other (by omega) 0 u).fr 0; have zl := g34.lt; have v34 : ∀ u, ((w3.alloc (.cells #[.slice none 0 0] 41)).setCell ⟨w.heap.size + 3, 0, none⟩ u).cell? ⟨w3.heap.size, 0, none⟩ = some (.slice none 0 0) := fun u => ((bx_new w3 #[.slice none 0 0] 41).other (by omega) 0 u).cell 0; have y34 : ∀ u, ((w3.alloc (.cells #[.slice none 0 0] 41)).setCell ⟨w.heap.size + 3, 0, none⟩ u).frozen? ⟨w3.heap.size, 0, none⟩ = false := fun u => ((bx_new w3 #[.slice none 0 0] 41).other (by omega) 0 u).fr 0)); (try (refine cutg (p := Bx (w.heap.size + 3 + 1) #[.string ⟨#[]⟩] 9 w3) ?_ ?_; (focus (refine Bx.below ?_ hb3; (repeat (first | with_reducible assumption | ((with_reducible refine bx_at _ _ _ _ ?_); (try simp only [World.size_alloc]); omega) | with_reducible refine bx_more ?_ _ | with_reducible refine bx_drew ?_)))); intro g49; have q49 : w3.cell? ⟨w.heap.size + 3 + 1, 0, none⟩ = some (.string ⟨#[]⟩) := g49.cell 0; have p49 := g49.fr 0; have r49 : ∀ o, (w3.alloc o).cell? ⟨w.heap.size + 3 + 1, 0, none⟩ = some (.string ⟨#[]⟩) := fun o => (bx_more g49 o).cell 0; have o49 : ∀ o, (w3.alloc o).frozen? ⟨w.heap.size + 3 + 1, 0, none⟩ = false := fun o => (bx_more g49 o).fr 0; have t49 : ∀ u, (w3.setCell ⟨w.heap.size + 3, 0, none⟩ u).cell? ⟨w.heap.size + 3 + 1, 0, none⟩ = some (.string ⟨#[]⟩) := fun u => (g49.other (by omega) 0 u).cell 0; have s49 : ∀ u, (w3.setCell ⟨w.heap.size + 3, 0, none⟩ u).frozen? ⟨w.heap.size + 3 + 1, 0, none⟩ = false := fun u => (g49.other (by omega) 0 u).fr 0; have zl := g49.lt; have v49 : ∀ u, ((w3.alloc (.cells #[.slice none 0 0] 41)).setCell ⟨w.heap.size + 3 + 1, 0, none⟩ u).cell? ⟨w3.heap.size, 0, none⟩ = some (.slice none 0 0) := fun u => ((bx_new w3 #[.slice none 0 0] 41).other (by omega) 0 u).cell 0; have y49 : ∀ u, ((w3.alloc (.cells #[.slice none 0 0] 41)).setCell ⟨w.heap.size + 3 + 1, 0, none⟩ u).frozen? ⟨w3.heap.size, 0, none⟩ = false := fun u => ((bx_new w3 #[.slice none 0 0] 41).other (by omega) 0 u).fr 0)); (try (refine cutg (p := Bx (w.heap.size + 3 + 1) #[.slice none 0 0] 41 w3) ?_ ?_; (focus (refine Bx.below ?_ hb3; (repeat (first | with_reducible assumption | ((with_reducible refine bx_at _ _ _ _ ?_); (try simp only [World.size_alloc]); omega) | with_reducible refine bx_more ?_ _ | with_reducible refine bx_drew ?_)))); intro g44; have q44 : w3.cell? ⟨w.heap.size + 3 + 1, 0, none⟩ = some (.slice none 0 0) := g44.cell 0; have p44 := g44.fr 0; have r44 : ∀ o, (w3.alloc o).cell? ⟨w.heap.size + 3 + 1, 0, none⟩ = some (.slice none 0 0) := fun o => (bx_more g44 o).cell 0; have o44 : ∀ o, (w3.alloc o).frozen? ⟨w.heap.size + 3 + 1, 0, none⟩ = false := fun o => (bx_more g44 o).fr 0; have t44 : ∀ u, (w3.setCell ⟨w.heap.size + 3, 0, none⟩ u).cell? ⟨w.heap.size + 3 + 1, 0, none⟩ = some (.slice none 0 0) := fun u => (g44.other (by omega) 0 u).cell 0; have s44 : ∀ u, (w3.setCell ⟨w.heap.size + 3, 0, none⟩ u).frozen? ⟨w.heap.size + 3 + 1, 0, none⟩ = false := fun u => (g44.other (by omega) 0 u).fr 0; have zl := g44.lt; have v44 : ∀ u, ((w3.alloc (.cells #[.slice none 0 0] 41)).setCell ⟨w.heap.size + 3 + 1, 0, none⟩ u).cell? ⟨w3.heap.size, 0, none⟩ = some (.slice none 0 0) := fun u => ((bx_new w3 #[.slice none 0 0] 41).other (by omega) 0 u).cell 0; have y44 : ∀ u, ((w3.alloc (.cells #[.slice none 0 0] 41)).setCell ⟨w.heap.size + 3 + 1, 0, none⟩ u).frozen? ⟨w3.heap.size, 0, none⟩ = false := fun u => ((bx_new w3 #[.slice none 0 0] 41).other (by omega) 0 u).fr 0))))
  all_goals first
    | exact rest w3.heap.size (w3.heap.size + 1) a6 c6 _ (ba (ba f0 (Nat.le_refl _) _) (Nat.le_refl _) _) zf (by omega) (bx_more (bx_new w3 _ 9) _) (bx_at _ _ _ _ (by simp)) ((rw6.below (At.below_alloc _)).below (At.below_alloc _))
    | exact rest (w3.heap.size + 1) w3.heap.size a6 c6 _ (ba (ba f0 (Nat.le_refl _) _) (Nat.le_refl _) _) (by omega) zf (bx_at _ _ _ _ (by simp)) (bx_more (bx_new w3 _ 41) _) ((rw6.below (At.below_alloc _)).below (At.below_alloc _))
    | exact rest (w.heap.size + 3) w3.heap.size a6 c6 _ (ba (bs (by omega) f0) (Nat.le_refl _) _) (by omega) zf (bx_more (bx_set1 g39) _) (bx_at _ _ _ _ (by rw [World.size_setCell])) ((rw_set rw6 g39 (by decide) _).below (At.below_alloc _))
    | exact rest w3.heap.size (w.heap.size + 3) a6 c6 _ (ba (bs (by omega) f0) (Nat.le_refl _) _) zf (by omega) (bx_at _ _ _ _ (by rw [World.size_setCell])) (bx_more (bx_set1 g34) _) ((rw_set rw6 g34 (by decide) _).below (At.below_alloc _))
    | exact rest (w.heap.size + 3) (w.heap.size + 3 + 1) a6 c6 _ (bs (by omega) (bs (by omega) f0)) (by omega) (by omega) ((bx_set1 g39).other (by omega) _ _) (bx_set1 (g44.other (by omega) _ _)) (rw_set (rw_set rw6 g39 (by decide) _) (g44.other (by omega) _ _) (by decide) _)
    | exact rest (w.heap.size + 3 + 1) (w.heap.size + 3) a6 c6 _ (bs (by omega) (bs (by omega) f0)) (by omega) (by omega) ((bx_set1 g49).other (by omega) _ _) (bx_set1 (g34.other (by omega) _ _)) (rw_set (rw_set rw6 g49 (by decide) _) (g34.other (by omega) _ _) (by decide) _)
end Go.Proofs.Ytnnidajflnandaa
