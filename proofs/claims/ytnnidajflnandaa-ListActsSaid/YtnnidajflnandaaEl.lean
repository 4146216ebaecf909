/- The arena's Element and Append, walked. -/
import Derived.Test.YtnnidajflnandaaGet
namespace Go.Proofs.Ytnnidajflnandaa
open Go.RowKit Go.Lib
open At (Str cellsA cellsA_len Sl)

theorem info76 : ∃ j, Try.prog.info? 63 = some j ∧ (j.zero, j.size, j.bytes) = (some (.agg #[.string ByteArray.empty, .slice none 0 0, .int .i64 0, .slice none 0 0]), 4, 72) :=
  Option.map_eq_some_iff.1 (by kernel_rfl : (Try.prog.info? 63).map (fun i => (i.zero, i.size, i.bytes)) = some (some (.agg #[.string ByteArray.empty, .slice none 0 0, .int .i64 0, .slice none 0 0]), 4, 72))

variable {B R cp : Nat} {L : List QN} {vn : Value} {w : World}

/-- one node more -/
theorem app_elem (h : AR B w R L cp vn) (nm : List UInt8) (ats : List At.At) (a : Option Addr) (c : Nat) (ho : Rw B 72 2 (.slice a ats.length c) ats.length (cellsA ats) w) (hl : L.length + 1 ≤ 8000000) :
    ∃ a' c' w3, (Builtin.append_ #[64, 64] 64 #[vn, .slice (some ⟨w.heap.size, 0, none⟩) 1 1]).run Try.prog (w.alloc (.cells #[.string ⟨nm.toArray⟩, .slice a ats.length c, .int .i64 (-1), .slice none 0 0] 63)) = .ok (.slice a' (L.length + 1) c') w3 ∧
      w3.cell? ⟨R, 0, none⟩ = some vn ∧ w3.frozen? ⟨R, 0, none⟩ = false ∧
      AR B (w3.setCell ⟨R, 0, none⟩ (.slice a' (L.length + 1) c')) R (L ++ [⟨nm, ats, .slice a ats.length c, -1, [], .slice none 0 0⟩]) cp (.slice a' (L.length + 1) c') ∧ Chg B w (w3.setCell ⟨R, 0, none⟩ (.slice a' (L.length + 1) c')) := by
  have hBw : B ≤ w.heap.size := Nat.le_trans h.hB (Nat.le_of_lt h.lt)
  obtain ⟨o, hoo⟩ : ∃ o, Obj.cells #[.string ⟨nm.toArray⟩, .slice a ats.length c, .int .i64 (-1), .slice none 0 0] 63 = o := ⟨_, rfl⟩
  have hA : Below w.heap.size w (w.alloc o) := At.below_alloc _
  have hA1 := h.below hA
  obtain ⟨i, hi, hp⟩ := info76
  simp only [Prod.mk.injEq] at hp
  obtain ⟨hz, hsz, hby⟩ := hp
  have hsrc : Src Try.prog 4 64 (.slice (some ⟨w.heap.size, 0, none⟩) 1 1) 1 (nc ⟨nm, ats, .slice a ats.length c, -1, [], .slice none 0 0⟩) (w.alloc o) := by
    rw [← hoo]
    refine Src.ofSlice (P := Try.prog) _ (tx := 64) (e' := 63) Try.underlying64 ⟨w.heap.size, 0, none⟩ 1 1 _ rfl (fun j u hj => ?_) (fun u hu => ?_)
    · rw [At.add_lit, Nat.zero_add, cell_of_heap (heap_alloc_new w _) j, List.getElem?_toArray]
      exact hj
    · simp only [nc, List.mem_cons, List.not_mem_nil, or_false] at hu
      rcases hu with rfl | rfl | rfl | rfl <;> rfl
  obtain ⟨v', w3, hr, h1, h2, h3, -⟩ := hA1.nodes.append (P := Try.prog) 64 64 i _ 72 Try.underlying64 hi hz hsz hby rfl (.slice (some ⟨w.heap.size, 0, none⟩) 1 1) 1 _ hsrc (by unfold maxLen; omega) (by omega) (by rw [← hoo]; simp; omega)
  obtain ⟨a', c', rfl, -⟩ := h1.slice
  have hRne : some R ≠ vn.ownBlock := hA1.nodes.type_ne hA1.ty (by decide)
  have hR3 := h2.block R hA1.lt hRne
  have hblk3 : w3.heap[R]? = some (.cells #[vn, .int .i64 (cp : Int)] 66 (0, 0)) := hR3.trans hA1.blk
  have hset : ∀ q, q ≠ R → (w3.setCell ⟨R, 0, none⟩ (.slice a' (L.length + 1) c')).heap[q]? = w3.heap[q]? := fun q hq => Below.heap_setCell _ _ _ _ hq
  have hTR3 : Ty w3 R 66 := ⟨_, _, hblk3⟩
  have step : ∀ {e kk m : Nat} {v : Value} {xs : List Value}, Rw B e kk v m xs w3 → e ≠ 66 → Rw B e kk v m xs (w3.setCell ⟨R, 0, none⟩ (.slice a' (L.length + 1) c')) := by
    intro e kk m v xs hrw hne
    refine hrw.same fun q hq => hset q fun e' => ?_
    subst e'
    exact hrw.type_ne hTR3 hne hq.symm
  have stepw : ∀ {e kk m : Nat} {v : Value} {xs : List Value}, Rw B e kk v m xs w → e ≠ 66 → e ≠ 63 → Rw B e kk v m xs (w3.setCell ⟨R, 0, none⟩ (.slice a' (L.length + 1) c')) := by
    intro e kk m v xs hrw k1 k2
    exact step ((hrw.below hA).kept h2 ((hrw.below hA).types hA1.nodes k2)) k1
  rw [hoo]
  refine ⟨a', c', w3, hr, ?_, ?_, ⟨h.hB, ?_, ?_, ?_, ?_, ?_, ?_, ?_⟩, ?_⟩
  · rw [cell_of_heap hblk3]; rfl
  · exact frozen_of_heap hblk3 0
  · simp [World.setCell, Array.getElem?_modify, hblk3]
  · have hn : ncells (L ++ [⟨nm, ats, .slice a ats.length c, -1, [], .slice none 0 0⟩]) = ncells L ++ nc ⟨nm, ats, .slice a ats.length c, -1, [], .slice none 0 0⟩ := by
      unfold ncells
      rw [List.flatMap_append]
      simp
    rw [hn, List.length_append]
    exact step h1 (by decide)
  · intro n hn
    rcases List.mem_append.1 hn with hn | hn
    · exact stepw (h.attrs n hn) (by decide) (by decide)
    · simp only [List.mem_singleton] at hn
      subst hn
      exact stepw ho (by decide) (by decide)
  · intro n hn
    rcases List.mem_append.1 hn with hn | hn
    · exact stepw (h.inner n hn) (by decide) (by decide)
    · simp only [List.mem_singleton] at hn
      subst hn
      exact Rw.nil _ _ _ _
  · intro n hn p hp
    rcases List.mem_append.1 hn with hn | hn
    · exact stepw (h.texts n hn p hp) (by decide) (by decide)
    · simp only [List.mem_singleton] at hn
      subst hn
      cases hp
  · rw [List.map_append]
    refine List.pairwise_append.2 ⟨h.apI, by simp, fun u hu v hv => ?_⟩
    simp only [List.map_cons, List.map_nil, List.mem_singleton] at hv
    subst hv
    exact Apart.symm (Or.inl rfl)
  · have e : (L ++ [(⟨nm, ats, .slice a ats.length c, -1, [], .slice none 0 0⟩ : QN)]).flatMap (fun n => n.inn.map QP.vt) = L.flatMap fun n => n.inn.map QP.vt := by
      rw [List.flatMap_append]
      simp
    rw [e]
    exact h.apT
  · refine (Chg.of_below hBw hA).trans ⟨((Below.refl B _).grown h2 (by rw [← hoo]; simp; omega) (fun q hq => (hA1.nodes.lt q hq).1)).setCell h.hB _, fun q e hT k1 k2 k3 k4 => ?_⟩
    have hq1 : some q ≠ vn.ownBlock := hA1.nodes.type_ne hT (fun e' => k1 e'.symm)
    rw [hset q (fun e' => by subst e'; exact k4 (hT.uniq hA1.ty)), h2.block q hT.lt hq1]

/-- what Element answers -/
def ElemPost (B R cp : Nat) (L : List QN) (nm : List UInt8) (ats : List At.At) (w : World) (e : Ending) (w' : World) : Prop :=
  e = .returned (.int .i64 (L.length : Int)) ∧ ∃ sa vn', AR B w' R (L ++ [⟨nm, ats, sa, -1, [], .slice none 0 0⟩]) cp vn' ∧ Chg B w w'

set_option maxHeartbeats 4000000 in
set_option maxRecDepth 100000 in
theorem element_any (h : AR B w R L cp vn) (nm : List UInt8) (ats : List At.At) (a : Option Addr) (c : Nat) (hs : Sl ats a c w) (hl : L.length + 1 ≤ 8000000) (hal : ats.length ≤ 1000000) :
    Calls Try.prog 12 #[.pointer (some ⟨R, 0, none⟩), .string ⟨nm.toArray⟩, .slice a ats.length c] w (ElemPost B R cp L nm ats w) := by
  have hBw : B ≤ w.heap.size := Nat.le_trans h.hB (Nat.le_of_lt h.lt)
  have hd : Below w.heap.size w w.drew := ⟨rfl, rfl, rfl, Nat.le_refl _, fun _ _ => rfl⟩
  obtain ⟨av, cv, hvn, -⟩ := h.nodes.slice
  have cC := clone_any ats a c w.drew (hs.below hd) hal
  have main : ∀ (w2 : World) (v : Value), w2.ownsRow w.drew.heap.size 72 2 v ats.length (cellsA ats) → Below w.drew.heap.size w.drew w2 → ∃ a2 c2 a' c' w3, v = .slice a2 ats.length c2 ∧ w2.cell? ⟨R, 0, none⟩ = some vn ∧
      (Builtin.append_ #[64, 64] 64 #[vn, .slice (some ⟨w2.heap.size, 0, none⟩) 1 1]).run Try.prog (w2.alloc (.cells #[.string ⟨nm.toArray⟩, .slice a2 ats.length c2, .int .i64 (-1), .slice none 0 0] 63)) = .ok (.slice a' (L.length + 1) c') w3 ∧
      (w2.alloc (.cells #[.string ⟨nm.toArray⟩, .slice a2 ats.length c2, .int .i64 (-1), .slice none 0 0] 63)).cell? ⟨R, 0, none⟩ = some vn ∧
      w3.cell? ⟨R, 0, none⟩ = some vn ∧ w3.frozen? ⟨R, 0, none⟩ = false ∧ (w3.setCell ⟨R, 0, none⟩ (.slice a' (L.length + 1) c')).cell? ⟨R, 0, none⟩ = some (.slice a' (L.length + 1) c') ∧
      ElemPost B R cp L nm ats w (.returned (.int .i64 (L.length : Int))) (w3.setCell ⟨R, 0, none⟩ (.slice a' (L.length + 1) c')) := by
    intro w2 v ho hb2
    have h2 := (h.below hd).below hb2
    obtain ⟨a2, c2, rfl, -⟩ := At.sl_own ho
    obtain ⟨a', c', w3, e1, e2, e3, e4, e5⟩ := app_elem h2 nm ats a2 c2 ((Rw.of_own ho).base hBw) hl
    refine ⟨a2, c2, a', c', w3, rfl, h2.c0, e1, ?_, e2, e3, e4.c0, rfl, _, _, e4, ((Chg.of_below hBw hd).trans (Chg.of_below hBw hb2)).trans e5⟩
    exact (World.cell?_of_block (a := ⟨R, 0, none⟩) ((At.below_alloc (w := w2) _).block R h2.lt)).trans h2.c0
  have q0 : w.drew.cell? ⟨R, 0, none⟩ = some vn := h.c0
  have HM := Lib.hid main
  have HV := Lib.hid hvn
  rw [hvn] at q0
  have c0 := h.c0
  rw [hvn] at c0
  have hlb : L.length ≤ 8000000 := by omega
  clear main h hs hd hvn
  go_enter Try.func12, Try.ntmps12
  go_wp2_with fail
  go_region_law (first
    | (refine step_run rfl (.tmp 11) (.tmp 16) 64 64 rfl _ _ rfl rfl _ w3 HR.out ?_)
    | (go_simp; go_at_call 31; refine cC.mono ?_; rintro e w2 ⟨v, rfl, ho, hb2⟩; obtain ⟨a2, c2, a', c', w3, rfl, q1, hr, q2, q3, q4, q5, hpost⟩ := HM.out w2 v ho hb2; rw [HV.out] at hr q1 q2 q3; have HR := Lib.hid hr; have HP := Lib.hid hpost; clear hr hpost ho hb2; dsimp only))
  all_goals
    go_wp2
    go_ret
    exact HP.out
end Go.Proofs.Ytnnidajflnandaa
