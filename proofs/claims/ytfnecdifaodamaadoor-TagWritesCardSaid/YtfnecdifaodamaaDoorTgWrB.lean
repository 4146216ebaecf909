/- Slices of strings: one that came in, one of the call's own that grows; a written tag's front. -/
import Derived.Test.YtfnecdifaodamaaDoorTgWrA
namespace Go.Proofs.YtfnecdifaodamaaDoor.Tg
open Go.RowKit Go.Lib
open Ch (at0 nx at0_drop enc_len good enc_one)
open At (cellsA ads names)

variable {w w' : World}

theorem join_tw (a b : List UInt8) : (⟨a.toArray⟩ ++ ⟨b.toArray⟩ : ByteArray) = ⟨(a ++ b).toArray⟩ := by
  apply ByteArray.ext
  simp [ByteArray.data_append]

def strC (L : List (List UInt8)) : List Value := L.map fun s => .string ⟨s.toArray⟩
theorem strC_len (L : List (List UInt8)) : (strC L).length = L.length := List.length_map _
theorem strC_append (L M : List (List UInt8)) : strC (L ++ M) = strC L ++ strC M := List.map_append
def st0 (L : List (List UInt8)) (i : Nat) : List UInt8 := L.getD i []
theorem st0_get {L : List (List UInt8)} {i : Nat} (h : i < L.length) : L[i]? = some (st0 L i) := by
  unfold st0; rw [List.getD_eq_getElem?_getD, List.getElem?_eq_getElem h]; rfl
theorem st0_mem {L : List (List UInt8)} {i : Nat} (h : i < L.length) : st0 L i ∈ L := List.mem_of_getElem? (st0_get h)
theorem st0_take {L : List (List UInt8)} {i : Nat} (h : i < L.length) : L.take (i + 1) = L.take i ++ [st0 L i] := by
  rw [List.take_succ_eq_append_getElem h]
  have := st0_get h
  rw [List.getElem?_eq_getElem h] at this
  rw [Option.some.inj this]

/-- a slice of strings -/
def Ss (L : List (List UInt8)) (a : Option Addr) (cap : Nat) (w : World) : Prop :=
  L.length ≤ cap ∧ (L = [] ∨ ∃ b off, a = some ⟨b, off, none⟩ ∧ ∀ i, i < L.length → w.cell? ⟨b, off + i, none⟩ = some (.string ⟨(st0 L i).toArray⟩))
theorem Ss.below {L : List (List UInt8)} {a : Option Addr} {cap : Nat} (h : Ss L a cap w) (hb : Below w.heap.size w w') : Ss L a cap w' := by
  obtain ⟨h1, h2 | ⟨b, off, rfl, hc⟩⟩ := h
  · exact ⟨h1, Or.inl h2⟩
  · exact ⟨h1, Or.inr ⟨b, off, rfl, fun i hi => (hb.cell (Ch.cell_lt (hc i hi))).trans (hc i hi)⟩⟩

theorem ss_own {B : Nat} {v : Value} {L : List (List UInt8)} (h : w.ownsRow B 9 1 v L.length (strC L)) : ∃ a cap, v = .slice a L.length cap ∧ Ss L a cap w := by
  rcases h.2 with ⟨hv, h0⟩ | ⟨g, cap, cur, hv, hg, hh, hn, hm, hs, ht⟩
  · obtain rfl : L = [] := List.eq_nil_of_length_eq_zero h0
    exact ⟨none, 0, hv, Nat.le_refl _, Or.inl rfl⟩
  · refine ⟨_, cap, hv, hn, Or.inr ⟨g, 0, rfl, fun j hj => ?_⟩⟩
    have := h.cells (g := g) (by rw [hv]; rfl) j (.string ⟨(st0 L j).toArray⟩) (by unfold strC; rw [List.getElem?_map, st0_get hj]; rfl)
    rw [Ch.addr_add0] at this
    rw [Nat.zero_add, this]

theorem info9 : ∃ j, Tryd.prog.info? 9 = some j ∧ (j.zero, j.size, j.bytes) = (some (.string ⟨#[]⟩), 1, 16) :=
  Option.map_eq_some_iff.1 (by kernel_rfl : (Tryd.prog.info? 9).map (fun i => (i.zero, i.size, i.bytes)) = some (some (.string ⟨#[]⟩), 1, 16))

theorem app_str (w : World) (B : Nat) (v : Value) (L : List (List UInt8)) (x : List UInt8) (hown : w.ownsRow B 9 1 v L.length (strC L)) (hl : L.length ≤ 1000) (hB : B ≤ w.heap.size) :
    ∃ v' w', (Builtin.append_ #[45, 45] 45 #[v, .slice (some ⟨w.heap.size, 0, none⟩) 1 1]).run Tryd.prog (w.alloc (.cells #[.string ⟨x.toArray⟩] 9)) = .ok v' w' ∧ w'.ownsRow B 9 1 v' (L ++ [x]).length (strC (L ++ [x])) ∧ w.grownBy w' v.ownBlock := by
  obtain ⟨i, hi, hp⟩ := info9
  simp only [Prod.mk.injEq] at hp
  obtain ⟨hz, hsz, hby⟩ := hp
  obtain ⟨v', w', hr, h1, h2, -, -⟩ := run_append_own_at (P := Tryd.prog) (w.alloc (.cells #[.string ⟨x.toArray⟩] 9)) B 45 45 9 i _ 1 16 Tryd.underlying45 hi hz hsz hby rfl (by decide) v L.length (strC L) (hown.alloc _) ⟨w.heap.size, 0, none⟩ 1 1 [.string ⟨x.toArray⟩] rfl (cell_one_new w _ 9) (fun u hu => by simp at hu; subst hu; rfl) (by unfold maxLen; omega) (by omega) (by simp; omega)
  refine ⟨v', w', hr, ?_, (World.grownBy_alloc w _ v.ownBlock).trans h2⟩
  rw [strC_append, List.length_append]
  exact h1

theorem wrL_snoc (s : Bool) (v : List UInt8) : ∀ (vs : List (List UInt8)) (i : Nat), wrL s i (vs ++ [v]) = wrL s i vs ++ wrA s (i + vs.length) v
  | [], i => by simp [wrL]
  | u :: r, i => by
    show wrA s i u ++ wrL s (i + 1) (r ++ [v]) = (wrA s i u ++ wrL s (i + 1) r) ++ _
    rw [wrL_snoc s v r (i + 1), List.append_assoc]
    congr 3
    simp
    omega

/-- the tag's front: its name, and so many attributes -/
def frn (e s : Bool) (n : List UInt8) (vs : List (List UInt8)) : List UInt8 := (if e then [60, 47] else [60]) ++ n ++ wrL s 0 vs
theorem frn_nil (e s : Bool) (n : List UInt8) : frn e s n [] = (if e then [60, 47] else [60]) ++ n := by unfold frn; simp [wrL]
theorem frn_end (e s : Bool) (n : List UInt8) (vs : List (List UInt8)) : frn e s n vs ++ [32, 47, 62] = wrT e s n vs := rfl
theorem frn_snoc (e s : Bool) (n : List UInt8) (vs : List (List UInt8)) (k : Nat) (hk : k < vs.length) : frn e s n (vs.take (k + 1)) = frn e s n (vs.take k) ++ ([32, 120, (97 + k).toUInt8, 32, 61, 32, qB s] ++ wrV s (st0 vs k) ++ [qB s]) := by
  unfold frn
  rw [st0_take hk, wrL_snoc]
  have : 0 + (vs.take k).length = k := by simp; omega
  rw [this]
  unfold wrA
  simp
theorem nm_len : ∀ (vs : List (List UInt8)) (i : Nat), (nmL' i vs).length = vs.length
  | [], _ => rfl
  | v :: r, i => by simp [nmL', nm_len r (i + 1)]
theorem nm_at : ∀ (vs : List (List UInt8)) (i k : Nat), k < vs.length → At.at0 (nmL' i vs) k = ([120, (97 + (i + k)).toUInt8], st0 vs k)
  | [], _, _, h => by simp at h
  | v :: r, i, 0, _ => rfl
  | v :: r, i, k + 1, h => by
    have := nm_at r (i + 1) k (by simp at h; omega)
    show At.at0 (nmL' (i + 1) r) k = _
    rw [this, show i + 1 + k = i + (k + 1) by omega]
    rfl
theorem wrV_len (s : Bool) : ∀ v : List UInt8, (wrV s v).length ≤ 6 * v.length
  | [] => by simp [wrV]
  | b :: r => by
    have ih := wrV_len s r
    have hb : (wr1 s b).length ≤ 6 := by
      unfold wr1
      split
      · simp
      · split
        · cases s <;> simp [qE]
        · simp
    show (wr1 s b ++ wrV s r).length ≤ _
    rw [List.length_append, List.length_cons]
    omega
end Go.Proofs.YtfnecdifaodamaaDoor.Tg
