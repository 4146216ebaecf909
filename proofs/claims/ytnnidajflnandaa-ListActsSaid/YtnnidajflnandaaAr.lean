/- The program's arena in memory: the nodes' row, what stands in each as a row of parts, each text as a row of bytes; all of them apart. -/
import Derived.Test.YtnnidajflnandaaRw
namespace Go.Proofs.Ytnnidajflnandaa
open Go.RowKit Go.Lib
open At (Str cellsA cellsA_len Sl)

section fl
variable {α : Type} {f : α → List Value} {k : Nat}
theorem fl_len (hf : ∀ a, (f a).length = k) (L : List α) : (L.flatMap f).length = L.length * k := by
  induction L with
  | nil => simp
  | cons a L ih => rw [List.flatMap_cons, List.length_append, ih, hf, List.length_cons, Nat.add_mul]; omega
theorem fl_at (hf : ∀ a, (f a).length = k) : ∀ (L : List α) (i j : Nat) (a : α), L[i]? = some a → j < k → (L.flatMap f)[i * k + j]? = (f a)[j]?
  | [], _, _, _, h, _ => by simp at h
  | b :: L, 0, j, a, h, hj => by
    simp only [List.getElem?_cons_zero, Option.some.injEq] at h
    subst h
    rw [List.flatMap_cons, Nat.zero_mul, Nat.zero_add, List.getElem?_append_left (by rw [hf]; exact hj)]
  | b :: L, i + 1, j, a, h, hj => by
    simp only [List.getElem?_cons_succ] at h
    rw [List.flatMap_cons, List.getElem?_append_right (by rw [hf, Nat.add_mul]; omega), hf, show (i + 1) * k + j - k = i * k + j by rw [Nat.add_mul]; omega]
    exact fl_at hf L i j a h hj
theorem fl_set (hf : ∀ a, (f a).length = k) : ∀ (L : List α) (i j : Nat) (a b : α) (u : Value), L[i]? = some a → j < k → f b = (f a).set j u → (L.flatMap f).set (i * k + j) u = (L.set i b).flatMap f
  | [], _, _, _, _, _, h, _, _ => by simp at h
  | c :: L, 0, j, a, b, u, h, hj, he => by
    simp only [List.getElem?_cons_zero, Option.some.injEq] at h
    subst h
    rw [List.flatMap_cons, List.set_cons_zero, List.flatMap_cons, he, Nat.zero_mul, Nat.zero_add, List.set_append_left _ _ (by rw [hf]; exact hj)]
  | c :: L, i + 1, j, a, b, u, h, hj, he => by
    simp only [List.getElem?_cons_succ] at h
    rw [List.flatMap_cons, List.set_cons_succ, List.flatMap_cons, List.set_append_right _ _ (by rw [hf, Nat.add_mul]; omega), hf, show (i + 1) * k + j - k = i * k + j by rw [Nat.add_mul]; omega, fl_set hf L i j a b u h hj he]
end fl

/-- a part, and where its text lies -/
structure QP where
  el : Nat
  tx : List UInt8
  vt : Value
/-- a node, and where its attributes and its parts lie -/
structure QN where
  nm : List UInt8
  ats : List At.At
  sa : Value
  par : Int
  inn : List QP
  vi : Value

def pc (p : QP) : List Value := [.int .i64 (p.el : Int), p.vt]
def pcells (l : List QP) : List Value := l.flatMap pc
def nc (n : QN) : List Value := [.string ⟨n.nm.toArray⟩, n.sa, .int .i64 n.par, n.vi]
def ncells (L : List QN) : List Value := L.flatMap nc
def bcells (s : List UInt8) : List Value := byteCells ⟨s.toArray⟩

theorem pc_len (p : QP) : (pc p).length = 2 := rfl
theorem nc_len (n : QN) : (nc n).length = 4 := rfl
theorem pcells_len (l : List QP) : (pcells l).length = l.length * 2 := fl_len pc_len l
theorem ncells_len (L : List QN) : (ncells L).length = L.length * 4 := fl_len nc_len L
theorem bcells_len (s : List UInt8) : (bcells s).length = s.length := by unfold bcells; rw [byteCells_length]; rfl
theorem bcells_append (s t : List UInt8) : bcells (s ++ t) = bcells s ++ bcells t := by
  unfold bcells byteCells
  simp

/-- the program's arena in memory -/
structure AR (B : Nat) (w : World) (R : Nat) (L : List QN) (cp : Nat) (vn : Value) : Prop where
  hB : B ≤ R
  blk : w.heap[R]? = some (.cells #[vn, .int .i64 (cp : Int)] 66 (0, 0))
  nodes : Rw B 63 4 vn L.length (ncells L) w
  attrs : ∀ n ∈ L, Rw B 72 2 n.sa n.ats.length (cellsA n.ats) w
  inner : ∀ n ∈ L, Rw B 113 2 n.vi n.inn.length (pcells n.inn) w
  texts : ∀ n ∈ L, ∀ p ∈ n.inn, Rw B 5 1 p.vt p.tx.length (bcells p.tx) w
  apI : (L.map QN.vi).Pairwise Apart
  apT : (L.flatMap fun n => n.inn.map QP.vt).Pairwise Apart

/-- no list is too long -/
structure Lim (N : Nat) (L : List QN) : Prop where
  len : L.length ≤ N
  ats : ∀ n ∈ L, n.ats.length ≤ N
  inn : ∀ n ∈ L, n.inn.length ≤ N
  txs : ∀ n ∈ L, ∀ p ∈ n.inn, p.tx.length ≤ N

/-- what an arena's own doings change: blocks of its own types, from B on -/
structure Chg (B : Nat) (w w' : World) : Prop where
  below : Below B w w'
  ty : ∀ g e, Ty w g e → e ≠ 63 → e ≠ 113 → e ≠ 5 → e ≠ 66 → w'.heap[g]? = w.heap[g]?

theorem Chg.refl (B : Nat) (w : World) : Chg B w w := ⟨Below.refl _ _, fun _ _ _ _ _ _ _ => rfl⟩
theorem Chg.trans {B : Nat} {a b c : World} (h : Chg B a b) (k : Chg B b c) : Chg B a c :=
  ⟨h.below.trans k.below, fun g e ht h1 h2 h3 h4 => (k.ty g e (ht.same (h.ty g e ht h1 h2 h3 h4)) h1 h2 h3 h4).trans (h.ty g e ht h1 h2 h3 h4)⟩
theorem Chg.of_below {B : Nat} {w w' : World} (hB : B ≤ w.heap.size) (h : Below w.heap.size w w') : Chg B w w' :=
  ⟨h.mono hB, fun g _ ht _ _ _ _ => h.block g ht.lt⟩

theorem AR.lt {B : Nat} {w : World} {R : Nat} {L : List QN} {cp : Nat} {vn : Value} (h : AR B w R L cp vn) : R < w.heap.size := (Array.getElem?_eq_some_iff.1 h.blk).1
theorem AR.ty {B : Nat} {w : World} {R : Nat} {L : List QN} {cp : Nat} {vn : Value} (h : AR B w R L cp vn) : Ty w R 66 := ⟨_, _, h.blk⟩
theorem AR.below {B : Nat} {w w' : World} {R : Nat} {L : List QN} {cp : Nat} {vn : Value} (h : AR B w R L cp vn) (hb : Below w.heap.size w w') : AR B w' R L cp vn :=
  ⟨h.hB, (hb.block R h.lt).trans h.blk, h.nodes.below hb, fun n hn => (h.attrs n hn).below hb, fun n hn => (h.inner n hn).below hb, fun n hn p hp => (h.texts n hn p hp).below hb, h.apI, h.apT⟩
theorem AR.c0 {B : Nat} {w : World} {R : Nat} {L : List QN} {cp : Nat} {vn : Value} (h : AR B w R L cp vn) : w.cell? ⟨R, 0, none⟩ = some vn := cell_of_heap h.blk 0
theorem AR.c1 {B : Nat} {w : World} {R : Nat} {L : List QN} {cp : Nat} {vn : Value} (h : AR B w R L cp vn) : w.cell? ⟨R, 1, none⟩ = some (.int .i64 (cp : Int)) := cell_of_heap h.blk 1

/-- a node's four cells, and that they may be written -/
theorem AR.node {B : Nat} {w : World} {R : Nat} {L : List QN} {cp : Nat} {vn : Value} (h : AR B w R L cp vn) {i : Nat} {n : QN} (hi : L[i]? = some n) :
    ∃ g c, vn = .slice (some ⟨g, 0, none⟩) L.length c ∧ i < L.length ∧ L.length ≤ c ∧ B ≤ g ∧ Ty w g 63 ∧ w.cell? ⟨g, i * 4, none⟩ = some (.string ⟨n.nm.toArray⟩) ∧ w.cell? ⟨g, i * 4 + 1, none⟩ = some n.sa ∧ w.cell? ⟨g, i * 4 + 2, none⟩ = some (.int .i64 n.par) ∧ w.cell? ⟨g, i * 4 + 3, none⟩ = some n.vi ∧
      (∀ j, j < 4 → w.frozen? ⟨g, i * 4 + j, none⟩ = false) := by
  have hil : i < L.length := (List.getElem?_eq_some_iff.1 hi).1
  obtain ⟨g, c, hv, hB, hlt, hT, hc, hcell, hfr⟩ := h.nodes.blk (by omega)
  have ha := fun j hj => fl_at nc_len L i j n hi hj
  refine ⟨g, c, hv, hil, hc, hB, hT, hcell (i * 4 + 0) _ (ha 0 (by decide)), hcell _ _ (ha 1 (by decide)), hcell _ _ (ha 2 (by decide)), hcell _ _ (ha 3 (by decide)), fun j hj => hfr _ (by omega)⟩

/-- a part's two cells -/
theorem Rw.part {B : Nat} {w : World} {v : Value} {l : List QP} (h : Rw B 113 2 v l.length (pcells l) w) {i : Nat} {p : QP} (hi : l[i]? = some p) :
    ∃ g c, v = .slice (some ⟨g, 0, none⟩) l.length c ∧ i < l.length ∧ l.length ≤ c ∧ B ≤ g ∧ Ty w g 113 ∧ w.cell? ⟨g, i * 2, none⟩ = some (.int .i64 (p.el : Int)) ∧ w.cell? ⟨g, i * 2 + 1, none⟩ = some p.vt ∧ (∀ j, j < 2 → w.frozen? ⟨g, i * 2 + j, none⟩ = false) := by
  have hil : i < l.length := (List.getElem?_eq_some_iff.1 hi).1
  obtain ⟨g, c, hv, hB, hlt, hT, hc, hcell, hfr⟩ := h.blk (by omega)
  have ha := fun j hj => fl_at pc_len l i j p hi hj
  exact ⟨g, c, hv, hil, hc, hB, hT, hcell (i * 2 + 0) _ (ha 0 (by decide)), hcell _ _ (ha 1 (by decide)), fun j hj => hfr _ (by omega)⟩

/-- a node among the nodes -/
theorem mem_of_at {α : Type} {L : List α} {i : Nat} {a : α} (h : L[i]? = some a) : a ∈ L := List.mem_of_getElem? h
end Go.Proofs.Ytnnidajflnandaa
