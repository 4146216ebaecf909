/- What a law's closure needs while it puts nodes into an arena: its captured cells, its variable, the argument. -/
import Derived.Test.YtpnjjpbgbdicoaaPa
namespace Go.Proofs.Ytpnjjpbgbdicoaa
open Go.RowKit Go.Lib
open At (Str cellsA cellsA_len Sl)

theorem mtext_len (l : List (Nat × List UInt8)) (s : List UInt8) : (mtext l s).length ≤ l.length + 1 := by
  unfold mtext
  split
  · omega
  · split
    · simp
    · simp

theorem mtext_txs (l : List (Nat × List UInt8)) (s : List UInt8) (K : Nat) (h : ∀ p ∈ l, p.2.length ≤ K) : ∀ p ∈ mtext l s, p.2.length ≤ K + s.length := by
  unfold mtext
  split
  · intro p hp; have := h p hp; omega
  · split
    · rename_i t ht
      intro p hp
      rcases List.mem_append.1 hp with hp | hp
      · have := h p (List.dropLast_subset _ hp); omega
      · simp only [List.mem_singleton] at hp
        subst hp
        have := h (0, t) (List.mem_of_getLast? ht)
        rw [List.length_append]
        simp only at this
        omega
    · intro p hp
      rcases List.mem_append.1 hp with hp | hp
      · have := h p hp; omega
      · simp only [List.mem_singleton] at hp
        subst hp
        show s.length ≤ _
        omega

theorem Bd.text {K : Nat} {L : List QN} {k : Nat} {n : QN} (h : Bd K L) (hn : L[k]? = some n) (s : List UInt8) (inn : List QP) (vi : Value) (hi : inn.map abp = mtext (n.inn.map abp) s) : Bd (K + s.length + 1) (L.set k { n with inn := inn, vi := vi }) := by
  have hm := mem_of_at hn
  refine ⟨by rw [List.length_set]; have := h.len; omega, fun m hm' => ?_, fun m hm' p hp => ?_⟩
  · rcases mem_set hm' with hm' | rfl
    · have := h.inn m hm'; omega
    · have h1 := mtext_len (n.inn.map abp) s
      rw [← hi, List.length_map, List.length_map] at h1
      have := h.inn n hm
      show inn.length ≤ _
      omega
  · rcases mem_set hm' with hm' | rfl
    · have := h.txs m hm' p hp; omega
    · have h1 := mtext_txs (n.inn.map abp) s K (fun q hq => by
        obtain ⟨q', hq', rfl⟩ := List.mem_map.1 hq
        exact h.txs n hm q' hq') (abp p) (by rw [← hi]; exact List.mem_map.2 ⟨p, hp, rfl⟩)
      have h2 : p.tx.length ≤ K + s.length := h1
      omega

/-- the closure's captured cells: the arena, and itself -/
structure ClF (R g3 g4 t4 : Nat) (fv : Value) (w : World) : Prop where
  c3 : w.cell? ⟨g3, 0, none⟩ = some (.pointer (some ⟨R, 0, none⟩))
  y3 : Ty w g3 24
  c4 : w.cell? ⟨g4, 0, none⟩ = some fv
  y4 : Ty w g4 t4

theorem Ty.chg {B : Nat} {w w' : World} {g : Nat} {e : TypeId} (h : Ty w g e) (hc : Chg B w w') (h1 : e ≠ 76) (h2 : e ≠ 93) (h3 : e ≠ 5) (h4 : e ≠ 79) : Ty w' g e := h.same (hc.ty g e h h1 h2 h3 h4)
theorem Chg.cell {B : Nat} {w w' : World} {g : Nat} {e : TypeId} (hc : Chg B w w') (h : Ty w g e) (h1 : e ≠ 76) (h2 : e ≠ 93) (h3 : e ≠ 5) (h4 : e ≠ 79) {j : Nat} {u : Value} (hj : w.cell? ⟨g, j, none⟩ = some u) : w'.cell? ⟨g, j, none⟩ = some u :=
  (World.cell?_of_block (a := ⟨g, j, none⟩) (hc.ty g e h h1 h2 h3 h4)).trans hj

theorem ClF.chg {B R g3 g4 t4 : Nat} {fv : Value} {w w' : World} (h : ClF R g3 g4 t4 fv w) (ht : t4 = 67 ∨ t4 = 71) (hc : Chg B w w') : ClF R g3 g4 t4 fv w' := by
  have k : t4 ≠ 76 ∧ t4 ≠ 93 ∧ t4 ≠ 5 ∧ t4 ≠ 79 := by rcases ht with rfl | rfl <;> decide
  exact ⟨hc.cell h.y3 (by decide) (by decide) (by decide) (by decide) h.c3, h.y3.chg hc (by decide) (by decide) (by decide) (by decide), hc.cell h.y4 k.1 k.2.1 k.2.2.1 k.2.2.2 h.c4, h.y4.chg hc k.1 k.2.1 k.2.2.1 k.2.2.2⟩

/-- and the loop's variable -/
structure StV (R g3 g4 t4 : Nat) (fv : Value) (g : Nat) (v0 v1 v2 v3 : Value) (w : World) : Prop where
  cl : ClF R g3 g4 t4 fv w
  yg : Ty w g 69
  vr : Var4 g v0 v1 v2 v3 w

theorem StV.chg {B R g3 g4 t4 g : Nat} {fv v0 v1 v2 v3 : Value} {w w' : World} (h : StV R g3 g4 t4 fv g v0 v1 v2 v3 w) (ht : t4 = 67 ∨ t4 = 71) (hc : Chg B w w') : StV R g3 g4 t4 fv g v0 v1 v2 v3 w' := by
  have k := fun {j u} => @Chg.cell B w w' g 69 hc h.yg (by decide) (by decide) (by decide) (by decide) j u
  exact ⟨h.cl.chg ht hc, h.yg.chg hc (by decide) (by decide) (by decide) (by decide), k h.vr.1, k h.vr.2.1, k h.vr.2.2.1, k h.vr.2.2.2⟩

/-- the argument's nodes lie below B -/
theorem At4.chg {B : Nat} {w w' : World} {P : Nat → Prop} {f : F} {b off : Nat} (h : At4 w P f b off) (hP : ∀ b, P b → b < B) (hb : b < B) (hc : Below B w w') : At4 w' P f b off := by
  obtain ⟨us, h1, h2⟩ := h
  exact ⟨us, fun j u hj => (World.cell?_of_block (hc.block b hb)).trans (h1 j u hj), h2.kept fun q hq => hc.block q (hP q hq)⟩

theorem NSl.chg {B : Nat} {w w' : World} {P : Nat → Prop} {f : F} {a : Option Addr} {c : Nat} (h : NSl w P f a c) (hP : ∀ b, P b → b < B) (hc : Below B w w') : NSl w' P f a c := by
  obtain ⟨h1, h2⟩ := h
  refine ⟨h1, ?_⟩
  rcases h2 with h2 | ⟨b, off, us, rfl, hp, h3, h4⟩
  · exact Or.inl h2
  · exact Or.inr ⟨b, off, us, rfl, hp, fun j u hj => (World.cell?_of_block (hc.block b (hP b hp))).trans (h3 j u hj), h4.kept fun q hq => hc.block q (hP q hq)⟩

/-- what putting nodes into k gives -/
def PutPost (B R cp : Nat) (L : List QN) (k lo : Nat) (n : QN) (dd : F) (K : Nat) (r : Value) (w : World) (e : Ending) (w' : World) : Prop :=
  e = .returned r ∧ ∃ L' vn', AR B w' R L' cp vn' ∧ Chg B w w' ∧ PutR L L' k lo n dd ∧ Bd K L'

/-- where the loop stands -/
def PtRel (B R cp : Nat) (L : List QN) (k lo : Nat) (n : QN) (d f : F) (K : Nat) (P : Nat → Prop) (b off : Nat) (w : World) (v12 : Value) (wr : World) : Prop :=
  ∃ (g dd : F) (i : Nat) (L1 : List QN) (vn1 : Value) (K1 : Nat), v12 = .int .i64 (i : Int) ∧ i + g.len = f.len ∧ g.wt ≤ f.wt ∧ F.mg dd g = F.mg d f ∧ At4 w P g b (off + i * 4) ∧ g.small 400000 ∧
    AR B wr R L1 cp vn1 ∧ Chg B w wr ∧ PutR L L1 k lo n dd ∧ Bd K1 L1 ∧ K1 + g.wt ≤ K + f.wt

/-- a text put, told by lists -/
theorem put_text {B R cp : Nat} {L L1 : List QN} {k lo : Nat} {n n' : QN} {dd : F} {vn1 : Value} {W : World} {K1 : Nat} (h : AR B W R L1 cp vn1) (hr : PutR L L1 k lo n dd) (hbd : Bd K1 L1) (hn' : L1[k]? = some n') (s : List UInt8) (hK : K1 + s.length ≤ 4000000) :
    Calls Try.prog 21 #[.pointer (some ⟨R, 0, none⟩), .int .i64 (k : Int), .string ⟨s.toArray⟩] W (fun e w' => e = .returned (.tuple #[]) ∧ ∃ L2, AR B w' R L2 cp vn1 ∧ Chg B W w' ∧ PutR L L2 k lo n (dd.addT s) ∧ Bd (K1 + s.length + 1) L2) := by
  refine (text_any h k n' hn' s (by have := hbd.inn n' (mem_of_at hn'); omega) (by omega) (fun p hp => by have := hbd.txs n' (mem_of_at hn') p hp; omega)).mono ?_
  rintro e w' ⟨rfl, inn, vi, h1, h2, h3⟩
  exact ⟨rfl, _, h1, h2, hr.text hn' s inn vi h3, hbd.text hn' s inn vi h3⟩
end Go.Proofs.Ytpnjjpbgbdicoaa
