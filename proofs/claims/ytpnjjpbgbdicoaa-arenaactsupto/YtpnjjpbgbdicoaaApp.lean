/- One node behind a row of one's own. -/
import Derived.Test.YtpnjjpbgbdicoaaNd
namespace Go.Proofs.Ytpnjjpbgbdicoaa
open Go.RowKit Go.Lib
open At (Str cellsA cellsA_len Sl)

/-- a slice type whose elements are nodes -/
structure ElemN (t e : TypeId) : Prop where
  ht : Try.prog.underlying t = some (.slice e)
  info : ∃ j, Try.prog.info? e = some j ∧ (j.zero, j.size, j.bytes) = (some (.agg #[.string ByteArray.empty, .slice none 0 0, .string ByteArray.empty, .slice none 0 0]), 4, 80)

theorem elem56 : ElemN 56 73 := ⟨Try.underlying56, Option.map_eq_some_iff.1 (by kernel_rfl : (Try.prog.info? 73).map (fun i => (i.zero, i.size, i.bytes)) = some (some (.agg #[.string ByteArray.empty, .slice none 0 0, .string ByteArray.empty, .slice none 0 0]), 4, 80))⟩
theorem elem54 : ElemN 54 69 := ⟨Try.underlying54, Option.map_eq_some_iff.1 (by kernel_rfl : (Try.prog.info? 69).map (fun i => (i.zero, i.size, i.bytes)) = some (some (.agg #[.string ByteArray.empty, .slice none 0 0, .string ByteArray.empty, .slice none 0 0]), 4, 80))⟩

/-- the blocks of what stands in nodes are none of the row's own -/
def Off (P : Nat → Prop) (v : Value) : Nat → Prop := fun b => P b ∧ some b ≠ v.ownBlock

/-- nodes that a row of one's own holds -/
def NOwn (w : World) (B : Nat) (e : TypeId) (P : Nat → Prop) (v : Value) (f : F) : Prop := ∃ us, w.ownsRow B e 4 v f.len us ∧ NV w (Off P v) f us

theorem NOwn.nil (w : World) (B : Nat) (e : TypeId) (P : Nat → Prop) : NOwn w B e P (.slice none 0 0) .nil := ⟨[], World.ownsRow_nil w B e 4, rfl⟩

theorem NOwn.below {w w' : World} {B : Nat} {e : TypeId} {P : Nat → Prop} {v : Value} {f : F} (h : NOwn w B e P v f) (hb : Below w.heap.size w w') : NOwn w' B e P v f := by
  obtain ⟨us, h1, h2⟩ := h
  exact ⟨us, At.ownsRow_below h1 hb, h2.below hb⟩

theorem NOwn.base {w : World} {B B' : Nat} {e : TypeId} {P : Nat → Prop} {v : Value} {f : F} (h : NOwn w B e P v f) (hB : B' ≤ B) : NOwn w B' e P v f := by
  obtain ⟨us, h1, h2⟩ := h
  exact ⟨us, At.ownsRow_base h1 hB, h2⟩

theorem NOwn.mono {w : World} {B : Nat} {e : TypeId} {P Q : Nat → Prop} (hPQ : ∀ b, P b → b < w.heap.size → Q b) {v : Value} {f : F} (h : NOwn w B e P v f) : NOwn w B e Q v f := by
  obtain ⟨us, h1, h2⟩ := h
  exact ⟨us, h1, h2.mono fun b hb hl => ⟨hPQ b hb.1 hl, hb.2⟩⟩

/-- a row of one's own as a slice -/
theorem NOwn.sl {w : World} {B : Nat} {e : TypeId} {P : Nat → Prop} {v : Value} {f : F} (h : NOwn w B e P v f) : ∃ a c, v = .slice a f.len c ∧ NSl w (fun b => (P b ∧ some b ≠ v.ownBlock) ∨ (some b = v.ownBlock ∧ B ≤ b)) f a c := by
  obtain ⟨us, h1, h2⟩ := h
  rcases h1.2 with ⟨hv, h0⟩ | ⟨g, cap, cur, hv, hg, hh, hn, hm, hs, ht⟩
  · obtain rfl := F.len_zero h0
    exact ⟨none, 0, hv, ⟨Nat.le_refl _, fun _ => ⟨rfl, rfl⟩⟩, Or.inl rfl⟩
  · refine ⟨_, cap, hv, ⟨hn, fun h => by cases h⟩, Or.inr ⟨g, 0, us, rfl, Or.inr ⟨by rw [hv]; rfl, hg⟩, fun j u hj => ?_, h2.mono fun b hb _ => Or.inl hb⟩⟩
    have := h1.cells (g := g) (by rw [hv]; rfl) j u hj
    rw [At.add_lit] at this
    exact this

theorem NSl.nv {w : World} {P : Nat → Prop} {f : F} {a : Option Addr} {c : Nat} (h : NSl w P f a c) : Fits f.len a c ∧ ∃ vs, (f = .nil ∨ ∃ b off, a = some ⟨b, off, none⟩ ∧ P b ∧ ∀ (j : Nat) (u : Value), vs[j]? = some u → w.cell? ⟨b, off + j, none⟩ = some u) ∧ NV w P f vs := by
  obtain ⟨h1, h2⟩ := h
  refine ⟨h1, ?_⟩
  rcases h2 with rfl | ⟨b, off, us, rfl, hp, hc, hv⟩
  · exact ⟨[], Or.inl rfl, rfl⟩
  · exact ⟨us, Or.inr ⟨b, off, rfl, hp, hc⟩, hv⟩

/-- one node behind a row of one's own: it is laid in a block first -/
theorem app_node {t e : TypeId} (E : ElemN t e) (w : World) (B : Nat) (P : Nat → Prop) (v : Value) (f : F) (nm tx : List UInt8) (ats : List At.At) (inn : F) (a a' : Option Addr) (c c' g : Nat) (hg : g = w.heap.size) (hown : NOwn w B e P v f)
    (hsl : Sl ats a c w ∧ (ats ≠ [] → ∀ ad, a = some ad → Off P v ad.block)) (hin : NSl w (Off P v) inn a' c') (hl : f.len + 1 ≤ 8000000) (hB : B ≤ w.heap.size) :
    ∃ v' w', (Builtin.append_ #[t, t] t #[v, .slice (some ⟨g, 0, none⟩) 1 1]).run Try.prog (w.alloc (.cells #[.string ⟨nm.toArray⟩, .slice a ats.length c, .string ⟨tx.toArray⟩, .slice a' inn.len c'] e)) = .ok v' w' ∧
      NOwn w' B e P v' (f.app (.cons nm ats tx inn .nil)) ∧ w.grownBy w' v.ownBlock ∧ (v'.ownBlock = v.ownBlock ∨ v'.ownBlock = some (w.heap.size + 1)) := by
  subst hg
  obtain ⟨i, hi, hp⟩ := E.info
  simp only [Prod.mk.injEq] at hp
  obtain ⟨hz, hsz, hby⟩ := hp
  obtain ⟨us, how, hnv⟩ := hown
  obtain ⟨hfit, vs, hvs, hvn⟩ := hin.nv
  have hone : NV w (Off P v) (.cons nm ats tx inn .nil) [.string ⟨nm.toArray⟩, .slice a ats.length c, .string ⟨tx.toArray⟩, .slice a' inn.len c'] :=
    ⟨a, c, a', c', vs, [], rfl, hsl, ⟨hfit, hvs⟩, hvn, rfl⟩
  have hall := (NV.append hone hnv).below (At.below_alloc (.cells #[.string ⟨nm.toArray⟩, .slice a ats.length c, .string ⟨tx.toArray⟩, .slice a' inn.len c'] e))
  obtain ⟨v', w', hr, h1, h2, -, h4⟩ := run_append_own_at (P := Try.prog) (w.alloc (.cells #[.string ⟨nm.toArray⟩, .slice a ats.length c, .string ⟨tx.toArray⟩, .slice a' inn.len c'] e)) B t t e i _ 4 80 E.ht hi hz hsz hby rfl (by decide) v f.len us (how.alloc _) ⟨w.heap.size, 0, none⟩ 1 1 [.string ⟨nm.toArray⟩, .slice a ats.length c, .string ⟨tx.toArray⟩, .slice a' inn.len c'] rfl
    (fun j u hj => by
      rw [At.add_lit]
      simp [World.cell?, World.alloc, -World.alloc_eq]
      simpa using hj)
    (fun u hu => by
      simp only [List.mem_cons, List.not_mem_nil, or_false] at hu
      rcases hu with rfl | rfl | rfl | rfl <;> rfl) (by unfold maxLen; omega) (by omega) (by simp; omega)
  refine ⟨v', w', hr, ⟨us ++ [.string ⟨nm.toArray⟩, .slice a ats.length c, .string ⟨tx.toArray⟩, .slice a' inn.len c'], ?_, ?_⟩, (World.grownBy_alloc w _ v.ownBlock).trans h2, by simpa using h4⟩
  · rw [F.app_len]
    exact h1
  · refine NV.mono ?_ (NV.kept ?_ hall.lt)
    · intro b hb _
      refine ⟨hb.1.1, ?_⟩
      rcases h4 with h4 | h4
      · rw [h4]; exact hb.1.2
      · rw [h4]
        intro he
        injection he with he
        have := hb.2
        omega
    · intro b hb
      exact h2.block b hb.2 hb.1.2
end Go.Proofs.Ytpnjjpbgbdicoaa
