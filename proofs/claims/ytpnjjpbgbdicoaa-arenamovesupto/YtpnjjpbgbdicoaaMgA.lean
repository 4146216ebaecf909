/- Merge's step at an element: its attributes are the argument's own. -/
import Derived.Test.YtpnjjpbgbdicoaaOf
import Derived.Test.YtpnjjpbgbdicoaaMg
namespace Go.Proofs.Ytpnjjpbgbdicoaa
open Go.RowKit Go.Lib
open At (Str cellsA cellsA_len Sl)

/-- blocks of the argument's, below b0, or of the call's own -/
abbrev Pm (b0 n : Nat) (b : Nat) : Prop := b < b0 ∨ n ≤ b

theorem mg_step (b0 : Nat) (w wr W w4 : World) (d inn : F) (nm : List UInt8) (ats : List At.At) (u3 vn : Value) (aa : Option Addr) (ca : Nat) (v0 v1 v2 v3 : Value)
    (hb0 : b0 ≤ w.heap.size) (hbw : Below w.heap.size w wr) (hbW : Below wr.heap.size wr W) (hv : Var4 wr.heap.size v0 v1 v2 v3 W)
    (hown : NOwn wr w.heap.size 69 (Pm b0 w.heap.size) u3 d) (hsl : Sl ats aa ca w) (hlt0 : ats ≠ [] → ∀ ad, aa = some ad → ad.block < b0)
    (hon : NOwn w4 W.heap.size 69 (Pm b0 W.heap.size) vn inn) (hb4 : Below W.heap.size W w4) (hl : d.len + 1 ≤ 8000000) :
    ∃ a7 c7 v' w5, vn = .slice a7 inn.len c7 ∧
      (Builtin.append_ #[54, 54] 54 #[u3, .slice (some ⟨w4.heap.size, 0, none⟩) 1 1]).run Try.prog (w4.alloc (.cells #[.string ⟨nm.toArray⟩, .slice aa ats.length ca, .string ⟨([] : List UInt8).toArray⟩, .slice a7 inn.len c7] 69)) = .ok v' w5 ∧
      Var4 wr.heap.size v0 v1 v2 v3 w4 ∧ Var4 wr.heap.size v0 v1 v2 v3 (w4.alloc (.cells #[.string ⟨nm.toArray⟩, .slice aa ats.length ca, .string ⟨([] : List UInt8).toArray⟩, .slice a7 inn.len c7] 69)) ∧ Var4 wr.heap.size v0 v1 v2 v3 w5 ∧
      NOwn w5 w.heap.size 69 (Pm b0 w.heap.size) v' (d.app (.cons nm ats [] inn .nil)) ∧ Below w.heap.size w w5 := by
  have hsz : w.heap.size ≤ wr.heap.size := hbw.size
  have hszW : wr.heap.size ≤ W.heap.size := hbW.size
  have hsz4 : W.heap.size ≤ w4.heap.size := hb4.size
  have how4 : NOwn w4 w.heap.size 69 (Pm b0 w.heap.size) u3 d := (hown.below hbW).below hb4
  have hlt : ∀ g, u3.ownBlock = some g → w.heap.size ≤ g ∧ g < wr.heap.size := by
    intro g hg
    obtain ⟨us, h1, -⟩ := hown
    exact h1.lt g hg
  have hv4 := hv.below hb4
  obtain ⟨a7, c7, rfl, hsl7⟩ := hon.sl
  have hbl : Below w.heap.size w w4 := (hbw.trans (hbW.mono hsz)).trans (hb4.mono (by omega))
  have hn7 : NSl w4 (Off (Pm b0 w.heap.size) u3) inn a7 c7 := by
    refine hsl7.mono fun b hb => ?_
    have hb' : b < b0 ∨ W.heap.size ≤ b := by
      rcases hb with ⟨h, -⟩ | ⟨-, h⟩
      · exact h
      · exact Or.inr h
    refine ⟨by rcases hb' with h | h; exact Or.inl h; exact Or.inr (by omega), fun he => ?_⟩
    have := hlt _ he.symm
    omega
  obtain ⟨v', w5, hr, how5, hgr, -⟩ := app_node elem54 w4 w.heap.size (Pm b0 w.heap.size) u3 d nm [] ats inn aa a7 ca c7 w4.heap.size rfl how4
    ⟨hsl.below hbl, fun hne ad had => ⟨Or.inl (hlt0 hne ad had), fun he => by
      have h1 := (hlt _ he.symm).1
      have h2 := hlt0 hne ad had
      omega⟩⟩ hn7 hl (by omega)
  have hva := hv4.below (At.below_alloc (.cells #[.string ⟨nm.toArray⟩, .slice aa ats.length ca, .string ⟨([] : List UInt8).toArray⟩, .slice a7 inn.len c7] 69))
  refine ⟨a7, c7, v', w5, rfl, hr, hv4, hva, ?_, how5, hbl.grown hgr (by omega) (fun g hg => (hlt g hg).1)⟩
  have hn : some wr.heap.size ≠ u3.ownBlock := by
    intro he
    have := (hlt _ he.symm).2
    omega
  obtain ⟨q0, q1, q2, q3⟩ := hv4
  exact ⟨cell_of_grown hgr q0 hn, cell_of_grown hgr q1 hn, cell_of_grown hgr q2 hn, cell_of_grown hgr q3 hn⟩
/-- Merge's step at a text behind an element, or at the first one -/
theorem mg_new (b0 : Nat) (w wr W : World) (d : F) (tx : List UInt8) (u3 : Value) (v0 v1 v2 v3 : Value)
    (hbw : Below w.heap.size w wr) (hbW : Below wr.heap.size wr W) (hv : Var4 wr.heap.size v0 v1 v2 v3 W)
    (hown : NOwn wr w.heap.size 69 (Pm b0 w.heap.size) u3 d) (hl : d.len + 1 ≤ 8000000) :
    ∃ v' w5, (Builtin.append_ #[54, 54] 54 #[u3, .slice (some ⟨W.heap.size, 0, none⟩) 1 1]).run Try.prog (W.alloc (.cells #[.string ⟨([] : List UInt8).toArray⟩, .slice none 0 0, .string ⟨tx.toArray⟩, .slice none 0 0] 69)) = .ok v' w5 ∧
      Var4 wr.heap.size v0 v1 v2 v3 w5 ∧ NOwn w5 w.heap.size 69 (Pm b0 w.heap.size) v' (d.app (.cons [] [] tx .nil .nil)) ∧ Below w.heap.size w w5 := by
  have hsz : w.heap.size ≤ wr.heap.size := hbw.size
  have hszW : wr.heap.size ≤ W.heap.size := hbW.size
  have hlt : ∀ g, u3.ownBlock = some g → w.heap.size ≤ g ∧ g < wr.heap.size := by
    intro g hg
    obtain ⟨us, h1, -⟩ := hown
    exact h1.lt g hg
  have hbl : Below w.heap.size w W := hbw.trans (hbW.mono hsz)
  obtain ⟨v', w5, hr, how5, hgr, -⟩ := app_node elem54 W w.heap.size (Pm b0 w.heap.size) u3 d [] tx [] .nil none none 0 0 W.heap.size rfl (hown.below hbW)
    ⟨⟨Nat.le_refl _, fun _ => ⟨rfl, rfl⟩, Or.inl rfl⟩, fun hne => absurd rfl hne⟩ ⟨⟨Nat.le_refl _, fun _ => ⟨rfl, rfl⟩⟩, Or.inl rfl⟩ hl (by omega)
  refine ⟨v', w5, hr, ?_, how5, hbl.grown hgr (by omega) (fun g hg => (hlt g hg).1)⟩
  have hn : some wr.heap.size ≠ u3.ownBlock := by
    intro he
    have := (hlt _ he.symm).2
    omega
  obtain ⟨q0, q1, q2, q3⟩ := hv
  exact ⟨cell_of_grown hgr q0 hn, cell_of_grown hgr q1 hn, cell_of_grown hgr q2 hn, cell_of_grown hgr q3 hn⟩
end Go.Proofs.Ytpnjjpbgbdicoaa
