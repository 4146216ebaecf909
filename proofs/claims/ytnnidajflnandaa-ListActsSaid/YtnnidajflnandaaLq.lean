/- What the round of the acts' loop wants: both arenas, the list, and what is wanted, while they are changed. -/
import Derived.Test.YtnnidajflnandaaRe
import Derived.Test.YtnnidajflnandaaFa
namespace Go.Proofs.Ytnnidajflnandaa
open Go.RowKit Go.Lib
open At (Str cellsA cellsA_len Sl)

/-- the list has E, what is wanted is still E0 -/
structure Lq (b0 B G : Nat) (w wr : World) (R Ls : Nat) (L : List QN) (E E0 : List Int) (vn v d0 d1 d2 d3 u : Value) : Prop where
  st : ST B wr R Ls L E vn v
  ra : RA b0 wr d0 d1 d2 d3 (L.map mn)
  box : Bx G #[d0, d1, d2, d3, .int .i64 0] 31 wr
  want : Rw b0 3 1 u E0.length (ints E0) wr
  apP : Apart d3 v
  apW : Apart u v
  below : Below w.heap.size w wr

theorem Lp.lq {b0 B G : Nat} {w wr : World} {R Ls k : Nat} {L : List QN} {E : List Int} {vn v d0 d1 d2 d3 u : Value} (h : Lp b0 B G w wr R Ls k L E vn v d0 d1 d2 d3 u) : Lq b0 B G w wr R Ls L E E vn v d0 d1 d2 d3 u :=
  ⟨h.st, h.ra, h.box, h.want, h.apP, h.apW, h.below⟩
theorem Lq.lp {b0 B G : Nat} {w wr : World} {R Ls k : Nat} {L : List QN} {E : List Int} {vn v d0 d1 d2 d3 u : Value} (h : Lq b0 B G w wr R Ls L E E vn v d0 d1 d2 d3 u) (ho : On E) (hk : E.length ≤ k) (hL : L.length = k + 1) : Lp b0 B G w wr R Ls k L E vn v d0 d1 d2 d3 u :=
  ⟨h.st, h.ra, h.box, h.want, h.apP, h.apW, ho, hk, hL, h.below⟩

theorem Lq.more {b0 B G : Nat} {w wr wx : World} {R Ls : Nat} {L : List QN} {E E0 : List Int} {vn v d0 d1 d2 d3 u : Value} (h : Lq b0 B G w wr R Ls L E E0 vn v d0 d1 d2 d3 u) (hb : Below wr.heap.size wr wx) : Lq b0 B G w wx R Ls L E E0 vn v d0 d1 d2 d3 u :=
  ⟨h.st.below hb, h.ra.below hb, h.box.below hb, h.want.below hb, h.apP, h.apW, h.below.trans (hb.mono h.below.size)⟩
theorem Lp.more {b0 B G : Nat} {w wr wx : World} {R Ls k : Nat} {L : List QN} {E : List Int} {vn v d0 d1 d2 d3 u : Value} (h : Lp b0 B G w wr R Ls k L E vn v d0 d1 d2 d3 u) (hb : Below wr.heap.size wr wx) : Lp b0 B G w wx R Ls k L E vn v d0 d1 d2 d3 u :=
  (h.lq.more hb).lp h.on h.len h.all

/-- the list has been changed -/
theorem Lq.ev {b0 B G : Nat} {w wr wx : World} {R Ls : Nat} {L : List QN} {E E' E0 : List Int} {vn v v' d0 d1 d2 d3 u : Value} (h : Lq b0 B G w wr R Ls L E E0 vn v d0 d1 d2 d3 u) (hb0 : b0 ≤ B) (hw : w.heap.size ≤ B) (hs : ST B wx R Ls L E' vn v') (he : Ev B v v' wr wx) : Lq b0 B G w wx R Ls L E' E0 vn v' d0 d1 d2 d3 u := by
  obtain ⟨h1, h2⟩ := RA.ev he hb0 h.st.lr.row h.ra h.apP
  obtain ⟨h3, h4⟩ := he.row h.want (by decide) (by decide) (by decide) (by decide) (by decide) h.apW
  refine ⟨hs, h1, (he.keep G 31 h.box.ty (by decide) (by decide) (by decide) (by decide) (by decide) fun e => ?_).trans h.box, h3, h2, h4, h.below.trans (he.below.mono hw)⟩
  exact absurd (Ty.uniq h.box.ty (h.st.lr.row.ty e.symm)) (by decide)

/-- what is wanted has been answered anew -/
theorem Lq.fresh {b0 B G : Nat} {w wr wx : World} {R Ls : Nat} {L : List QN} {E E0 E1 : List Int} {vn v d0 d1 d2 d3 u u' : Value} (h : Lq b0 B G w wr R Ls L E E0 vn v d0 d1 d2 d3 u) (hb0 : b0 ≤ wr.heap.size) (hb : Below wr.heap.size wr wx) (hu : Rw wr.heap.size 3 1 u' E1.length (ints E1) wx) : Lq b0 B G w wx R Ls L E E1 vn v d0 d1 d2 d3 u' := by
  have h' := h.more hb
  refine ⟨h'.st, h'.ra, h'.box, hu.base hb0, h.apP, ?_, h'.below⟩
  cases ho : u'.ownBlock with
  | none => exact Or.inl ho
  | some g =>
    refine Or.inr fun e => ?_
    have h1 := (hu.lt g ho).1
    have h2 := (h.st.lr.row.lt g (by rw [← e, ho])).2
    omega

/-- what is wanted has been shortened -/
theorem Lq.take {b0 B G : Nat} {w wr : World} {R Ls : Nat} {L : List QN} {E E0 : List Int} {vn v d0 d1 d2 d3 : Value} {a : Option Addr} {c : Nat} (h : Lq b0 B G w wr R Ls L E E0 vn v d0 d1 d2 d3 (.slice a E0.length c)) (n : Nat) (hn : n ≤ E0.length) : Lq b0 B G w wr R Ls L E (E0.take n) vn v d0 d1 d2 d3 (.slice a (E0.take n).length c) := by
  have hl : (E0.take n).length = n := by simp; omega
  refine ⟨h.st, h.ra, h.box, ?_, h.apP, ?_, h.below⟩
  · rw [hl]
    exact h.want.take rfl n hn
  · have := h.apW
    unfold Apart at this ⊢
    rw [own_len a _ E0.length c]
    exact this

theorem map_mn (L : List QN) (s : List UInt8) (ats : List At.At) (sa x : Value) : (L ++ [(⟨s, ats, sa, -1, [], x⟩ : QN)]).map mn = L.map mn ++ [⟨s, ats, -1, []⟩] := by simp [mn]

theorem RA.vals {b0 : Nat} {w : World} {v0 v1 v2 v3 : Value} {M : List MN} (h : RA b0 w v0 v1 v2 v3 M) {n : Nat} (hn : M.length = n) : ∃ a0 c0 a1 c1 a2 c2 a3 c3, v0 = .slice a0 n c0 ∧ v1 = .slice a1 n c1 ∧ v2 = .slice a2 n c2 ∧ v3 = .slice a3 n c3 := by
  subst hn
  obtain ⟨a0, c0, rfl, -⟩ := h.nms.slice
  obtain ⟨xa, h1, -⟩ := h.ats
  obtain ⟨a1, c1, rfl, -⟩ := h1.slice
  obtain ⟨xi, h2, -⟩ := h.inn
  obtain ⟨a2, c2, rfl, -⟩ := h2.slice
  obtain ⟨a3, c3, rfl, -⟩ := h.par.slice
  exact ⟨a0, c0, a1, c1, a2, c2, a3, c3, rfl, rfl, rfl, rfl⟩

/-- the document's arena answers with an element more; it lies behind all others -/
theorem relem0 {b0 : Nat} {w : World} {v0 v1 v2 v3 : Value} {L : List QN} (h : RA b0 w v0 v1 v2 v3 (L.map mn)) (hb0 : b0 ≤ w.heap.size) (nm : List UInt8) (ats : List At.At) (a : Option Addr) (c : Nat) (hs : Sl ats a c w) (hsb : ats ≠ [] → ∀ ad, a = some ad → ad.block < b0) (hM : L.length + 1 ≤ 8000000) :
    Calls Try.prog 11 #[.agg #[v0, v1, v2, v3, .int .i64 0], .string ⟨nm.toArray⟩, .slice a ats.length c] w fun e w' => ∃ N a0 c0 a1 c1 a2 c2 a3 c3, e = .returned (.tuple #[.agg #[.slice a0 N c0, .slice a1 N c1, .slice a2 N c2, .slice a3 N c3, .int .i64 0], .int .i64 (L.length : Int)]) ∧
      RA b0 w' (.slice a0 N c0) (.slice a1 N c1) (.slice a2 N c2) (.slice a3 N c3) (L.map mn ++ [⟨nm, ats, -1, []⟩]) ∧ Below w.heap.size w w' ∧ ∀ g, (Value.slice a3 N c3).ownBlock = some g → w.heap.size ≤ g := by
  refine (relem_any h hb0 nm ats a c 0 hs hsb (by rw [List.length_map]; exact hM)).mono ?_
  rintro e w' ⟨v0, v1, v2, v3, rfl, hr, hb, hF⟩
  obtain ⟨a0, c0, a1, c1, a2, c2, a3, c3, rfl, rfl, rfl, rfl⟩ := hr.vals rfl
  rw [List.length_map]
  exact ⟨_, a0, c0, a1, c1, a2, c2, a3, c3, rfl, hr, hb, hF⟩

/-- a block of another type, over what becomes of the memory -/
theorem Ev.bx {B Bv n g : Nat} {v v' : Value} {w w' : World} {xs : List Value} {cs : Array Value} {t : TypeId} (he : Ev B v v' w w') (hv : Rw Bv 3 1 v n xs w) (h : Bx g cs t w) (h1 : t ≠ 63) (h2 : t ≠ 113) (h3 : t ≠ 5) (h4 : t ≠ 66) (h5 : t ≠ 68) (h6 : t ≠ 3) : Bx g cs t w' :=
  (he.keep g t h.ty h1 h2 h3 h4 h5 fun e => h6 (Ty.uniq h.ty (hv.ty e.symm))).trans h

/-- the document's arena has an element more, the program's has not -/
structure Lm (b0 B G : Nat) (w wr : World) (R Ls : Nat) (L : List QN) (s : List UInt8) (ats : List At.At) (E : List Int) (vn v d0 d1 d2 d3 u : Value) : Prop where
  st : ST B wr R Ls L E vn v
  ra : RA b0 wr d0 d1 d2 d3 (L.map mn ++ [⟨s, ats, -1, []⟩])
  box : Bx G #[d0, d1, d2, d3, .int .i64 0] 31 wr
  want : Rw b0 3 1 u E.length (ints E) wr
  apP : Apart d3 v
  apW : Apart u v
  below : Below w.heap.size w wr

theorem Lm.more {b0 B G : Nat} {w wr wx : World} {R Ls : Nat} {L : List QN} {s : List UInt8} {ats : List At.At} {E : List Int} {vn v d0 d1 d2 d3 u : Value} (h : Lm b0 B G w wr R Ls L s ats E vn v d0 d1 d2 d3 u) (hb : Below wr.heap.size wr wx) : Lm b0 B G w wx R Ls L s ats E vn v d0 d1 d2 d3 u :=
  ⟨h.st.below hb, h.ra.below hb, h.box.below hb, h.want.below hb, h.apP, h.apW, h.below.trans (hb.mono h.below.size)⟩

/-- the program's arena has it, too -/
theorem Lm.lq {b0 B G : Nat} {w wr wx : World} {R Ls : Nat} {L : List QN} {s : List UInt8} {ats : List At.At} {E : List Int} {vn vn' v d0 d1 d2 d3 u : Value} {sa x : Value} (h : Lm b0 B G w wr R Ls L s ats E vn v d0 d1 d2 d3 u) (hb0 : b0 ≤ B) (hw : w.heap.size ≤ B) (hs : ST B wx R Ls (L ++ [⟨s, ats, sa, -1, [], x⟩]) E vn' v) (he : Ev B v v wr wx) : Lq b0 B G w wx R Ls (L ++ [⟨s, ats, sa, -1, [], x⟩]) E E vn' v d0 d1 d2 d3 u := by
  obtain ⟨h1, h2⟩ := RA.ev he hb0 h.st.lr.row h.ra h.apP
  obtain ⟨h3, h4⟩ := he.row h.want (by decide) (by decide) (by decide) (by decide) (by decide) h.apW
  exact ⟨hs, by rw [map_mn]; exact h1, he.bx h.st.lr.row h.box (by decide) (by decide) (by decide) (by decide) (by decide) (by decide), h3, h2, h4, h.below.trans (he.below.mono hw)⟩

/-- the arena stored in its box -/
theorem Lq.store {b0 B G : Nat} {w wr wx : World} {R Ls : Nat} {L : List QN} {s : List UInt8} {ats : List At.At} {E : List Int} {vn v d0 d1 d2 d3 u y0 y1 y2 y3 : Value} (h : Lq b0 B G w wr R Ls L E E vn v d0 d1 d2 d3 u) (hb : Below wr.heap.size wr wx) (hG : b0 ≤ G) (hw : w.heap.size ≤ G) (hr : RA b0 wx y0 y1 y2 y3 (L.map mn ++ [⟨s, ats, -1, []⟩])) (hap : Apart y3 v)
    {W : World} (hW : ((((wx.setCell ⟨G, 0, none⟩ y0).setCell ⟨G, 1, none⟩ y1).setCell ⟨G, 2, none⟩ y2).setCell ⟨G, 3, none⟩ y3).setCell ⟨G, 4, none⟩ (.int .i64 0) = W) :
    Lm b0 B G w W R Ls L s ats E vn v y0 y1 y2 y3 u := by
  have hm := h.more hb
  have hT := hm.box.ty
  have keep : ∀ g e, Ty wx g e → e ≠ 31 → W.heap[g]? = wx.heap[g]? := by
    intro g e hg he
    have hne : g ≠ G := fun e' => by subst e'; exact he (hg.uniq hT)
    rw [← hW, Below.heap_setCell _ _ _ _ hne, Below.heap_setCell _ _ _ _ hne, Below.heap_setCell _ _ _ _ hne, Below.heap_setCell _ _ _ _ hne, Below.heap_setCell _ _ _ _ hne]
  refine ⟨⟨?_, ?_, hm.st.ok, hm.st.hal⟩, by rw [← hW]; exact hr.set5 hT hG _ _ _ _ _, by rw [← hW]; exact hm.box.set5 _ _ _ _ _, hm.want.same fun g hg => keep g 3 (hm.want.ty hg) (by decide), hap, hm.apW, by rw [← hW]; exact below_set5 hm.below hw _ _ _ _ _⟩
  · have ha := hm.st.ar
    have st : ∀ {e kk m : Nat} {v : Value} {xs : List Value}, Rw B e kk v m xs wx → e ≠ 31 → Rw B e kk v m xs W := fun hr h1 => hr.same fun g hg => keep g _ (hr.ty hg) h1
    exact ⟨ha.hB, (keep R 66 ha.ty (by decide)).trans ha.blk, st ha.nodes (by decide), fun n hn => st (ha.attrs n hn) (by decide), fun n hn => st (ha.inner n hn) (by decide), fun n hn p hp => st (ha.texts n hn p hp) (by decide), ha.apI, ha.apT⟩
  · exact hm.st.lr.same (keep Ls 68 hm.st.lr.blk.ty (by decide)) fun g hg => keep g 3 (hm.st.lr.row.ty hg) (by decide)

theorem psh_length_le (L : List QN) (n : QN) (E : List Int) (m k : Nat) (h : E.length ≤ k) : (psh L n E m).length ≤ k + 1 := by
  have := psh_len L n E m
  omega
theorem eraseIdx_le (E : List Int) (i k : Nat) (h : E.length ≤ k) : (E.eraseIdx i).length ≤ k := Nat.le_trans (List.length_eraseIdx_le _ _) h

/-- is there an element at a place? -/
def isB (E : List Int) (i : Nat) : Bool := match E[i]? with
  | some x => x != -1
  | none => false
theorem isB_yes {E : List Int} {i : Nat} (h : isB E i = true) : ∃ x, E[i]? = some x ∧ x ≠ -1 := by
  unfold isB at h
  cases hx : E[i]? with
  | none => rw [hx] at h; cases h
  | some x => rw [hx] at h; exact ⟨x, rfl, bne_iff_ne.1 h⟩
theorem isB_at {E : List Int} {i : Nat} {x : Int} (hx : E[i]? = some x) : isB E i = (x != -1) := by unfold isB; rw [hx]
theorem isB_end {E : List Int} {i : Nat} (h : E.length ≤ i) : isB E i = false := by unfold isB; rw [List.getElem?_eq_none h]

theorem Lq.ri {b0 B G : Nat} {w wr : World} {R Ls : Nat} {L : List QN} {E E0 : List Int} {vn v d0 d1 d2 d3 : Value} {a : Option Addr} {c : Nat} (h : Lq b0 B G w wr R Ls L E E0 vn v d0 d1 d2 d3 (.slice a E0.length c)) : Ri E0 a c wr := by
  obtain ⟨a', c', e, hr⟩ := h.want.ri
  cases e
  exact hr
theorem Rw.ha {B n : Nat} {a : Option Addr} {c : Nat} {xs : List Value} {w : World} (h : Rw B 3 1 (.slice a n c) n xs w) : a = none ∨ ∃ b, a = some ⟨b, 0, none⟩ := by
  rcases h.2 with ⟨e, -⟩ | ⟨g, c', e, -⟩
  · cases e; exact Or.inl rfl
  · cases e; exact Or.inr ⟨g, rfl⟩
theorem Ri.cell {E : List Int} {a : Option Addr} {c : Nat} {w : World} (h : Ri E a c w) {i : Nat} {x : Int} (hx : E[i]? = some x) : ∃ b, a = some ⟨b, 0, none⟩ ∧ w.cell? ⟨b, i, none⟩ = some (.int .i64 x) := by
  rcases h.2 with h0 | ⟨b, rfl, hc⟩
  · subst h0; cases hx
  · exact ⟨b, rfl, hc i x hx⟩
theorem same_self (E : List Int) (a a2 : Option Addr) (c c2 : Nat) (w : World) (h : Ri E a c w) (h2 : Ri E a2 c2 w) (hl : E.length ≤ 1000000) :
    Calls Try.prog 24 #[.slice a E.length c, .slice a2 E.length c2] w fun e w' => e = .returned (.bool true) ∧ Below w.heap.size w w' :=
  (same_ints E E a a2 c c2 w h h2 hl hl).mono fun e w' h => ⟨by rw [h.1, decide_eq_true rfl], h.2⟩
theorem clrN_le (E : List Int) : clrN E ≤ E.length := by unfold clrN; omega
theorem lst_pos {L : List QN} {E : List Int} (hok : Ok L E) {s : List UInt8} {p : Nat × Int} (h : lst L E s = some p) : 0 < p.2 := by
  have hm := bb_mem (List.mem_of_find?_eq_some h)
  exact (hok _ hm.1 hm.2.1).1
end Go.Proofs.Ytnnidajflnandaa
