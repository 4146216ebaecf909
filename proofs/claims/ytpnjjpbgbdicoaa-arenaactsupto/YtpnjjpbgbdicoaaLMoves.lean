/- The law ArenaMoves, walked. -/
import Derived.Test.YtpnjjpbgbdicoaaMvC
import Derived.Test.YtpnjjpbgbdicoaaLBuilds
namespace Go.Proofs.Ytpnjjpbgbdicoaa
open Go.RowKit Go.Lib
open At (Str cellsA cellsA_len Sl below_drewN)

set_option maxHeartbeats 4000000 in
set_option maxRecDepth 100000 in
theorem arenaMoves_few (f g : F) (P : Nat → Prop) (a b : Option Addr) (c cb : Nat) (w : World) (hs : NSl w P f a c) (ht : NSl w P g b cb) (hf : f.wt ≤ 2000000) (hg : g.wt ≤ 2000000) (hn : fewF f = false ∨ fewF g = false) :
    Calls Try.prog 6 #[.slice a f.len c, .slice b g.len cb] w fun e w' => e = .returned (.bool true) ∧ Below w.heap.size w w' := by
  by_cases h1 : fewF f = true
  · have h2 : fewF g = false := by
      rcases hn with h | h
      · rw [h1] at h; cases h
      · exact h
    have S1 := Lib.hid (fun wx hbx => few_any f P a c wx hf (hs.below hbx))
    have S2 := Lib.hid (fun wx hbx => few_any g P b cb wx hg (ht.below hbx))
    rw [h1] at S1
    rw [h2] at S2
    clear hs ht hn h1 h2
    go_enter Try.func6, Try.ntmps6
    go_wp2_with fail
    refine (speaks_any _).mono ?_
    rintro e w1 ⟨rfl, hb1⟩
    have c2 := S1.out w1 hb1
    have HB1 := Lib.hid hb1
    clear hb1
    go_wp2_with fail
    refine c2.mono ?_
    rintro e w2 ⟨rfl, hb2⟩
    have HB2 := Lib.hid (below_trans HB1.out hb2)
    have c3 := S2.out w2 HB2.out
    clear hb2 c2
    go_wp2_with fail
    refine c3.mono ?_
    rintro e w3 ⟨rfl, hb3⟩
    have HB3 := Lib.hid (below_trans HB2.out hb3)
    clear hb3 c3
    go_wp2_with fail
    refine (speaks_any _).mono ?_
    rintro e w4 ⟨rfl, hb4⟩
    go_wp2
    go_ret
    exact ⟨rfl, below_trans HB3.out hb4⟩
  · have h1' : fewF f = false := by simpa using h1
    have S1 := Lib.hid (fun wx hbx => few_any f P a c wx hf (hs.below hbx))
    rw [h1'] at S1
    clear hs ht hn h1 h1'
    go_enter Try.func6, Try.ntmps6
    go_wp2_with fail
    refine (speaks_any _).mono ?_
    rintro e w1 ⟨rfl, hb1⟩
    have c2 := S1.out w1 hb1
    have HB1 := Lib.hid hb1
    clear hb1
    go_wp2_with fail
    refine c2.mono ?_
    rintro e w2 ⟨rfl, hb2⟩
    have HB2 := Lib.hid (below_trans HB1.out hb2)
    clear hb2 c2
    go_wp2_with fail
    refine (speaks_any _).mono ?_
    rintro e w4 ⟨rfl, hb4⟩
    go_wp2
    go_ret
    exact ⟨rfl, below_trans HB2.out hb4⟩

/-- the captured pointer alone -/
def CP (R g5 : Nat) (w : World) : Prop := w.cell? ⟨g5, 0, none⟩ = some (.pointer (some ⟨R, 0, none⟩)) ∧ Ty w g5 24
theorem ClF.cp {R g3 g4 t4 : Nat} {fv : Value} {w : World} (h : ClF R g3 g4 t4 fv w) : CP R g3 w := ⟨h.c3, h.y3⟩
theorem CP.chg {B R g : Nat} {w w' : World} (h : CP R g w) (hc : Chg B w w') : CP R g w' := ⟨hc.cell h.2 (by decide) (by decide) (by decide) (by decide) h.1, h.2.chg hc (by decide) (by decide) (by decide) (by decide)⟩
theorem CP.below {R g : Nat} {w w' : World} (h : CP R g w) (hb : Below w.heap.size w w') : CP R g w' := ⟨(hb.cell (p := ⟨g, 0, none⟩) h.2.lt).trans h.1, h.2.same (hb.block g h.2.lt)⟩

/-- rows that lie behind S stay while the arena's own ahead of it change -/
theorem NOwn.win {S B e : Nat} {P : Nat → Prop} {w w' : World} {v : Value} {f : F} (h : NOwn w B e P v f) (hB : S ≤ B) (hP : ∀ b, P b → S ≤ b) (hw : Win S w w') : NOwn w' B e P v f := by
  obtain ⟨us, h1, h2⟩ := h
  refine ⟨us, ⟨h1.1, ?_⟩, NV.mono (fun _ hb _ => hb.1) (NV.kept (fun q hq => hw.2 q (hP q hq.1.1) hq.2) h2.lt)⟩
  rcases h1.2 with h0 | ⟨g, cap, cur, hv, hg, hh, r⟩
  · exact Or.inl h0
  · exact Or.inr ⟨g, cap, cur, hv, hg, (hw.2 g (Nat.le_trans hB hg) ((Array.getElem?_eq_some_iff.1 hh).1)).trans hh, r⟩
theorem NSl.win {S : Nat} {P : Nat → Prop} {w w' : World} {f : F} {a : Option Addr} {c : Nat} (h : NSl w P f a c) (hP : ∀ b, P b → S ≤ b) (hw : Win S w w') : NSl w' P f a c := by
  obtain ⟨h1, h2⟩ := h.lt
  refine ⟨h1, ?_⟩
  rcases h2 with h2 | ⟨b, off, us, rfl, hp, h3, h4⟩
  · exact Or.inl h2
  · exact Or.inr ⟨b, off, us, rfl, hp.1, fun j u hj => (World.cell?_of_block (hw.2 b (hP b hp.1) hp.2)).trans (h3 j u hj), NV.mono (fun _ hb _ => hb.1) (NV.kept (fun q hq => hw.2 q (hP q hq.1) hq.2) h4)⟩
theorem NSl.kept2 {P : Nat → Prop} {w w' : World} {f : F} {a : Option Addr} {c : Nat} (h : NSl w P f a c) (hw : ∀ b, P b → b < w.heap.size → w'.heap[b]? = w.heap[b]?) : NSl w' P f a c := by
  obtain ⟨h1, h2⟩ := h.lt
  refine ⟨h1, ?_⟩
  rcases h2 with h2 | ⟨b, off, us, rfl, hp, h3, h4⟩
  · exact Or.inl h2
  · exact Or.inr ⟨b, off, us, rfl, hp.1, fun j u hj => (World.cell?_of_block (hw b hp.1 hp.2)).trans (h3 j u hj), NV.mono (fun _ hb _ => hb.1) (NV.kept (fun q hq => hw q hq.1 hq.2) h4)⟩
/-- the arena stays while a row of nodes grows -/
theorem AR.grown69 {B B' R cp n : Nat} {L : List QN} {vn u : Value} {xs : List Value} {w w' : World} (h : AR B w R L cp vn) (hu : Rw B' 69 4 u n xs w) (hg : w.grownBy w' u.ownBlock) : AR B w' R L cp vn :=
  ⟨h.hB, (hg.block R h.lt (hu.type_ne h.ty (by decide))).trans h.blk, h.nodes.kept hg (h.nodes.types hu (by decide)), fun m hm => (h.attrs m hm).kept hg ((h.attrs m hm).types hu (by decide)), fun m hm => (h.inner m hm).kept hg ((h.inner m hm).types hu (by decide)), fun m hm p hp => (h.texts m hm p hp).kept hg ((h.texts m hm p hp).types hu (by decide)), h.apI, h.apT⟩
theorem CP.grown69 {B' R g n : Nat} {u : Value} {xs : List Value} {w w' : World} (h : CP R g w) (hu : Rw B' 69 4 u n xs w) (hg : w.grownBy w' u.ownBlock) : CP R g w' := by
  have hb := hg.block g h.2.lt (hu.type_ne h.2 (by decide))
  exact ⟨(World.cell?_of_block (a := ⟨g, 0, none⟩) hb).trans h.1, h.2.same hb⟩
theorem append_want {ops : Array Oper} {rest : List Oper} {o : Oper} {a : Act} {w : World} {Q : Exit → Act → World → Prop} (hw : Region.wanted o (yielded ops a.tmps) = true) (s x : Operand) (t tn : TypeId)
    (ho : o.op = .call { callee := .builtin .append, args := #[s, x], argTypes := #[t, tn] }) (vs vx : Value) (hs : a.eval s = vs) (hx : a.eval x = vx)
    (v' : Value) (w' : World) (hr : (Builtin.append_ #[t, tn] o.type #[vs, vx]).run Try.prog w = .ok v' w') (h : wpList Try.prog ops Q rest (a.put o.dst v') w') : wpList Try.prog ops Q (o :: rest) a w :=
  BigFrame.wpList_want hw fun _ hK => Lib.wp_append_run w s x t tn ho vs vx hs hx v' w' hr (hK _ _ h)

/-- the arena's first steps -/
def r0 (l : List QP) (vi : Value) : QN := ⟨[], [], .slice none 0 0, -1, l, vi⟩
def pn (c : UInt8) (sa : Value) (p : Int) : QN := ⟨[c], [], sa, p, [], .slice none 0 0⟩

theorem elem_p {B R : Nat} {vn : Value} {w : World} (h : AR B w R rootL 0 vn) : Calls Try.prog 13 #[.pointer (some ⟨R, 0, none⟩), .string ⟨#[112]⟩, .slice none 0 0] w (fun e w' => e = .returned (.int .i64 1) ∧ ∃ sa vn', AR B w' R [r0 [] (.slice none 0 0), pn 112 sa (-1)] 0 vn' ∧ Chg B w w') := by
  have := element_any h [112] [] none 0 ⟨Nat.le_refl _, fun _ => ⟨rfl, rfl⟩, Or.inl rfl⟩ (by decide) (by decide)
  refine this.mono ?_
  rintro e w' ⟨rfl, sa, vn', h1, h2⟩
  exact ⟨rfl, sa, vn', h1, h2⟩
theorem elem_q {B R : Nat} {vn sa : Value} {w : World} (h : AR B w R [r0 [] (.slice none 0 0), pn 112 sa (-1)] 0 vn) : Calls Try.prog 13 #[.pointer (some ⟨R, 0, none⟩), .string ⟨#[113]⟩, .slice none 0 0] w (fun e w' => e = .returned (.int .i64 2) ∧ ∃ sa2 vn', AR B w' R [r0 [] (.slice none 0 0), pn 112 sa (-1), pn 113 sa2 (-1)] 0 vn' ∧ Chg B w w') := by
  have := element_any h [113] [] none 0 ⟨Nat.le_refl _, fun _ => ⟨rfl, rfl⟩, Or.inl rfl⟩ (by decide : 2 + 1 ≤ 8000000) (by decide)
  refine this.mono ?_
  rintro e w' ⟨rfl, sa2, vn', h1, h2⟩
  exact ⟨rfl, sa2, vn', h1, h2⟩
theorem put_p {B R : Nat} {vn sa sa2 : Value} {w : World} (h : AR B w R [r0 [] (.slice none 0 0), pn 112 sa (-1), pn 113 sa2 (-1)] 0 vn) : Calls Try.prog 19 #[.pointer (some ⟨R, 0, none⟩), .int .i64 0, .int .i64 1] w (fun e w' => e = .returned (.tuple #[]) ∧ ∃ vi, AR B w' R [r0 [⟨1, [], .slice none 0 0⟩] vi, pn 112 sa 0, pn 113 sa2 (-1)] 0 vn ∧ Chg B w w') := by
  have := append_fresh h 0 1 (by decide) (r0 [] (.slice none 0 0)) (pn 112 sa (-1)) rfl rfl rfl 1 ⟨0, _, rfl, by decide, rfl, rfl⟩ (fun n hn => by
    simp only [List.mem_cons, List.not_mem_nil, or_false] at hn
    rcases hn with rfl | rfl | rfl <;> exact (by decide : 0 + 1 ≤ 8000000))
  refine this.mono ?_
  rintro e w' ⟨rfl, vi, h1, h2⟩
  exact ⟨rfl, vi, h1, h2⟩
theorem put_q {B R : Nat} {vn sa sa2 vi : Value} {w : World} (h : AR B w R [r0 [⟨1, [], .slice none 0 0⟩] vi, pn 112 sa 0, pn 113 sa2 (-1)] 0 vn) : Calls Try.prog 19 #[.pointer (some ⟨R, 0, none⟩), .int .i64 0, .int .i64 2] w (fun e w' => e = .returned (.tuple #[]) ∧ ∃ vi, AR B w' R (Ld sa sa2 vi) 0 vn ∧ Chg B w w') := by
  have := append_fresh h 0 2 (by decide) (r0 [⟨1, [], .slice none 0 0⟩] vi) (pn 113 sa2 (-1)) rfl rfl rfl 1 ⟨0, _, rfl, by decide, rfl, rfl⟩ (fun n hn => by
    simp only [List.mem_cons, List.not_mem_nil, or_false] at hn
    rcases hn with rfl | rfl | rfl
    · exact (by decide : 1 + 1 ≤ 8000000)
    · exact (by decide : 0 + 1 ≤ 8000000)
    · exact (by decide : 0 + 1 ≤ 8000000))
  refine this.mono ?_
  rintro e w' ⟨rfl, vi, h1, h2⟩
  exact ⟨rfl, vi, h1, h2⟩

/-- the root's condition of Nodes -/
theorem root_ok {L : List QN} {n0 : QN} (h0 : L[0]? = some n0) (h1 : n0.nm = []) (h2 : n0.ats = []) : ∀ (k : Nat) (m : QN), L[k]? = some m → k ≠ 0 ∨ (m.nm = [] ∧ m.ats = []) := by
  intro k m hk
  rcases Nat.eq_zero_or_pos k with rfl | hk0
  · right
    rw [h0] at hk
    cases hk
    exact ⟨h1, h2⟩
  · left; omega

/-- second's nodes with first's behind them -/
theorem app_both {S : Nat} {w w' : World} {fA fB : F} {B2 : Nat} {a1 a2 : Option Addr} {c1 c2 : Nat} (h1 : NSl w (fun b => S ≤ b ∧ b < B2) fA a1 c1) (h2 : NOwn w B2 69 (fun b => B2 ≤ b) (.slice a2 fB.len c2) fB) (hS : S ≤ B2) (hw : Win S w w') (hl : fB.len + fA.len ≤ 8000000) (hB2 : B2 ≤ w'.heap.size) :
    ∃ a3 c3 w3, (Builtin.append_ #[54, 54] 54 #[.slice a2 fB.len c2, .slice a1 fA.len c1]).run Try.prog w' = .ok (.slice a3 (fB.app fA).len c3) w3 ∧ NSl w3 (fun _ => True) (fB.app fA) a3 c3 ∧ w'.grownBy w3 (Value.slice a2 fB.len c2).ownBlock ∧ ∀ b, (Value.slice a2 fB.len c2).ownBlock = some b → B2 ≤ b := by
  have h1' := h1.win (fun b hb => hb.1) hw
  have h2' := (h2.win hS (fun b hb => Nat.le_trans hS hb) hw).mono (Q := fun _ => True) (fun _ _ _ => trivial)
  have hb2 : ∀ b, (Value.slice a2 fB.len c2).ownBlock = some b → B2 ≤ b := by
    intro b hb
    obtain ⟨us, q1, -⟩ := h2'
    exact (q1.lt b hb).1
  obtain ⟨v', w3, hr, h3, h4⟩ := app_nodes elem54 w' B2 (fun _ => True) (.slice a2 fB.len c2) fB fA a1 c1 h2' (h1'.mono fun b hb => ⟨trivial, fun he => by
    have := hb2 b he.symm
    omega⟩) hl hB2
  obtain ⟨a3, c3, rfl, h5⟩ := h3.sl
  exact ⟨a3, c3, w3, hr, h5.mono fun _ _ => trivial, h4, hb2⟩
set_option maxHeartbeats 8000000 in
set_option maxRecDepth 100000 in
theorem arenaMoves_walk (f g : F) (P Q : Nat → Prop) (a b : Option Addr) (c cb : Nat) (w : World) (hs0 : NSl w P f a c) (ht0 : NSl w Q g b cb) (hf : f.wt ≤ 1048576) (hg : g.wt ≤ 1048576) (hsf : f.small 400000) (hsg : g.small 400000) (hn1 : fewF f = true) (hn2 : fewF g = true) :
    Calls Try.prog 6 #[.slice a f.len c, .slice b g.len cb] w fun e w' => e = .returned (.bool true) ∧ Below w.heap.size w w' := by
  obtain ⟨m1, d1⟩ := few_small hn1
  obtain ⟨m2, d2⟩ := few_small hn2
  have l1 := F.len_many f
  have l2 := F.len_many g
  have hs := hs0.lt.mono (Q := fun b => b < w.heap.size) (fun b h => h.2)
  have ht := ht0.lt.mono (Q := fun b => b < w.heap.size) (fun b h => h.2)
  have S1 := Lib.hid (fun wx hbx => few_any f _ a c wx (by omega) (hs.below hbx))
  have S2 := Lib.hid (fun wx hbx => few_any g _ b cb wx (by omega) (ht.below hbx))
  have PU := Lib.hid (fun B R g3 g4 wx sa sa2 vi vn (hbx : Below w.heap.size w wx) (hB : w.heap.size ≤ B) (h : AR B wx R (Ld sa sa2 vi) 0 vn) hc => mput_any B R 0 g3 g4 _ rfl f.wt f (fun b => b < w.heap.size) a c wx (Ld sa sa2 vi) vn 3 1 2 _ .nil rfl hsf (by omega) (fun b h => Nat.lt_of_lt_of_le h hB) (hs.below hbx) h hc (ld_par _ _ _) (ld_nmd _ _ _) (show (Ld sa sa2 vi)[1]? = some ⟨[112], [], sa, 0, [], .slice none 0 0⟩ from rfl) (by show TG _ _ [] .nil; simp only [TG]) (by decide) (by show 2 < 3; decide) (ld_bd _ _ _) (by omega))
  have PV := Lib.hid (fun B R g3 g4 wx L1 q vn K (hbx : Below w.heap.size w wx) (hB : w.heap.size ≤ B) (h : AR B wx R L1 0 vn) hc hp hn (hq : L1[2]? = some q) (hab : ab q = ⟨[113], [], 0, []⟩) hbd (hK : K ≤ 1048579) => mput_any B R 0 g3 g4 _ rfl g.wt g (fun b => b < w.heap.size) b cb wx L1 vn K 2 2 q .nil rfl hsg (by omega) (fun b h => Nat.lt_of_lt_of_le h hB) (ht.below hbx) h hc hp hn hq (by rw [show q.inn.map abp = [] from congrArg MN.inn hab]; show TG _ _ [] .nil; simp only [TG]) (by decide) (List.getElem?_eq_some_iff.1 hq).1 hbd (by omega))
  rw [hn1] at S1
  rw [hn2] at S2
  have hml := F.mg_len f .nil
  have hmk := F.mg_len g .nil
  simp only [F.len] at hml hmk
  have hmsf : (F.mg .nil f).small 400000 := F.mg_small 400000 hsf (d := .nil) trivial
  have hmsg : (F.mg .nil g).small 400000 := F.mg_small 400000 hsg (d := .nil) trivial
  obtain ⟨fA, hfA⟩ : ∃ fA, F.mg .nil f = fA := ⟨_, rfl⟩
  obtain ⟨fB, hfB⟩ : ∃ fB, F.mg .nil g = fB := ⟨_, rfl⟩
  rw [hfA] at PU hml hmsf
  rw [hfB] at PV hmk hmsg
  have hlA : fA.len ≤ 60 := by omega
  have hlB : fB.len ≤ 60 := by omega
  have HW := Lib.hid (show f.wt ≤ 1048576 ∧ g.wt ≤ 1048576 from ⟨hf, hg⟩)
  have HSA := Lib.hid hmsf
  have HSB := Lib.hid hmsg
  have HLL := Lib.hid (show fA.len ≤ 60 ∧ fB.len ≤ 60 from ⟨hlA, hlB⟩)
  clear hs hs0 ht ht0 hn1 hn2 hsf hsg hmsf hmsg hml hmk hfA hfB m1 m2 d1 d2 l1 l2 hf hg hlA hlB
  go_enter Try.func6, Try.ntmps6
  go_wp2_with fail
  refine (speaks_any _).mono ?_
  rintro e w1 ⟨rfl, hb1⟩
  have c2 := S1.out w1 hb1
  have HB1 := Lib.hid hb1
  clear hb1
  go_wp2_with fail
  refine c2.mono ?_
  rintro e w2 ⟨rfl, hb2⟩
  have HB2 := Lib.hid (below_trans HB1.out hb2)
  have c3 := S2.out w2 HB2.out
  clear hb2 c2
  go_wp2_with fail
  refine c3.mono ?_
  rintro e w2' ⟨rfl, hb2'⟩
  have HB2' := Lib.hid (below_trans HB2.out hb2')
  clear hb2' c3
  go_wp2_with fail
  refine (new_any w2').mono ?_
  rintro e w3 ⟨R, vn, rfl, ha3, hb3⟩
  have HB3 := Lib.hid (below_trans HB2'.out hb3)
  have HA3 := Lib.hid ha3
  clear hb3 ha3
  obtain ⟨W4, hW4⟩ : ∃ W4, (w3.alloc (.cells #[.pointer (some ⟨R, 0, none⟩)] 24)).alloc (.cells #[.nilFunc] 71) = W4 := ⟨_, rfl⟩
  have x4 : W4.cell? ⟨w3.heap.size + 1, 0, none⟩ = some .nilFunc := by rw [← hW4]; simp
  have z4 : W4.frozen? ⟨w3.heap.size + 1, 0, none⟩ = false := by rw [← hW4]; exact frozen_of_heap (by have := heap_alloc_new (w3.alloc (.cells #[.pointer (some ⟨R, 0, none⟩)] 24)) (.cells #[.nilFunc] 71); simpa using this) 0
  have y4 : Ty W4 (w3.heap.size + 1) 71 := by rw [← hW4]; exact ⟨_, _, by have := heap_alloc_new (w3.alloc (.cells #[.pointer (some ⟨R, 0, none⟩)] 24)) (.cells #[.nilFunc] 71); simpa using this⟩
  have hb4 : Below w3.heap.size w3 W4 := by rw [← hW4]; exact (At.below_alloc _).alloc (by simp) _
  have hA' : Below (w3.alloc (.cells #[.pointer (some ⟨R, 0, none⟩)] 24)).heap.size (w3.alloc (.cells #[.pointer (some ⟨R, 0, none⟩)] 24)) W4 := by rw [← hW4]; exact At.below_alloc _
  have x3 : W4.cell? ⟨w3.heap.size, 0, none⟩ = some (.pointer (some ⟨R, 0, none⟩)) := (hA'.cell (p := ⟨w3.heap.size, 0, none⟩) (by simp)).trans (by simp)
  have y3 : Ty W4 w3.heap.size 24 := (show Ty (w3.alloc (.cells #[.pointer (some ⟨R, 0, none⟩)] 24)) w3.heap.size 24 from ⟨_, _, heap_alloc_new w3 _⟩).same (hA'.block _ (by simp))
  obtain ⟨W5, hW5⟩ : ∃ W5, W4.setCell ⟨w3.heap.size + 1, 0, none⟩ (.func (.func 42) #[] #[.pointer (some ⟨w3.heap.size, 0, none⟩), .pointer (some ⟨w3.heap.size + 1, 0, none⟩)]) = W5 := ⟨_, rfl⟩
  have hb5 : Below w3.heap.size w3 W5 := by rw [← hW5]; exact hb4.setCell (by simp) _
  have hC5 : ClF R w3.heap.size (w3.heap.size + 1) 71 (.func (.func 42) #[] #[.pointer (some ⟨w3.heap.size, 0, none⟩), .pointer (some ⟨w3.heap.size + 1, 0, none⟩)]) W5 := by
    rw [← hW5]
    exact ⟨by rw [World.cell?_setCell_far _ _ _ _ (by simp)]; exact x3, y3.setCell _ _ rfl, World.cell?_setCell_same' _ _ _ (by rw [x4]; rfl), y4.setCell _ _ rfl⟩
  have hBS : w2'.heap.size ≤ W5.heap.size := Nat.le_trans (Nat.le_trans HA3.out.hB (Nat.le_of_lt HA3.out.lt)) hb5.size
  have hC5d := hC5.chg (Or.inr rfl) (Chg.of_below hBS (below_drew W5))
  have HC5 := Lib.hid hC5d
  have p1 := hC5d.c3
  have hcp : CP R w3.heap.size W5 := hC5.cp
  have s5 := hcp.1
  have cE1 := elem_p ((HA3.out.below hb5).below (below_drew W5))
  have HB5 := Lib.hid ((below_trans HB3.out hb5).trans ((below_drew W5).mono (below_trans HB3.out hb5).size))
  clear hb4 hA' y3 y4 hb5 hC5 hC5d hcp hBS
  go_wp2_with fail
  go_region_held3 (fun wx => wx.cell? ⟨w3.heap.size, 0, none⟩ = some (.pointer (some ⟨R, 0, none⟩)))
    (first | with_reducible exact p1 | with_reducible exact p2 | with_reducible exact p3)
    (first
      | (go_at_call 13; with_reducible refine cE1.mono ?_; rintro e w6 ⟨rfl, sa, vn6, h6, hc6⟩; have cE2 := elem_q h6; have HC6 := Lib.hid (HC5.out.chg (Or.inr rfl) hc6); have HB6 := Lib.hid (HB5.out.trans (hc6.below.mono HB2'.out.size)); have p2 := HC6.out.c3; clear h6 hc6)
      | (go_at_call 13; with_reducible refine cE2.mono ?_; rintro e w7 ⟨rfl, sa2, vn7, h7, hc7⟩; have HC7 := Lib.hid (HC6.out.chg (Or.inr rfl) hc7); have HB7 := Lib.hid (HB6.out.trans (hc7.below.mono HB2'.out.size)); have H7 := Lib.hid h7; have p3 := HC7.out.c3; clear h7 hc7))
  have cA1 := put_p H7.out
  clear p1 p2 p3 cE1 cE2 s5 x4 z4 x3 hW4 hW5
  have t7 := HC7.out.c3
  go_wp2_with fail
  refine cA1.mono ?_
  rintro e w8 ⟨rfl, vi8, h8, hc8⟩
  have HC8 := Lib.hid (HC7.out.chg (Or.inr rfl) hc8)
  have HB8 := Lib.hid (HB7.out.trans (hc8.below.mono HB2'.out.size))
  have cA2 := put_q h8
  have t8 := HC8.out.c3
  clear h8 hc8 cA1 t7
  go_wp2_with fail
  refine cA2.mono ?_
  rintro e w9 ⟨rfl, vi9, h9, hc9⟩
  have HC9 := Lib.hid (HC8.out.chg (Or.inr rfl) hc9)
  have HB9 := Lib.hid (HB8.out.trans (hc9.below.mono HB2'.out.size))
  have t9 := HC9.out.c4
  have cP1 := PU.out w2'.heap.size R w3.heap.size (w3.heap.size + 1) w9 sa sa2 vi9 vn7 HB9.out HB2'.out.size h9 HC9.out
  clear h9 hc9 cA2 t8
  go_wp2_with fail
  refine cP1.mono ?_
  rintro e w10 ⟨rfl, L1, vn10, h10, hc10, hr10, hbd10⟩
  have HC10 := Lib.hid (HC9.out.chg (Or.inr rfl) hc10)
  have HB10 := Lib.hid (HB9.out.trans (hc10.below.mono HB2'.out.size))
  obtain ⟨q10, hq10, hab10⟩ := ahead_mid hr10
  have HR10 := Lib.hid hr10
  have HAB := Lib.hid hab10
  have t10 := HC10.out.c4
  have cP2 := PV.out w2'.heap.size R w3.heap.size (w3.heap.size + 1) w10 L1 q10 vn10 (3 + f.wt) HB10.out HB2'.out.size h10 HC10.out hr10.par hr10.nmd hq10 hab10 hbd10 (by have := HW.out; omega)
  clear h10 hc10 hr10 hbd10 hq10 hab10 cP1 t9
  go_wp2_with fail
  refine cP2.mono ?_
  rintro e w11 ⟨rfl, L2, vn11, h11, hc11, hr11, hbd11⟩
  have HC11 := Lib.hid (HC10.out.chg (Or.inr rfl) hc11)
  have HB11 := Lib.hid (HB10.out.trans (hc11.below.mono HB2'.out.size))
  obtain ⟨n0, n1, n2, hah⟩ := ahead_of HR10.out HAB.out hr11
  have HAH := Lib.hid hah
  have HBD := Lib.hid hbd11
  have H11 := Lib.hid h11
  have hok := root_ok hah.a0 (congrArg MN.nm hah.e0) (congrArg MN.ats hah.e0)
  have HOK := Lib.hid hok
  have CP11 := Lib.hid HC11.out.cp
  have hdr := below_drew w11
  have CPd := Lib.hid (CP11.out.below hdr)
  have t11 := CP11.out.1
  have p1 := CPd.out.1
  have Hd := Lib.hid (h11.below hdr)
  have HBd := Lib.hid (below_trans HB11.out hdr)
  have cN1 : Calls Try.prog 31 #[.pointer (some ⟨R, 0, none⟩), .int .i64 1] w11.drew (NodesPost fA w11.drew) := nodes_any fA Hd.out 1 n1 hah.a1 hah.t1.t (F.small_mono (by decide) HSA.out) (by have := HLL.out; omega) hok
  have N2 := Lib.hid (fun wx (hbx : Below w11.drew.heap.size w11.drew wx) => show Calls Try.prog 31 #[.pointer (some ⟨R, 0, none⟩), .int .i64 2] wx (NodesPost fB wx) from nodes_any fB (Hd.out.below hbx) 2 n2 hah.a2 hah.t2.t (F.small_mono (by decide) HSB.out) (by have := HLL.out; omega) hok)
  clear h11 hc11 hr11 hbd11 hah hok cP2 t10 hdr
  go_wp2_with fail
  go_region_held3 (fun wx => wx.cell? ⟨w3.heap.size, 0, none⟩ = some (.pointer (some ⟨R, 0, none⟩)))
    (first | with_reducible exact p1 | with_reducible exact p2 | with_reducible exact p3 | with_reducible exact p4 | with_reducible exact p5)
    (first
      | (go_at_call 31; (with_reducible refine cN1.mono ?_); rintro e w12 ⟨v12, rfl, ho12, hb12⟩; obtain ⟨a12, c12, rfl, hs12⟩ := ho12.sl; have cT1 := to_any fA.wt fA _ a12 c12 w12 rfl HSA.out (by have := HLL.out; omega) hs12; have HB12 := Lib.hid hb12; have p2 := (CPd.out.below hb12).1; have CP12 := Lib.hid (CPd.out.below hb12); clear ho12 hb12 hs12 cN1)
      | (go_at_call 30; (with_reducible refine cT1.mono ?_); rintro e w13 ⟨v13, rfl, ho13, hb13⟩; have HO13 := Lib.hid ho13; obtain ⟨a13, c13, rfl, -⟩ := ho13.sl; have HB13 := Lib.hid (below_trans HB12.out hb13); have cN2 := N2.out w13 (below_trans HB12.out hb13); have CP13 := Lib.hid (CP12.out.below hb13); have p3 := CP13.out.1; have HZ13 := Lib.hid (Nat.le_trans HB12.out.size (Nat.le_refl _)); clear ho13 hb13 cT1)
      | (go_at_call 31; (with_reducible refine cN2.mono ?_); rintro e w14 ⟨v14, rfl, ho14, hb14⟩; obtain ⟨a14, c14, rfl, hs14⟩ := ho14.sl; have cT2 := to_any fB.wt fB _ a14 c14 w14 rfl HSB.out (by have := HLL.out; omega) hs14; have HB14 := Lib.hid (below_trans HB13.out hb14); have HX14 := Lib.hid hb14; have CP14 := Lib.hid (CP13.out.below hb14); have p4 := CP14.out.1; clear ho14 hb14 hs14 cN2)
      | (go_at_call 30; (with_reducible refine cT2.mono ?_); rintro e w15 ⟨v15, rfl, ho15, hb15⟩; have HO15 := Lib.hid ho15; obtain ⟨a15, c15, rfl, -⟩ := ho15.sl; have HB15 := Lib.hid (below_trans HB14.out hb15); have HX15 := Lib.hid hb15; have CP15 := Lib.hid (CP14.out.below hb15); have p5 := CP15.out.1; clear ho15 hb15))
  have h15 := Hd.out.below HB15.out
  have h12s := HB12.out.size
  have h14s : w13.heap.size ≤ w14.heap.size := HX14.out.size
  have h15s : w14.heap.size ≤ w15.heap.size := HX15.out.size
  have h13s : w11.drew.heap.size ≤ w13.heap.size := HB13.out.size
  have hF15 : NSl w15 (fun b => w11.drew.heap.size ≤ b ∧ b < w14.heap.size) fA a13 c13 := by
    obtain ⟨a13', c13', hv, hsl⟩ := HO13.out.sl
    cases hv
    refine ((((hsl.mono (Q := fun b => w11.drew.heap.size ≤ b) ?_).below HX14.out).lt).below HX15.out)
    intro b hb
    rcases hb with ⟨hb, -⟩ | ⟨-, hb⟩ <;> omega
  have HF15 := Lib.hid hF15
  have cM : Calls Try.prog 23 #[.pointer (some ⟨R, 0, none⟩), .int .i64 1, .int .i64 2] w15 (MovePost w2'.heap.size R 0 w11.drew.heap.size L2 vn11 1 2 n1 n2 w15) :=
    move_any h15 1 2 (by decide) n1 n2 HAH.out.a1 HAH.out.a2 2 ⟨2, n2, rfl, by decide, HAH.out.a2, by rw [HAH.out.e2.2.2]; exact ⟨0, n0, rfl, by decide, HAH.out.a0, congrArg MN.par HAH.out.e0⟩⟩
      (fun p hp => by
        have := HAH.out.t1.gt (abp p) (List.mem_map.2 ⟨p, hp, rfl⟩)
        have e : (abp p).1 = p.el := rfl
        have h2 := (List.getElem?_eq_some_iff.1 HAH.out.a2).1
        rw [List.length_map] at this
        omega)
      (by have h1 := HBD.out.inn n1 (mem_of_at HAH.out.a1); have h2 := HBD.out.inn n2 (mem_of_at HAH.out.a2); have := HW.out; omega) (by have := HBD.out.len; have := HW.out; omega)
      w11.drew.heap.size (fun b hb => (Hd.out.nodes.lt b hb).2) (fun b hb => ((Hd.out.inner n2 (mem_of_at HAH.out.a2)).lt b hb).2)
  have t15 := CP15.out.1
  clear h15 p1 p2 p3 p4 p5 t11 hF15
  go_wp2_with fail
  refine cM.mono ?_
  rintro e w16 ⟨rfl, ni2, nk2, v16, hi16, hk16, h16, hc16, hw16⟩
  obtain ⟨p16, q16, hbe⟩ := behind_of (v' := v16) HAH.out hi16 hk16
  have HBE := Lib.hid hbe
  have H16 := Lib.hid h16
  have CP16 := Lib.hid (CP15.out.chg hc16)
  have HW16 := Lib.hid hw16
  have HB16 := Lib.hid ((below_trans HBd.out HB15.out).trans (hc16.below.mono HB2'.out.size))
  obtain ⟨L3, hL3⟩ : ∃ L3, (((rep 2 n1.inn L2).set 1 { ni2 with inn := [], vi := .slice none 0 0 }).set 2 { nk2 with inn := n2.inn ++ n1.inn, vi := v16 }) = L3 := ⟨_, rfl⟩
  rw [hL3] at HBE H16
  have hb3 : ∀ n ∈ L3, n.inn.length + 1 ≤ 8000000 := by
    rw [← hL3]
    intro n hn
    have h1 := HBD.out.inn n1 (mem_of_at HAH.out.a1)
    have h2 := HBD.out.inn n2 (mem_of_at HAH.out.a2)
    have h3 := HW.out
    rcases mem_set hn with hn | rfl
    · rcases mem_set hn with hn | rfl
      · obtain ⟨j, hj⟩ := List.mem_iff_getElem?.1 hn
        have hjl : j < L2.length := by rw [← rep_len 2 n1.inn L2]; exact (List.getElem?_eq_some_iff.1 hj).1
        obtain ⟨px, hx⟩ := rep_at' 2 n1.inn (List.getElem?_eq_getElem hjl)
        rw [hx] at hj
        injection hj with hj
        subst hj
        have := HBD.out.inn L2[j] (List.getElem_mem hjl)
        show L2[j].inn.length + 1 ≤ 8000000
        omega
      · exact (by decide : 0 + 1 ≤ 8000000)
    · show (n2.inn ++ n1.inn).length + 1 ≤ 8000000
      rw [List.length_append]
      omega
  have HB3' := Lib.hid hb3
  have hok3 := root_ok HBE.out.a0 (congrArg MN.nm HBE.out.e0) (congrArg MN.ats HBE.out.e0)
  have HOK3 := Lib.hid hok3
  have cN3 : Calls Try.prog 31 #[.pointer (some ⟨R, 0, none⟩), .int .i64 1] w16 (NodesPost .nil w16) := nodes_any .nil H16.out 1 p16 HBE.out.a1 (by rw [show p16.inn.map abp = [] from congrArg MN.inn HBE.out.e1]; rfl) trivial (Nat.zero_le _) hok3
  have t16 := CP16.out.1
  clear hi16 hk16 h16 hc16 hw16 hbe hL3 hb3 hok3 cM t15
  go_wp2_with fail
  refine cN3.mono ?_
  rintro e w17 ⟨v17, rfl, ho17, hb17⟩
  obtain ⟨a17, c17, rfl, -⟩ := ho17.sl
  have H17 := Lib.hid (H16.out.below hb17)
  have CP17 := Lib.hid (CP16.out.below hb17)
  have HW17 := Lib.hid (HW16.out.trans (Win.of_below hb17))
  have HB17 := Lib.hid (below_trans HB16.out hb17)
  have cN4 : Calls Try.prog 31 #[.pointer (some ⟨R, 0, none⟩), .int .i64 2] w17 (NodesPost (fB.app fA) w17) := nodes_any (fB.app fA) H17.out 2 q16 HBE.out.a2 (by rw [show q16.inn.map abp = _ from congrArg MN.inn HBE.out.e2]; exact HBE.out.t2.t) (F.small_snoc (F.small_mono (by decide) HSA.out) (F.small_mono (by decide) HSB.out)) (by rw [F.app_len]; have := HLL.out; omega) HOK3.out
  have t17 := CP17.out.1
  have e17 : F.nil.len = 0 := rfl
  clear ho17 hb17 cN3 t16
  rw [e17]
  clear e17
  go_wp2_with fail
  refine cN4.mono ?_
  rintro e w18 ⟨v18, rfl, ho18, hb18⟩
  obtain ⟨a18, c18, rfl, hs18⟩ := ho18.sl
  have H18 := Lib.hid (H17.out.below hb18)
  have CP18 := Lib.hid (CP17.out.below hb18)
  have HW18 := Lib.hid (HW17.out.trans (Win.of_below hb18))
  have HB18 := Lib.hid (below_trans HB17.out hb18)
  obtain ⟨X, hX⟩ : ∃ X, fB.app fA = X := ⟨_, rfl⟩
  have HXX := Lib.hid hX
  have hXs : X.small 400000 := by rw [← hX]; exact F.small_snoc HSA.out HSB.out
  have hXl : X.len ≤ 120 := by rw [← hX, F.app_len]; have := HLL.out; omega
  rw [hX] at hs18 ⊢
  have HXS := Lib.hid hXs
  have HXL := Lib.hid hXl
  have cT3 := to_any X.wt X _ a18 c18 w18 rfl hXs (by omega) hs18
  clear ho18 hb18 hs18 cN4 t17 hX hXs hXl
  go_wp2_with fail
  refine cT3.mono ?_
  rintro e w19 ⟨v19, rfl, ho19, hb19⟩
  obtain ⟨a19, c19, rfl, hs19⟩ := ho19.sl
  have HB19 := Lib.hid (below_trans HB18.out hb19)
  have hw19 := HW18.out.trans (Win.of_below hb19)
  have h19s := hb19.size
  have h15s2 : w15.heap.size ≤ w18.heap.size := HW18.out.1
  obtain ⟨a20, c20, w20, hr20, hs20, hg20, ho20⟩ := app_both HF15.out HO15.out (Nat.le_trans h13s h14s) hw19 (by have := HLL.out; omega) (by omega)
  rw [HXX.out] at hr20 hs20
  have hrw : Rw w14.heap.size 69 4 (.slice a15 fB.len c15) fB.len _ w19 := Rw.of_own ((HO15.out.win (S := w11.drew.heap.size) (Nat.le_trans h13s h14s) (fun b hb => Nat.le_trans (Nat.le_trans h13s h14s) hb) hw19).choose_spec.1)
  have H20 := Lib.hid ((H18.out.below hb19).grown69 hrw hg20)
  have CP20 := Lib.hid ((CP18.out.below hb19).grown69 hrw hg20)
  have HB20 := Lib.hid (HB19.out.grown hg20 (HB19.out.size) (fun q hq => Nat.le_trans (Nat.le_trans (Nat.le_trans HBd.out.size h13s) h14s) (ho20 q hq)))
  have hlt15 : ∀ q, (Value.slice a15 fB.len c15).ownBlock = some q → q < w15.heap.size := by
    obtain ⟨us, q1, -⟩ := HO15.out
    exact fun q hq => (q1.lt q hq).2
  have hs19' := (hs19.mono (Q := fun b => w18.heap.size ≤ b) (fun b hb => by rcases hb with ⟨hb, -⟩ | ⟨-, hb⟩ <;> exact hb)).kept2 (w' := w20) (fun b hb hl => hg20.block b hl (fun he => by have := hlt15 b he.symm; omega))
  have cS := rsame_any X.wt X X _ _ a19 a20 c19 c20 w20 rfl (F.small_mono (by decide) HXS.out) (by have := HXL.out; omega) hs19' hs20
  rw [sameF_refl] at cS
  have HR20 := Lib.hid hr20
  clear ho19 hb19 hs19 cT3 hw19 h19s h15s2 hr20 hs20 hg20 ho20 hrw hlt15 hs19'
  go_wp2_with (at_builtin; refine append_want (by rfl) (.tmp 69) (.tmp 70) 54 54 rfl _ _ rfl rfl _ w20 HR20.out ?_)
  refine cS.mono ?_
  rintro e w21 ⟨rfl, qd, rfl⟩
  have hb21 : Below w20.heap.size w20 (w20.drewN qd) := below_drewN (Below.refl _ w20) qd
  obtain ⟨Wz, hWz⟩ : ∃ Wz, w20.drewN qd = Wz := ⟨_, rfl⟩
  rw [hWz] at hb21 ⊢
  have H21 := Lib.hid (H20.out.below hb21)
  have CP21 := Lib.hid (CP20.out.below hb21)
  have HB21 := Lib.hid (below_trans HB20.out hb21)
  clear hb21 hWz cS
  have t21 := CP21.out.1
  obtain ⟨x21, y21, hxy⟩ : ∃ x y, n0.inn = [x, y] := by
    have hl2 : n0.inn.length = 2 := by rw [← List.length_map (f := abp), show n0.inn.map abp = [(1, []), (2, [])] from congrArg MN.inn HBE.out.e0]; rfl
    match n0.inn, hl2 with
    | [x, y], _ => exact ⟨x, y, rfl⟩
  have hy21 : y21.el = 2 := by
    have := show n0.inn.map abp = [(1, []), (2, [])] from congrArg MN.inn HBE.out.e0
    rw [hxy] at this
    simp only [List.map_cons, List.map_nil, List.cons.injEq] at this
    exact congrArg Prod.fst this.2.1
  have cA3 : Calls Try.prog 19 #[.pointer (some ⟨R, 0, none⟩), .int .i64 1, .int .i64 2] Wz (MovedPost w2'.heap.size R 0 L3 vn11 1 2 0 1 q16 n0 Wz) :=
    append_moved H21.out 1 2 0 1 (by decide) (List.getElem?_eq_some_iff.1 HBE.out.a1).1 q16 n0 y21 HBE.out.a2 (congrArg MN.par HBE.out.e2) HBE.out.a0 (by decide) (by rw [hxy]; rfl) hy21
      (fun k x hk hx => by
        rw [hxy] at hx
        have := (List.getElem?_eq_some_iff.1 hx).1
        simp only [List.length_cons, List.length_nil] at this
        omega) 2 ⟨1, p16, rfl, by decide, HBE.out.a1, by rw [show p16.par = 0 from congrArg MN.par HBE.out.e1]; exact ⟨0, n0, rfl, by decide, HBE.out.a0, congrArg MN.par HBE.out.e0⟩⟩ HB3'.out
  clear hxy hy21
  go_wp2_with fail
  refine cA3.mono ?_
  rintro e w22 ⟨rfl, L22, ni22, nk22, vi22, ⟨vp22, rfl⟩, hi22, hk22, h22, hc22⟩
  obtain ⟨m0, m1, m2, hlast⟩ := last_of (vi := vi22) HBE.out hi22 hk22
  obtain ⟨z0, z1, z2, z3, z4, z5, z6, z7⟩ := hlast _ rfl
  rw [HXX.out] at z7
  have H22 := Lib.hid h22
  have CP22 := Lib.hid (CP21.out.chg hc22)
  have HB22 := Lib.hid (HB21.out.trans (hc22.below.mono HB2'.out.size))
  have cN5 : Calls Try.prog 31 #[.pointer (some ⟨R, 0, none⟩), .int .i64 0] w22 (NodesPost (.cons [112] [] [] (.cons [113] [] [] X .nil) .nil) w22) :=
    nodes_any (.cons [112] [] [] (.cons [113] [] [] X .nil) .nil) h22 0 m0 z0 z7 ⟨Nat.zero_le _, by show 1 ≤ 1000000; decide, ⟨Nat.zero_le _, by have := HXL.out; show X.len ≤ 1000000; omega, F.small_mono (by decide) HXS.out, trivial⟩, trivial⟩ (by show 1 ≤ 1000000; decide) (root_ok z0 z1 z2)
  have HZ := Lib.hid (show _ ∧ _ ∧ _ ∧ _ from ⟨z3, z4, z5, z6⟩)
  have t22 := CP22.out.1
  clear z0 z1 z2 z3 z4 z5 z6 z7 hlast hi22 hk22 h22 hc22 cA3 t21
  go_wp2_with fail
  refine cN5.mono ?_
  rintro e w23 ⟨v23, rfl, ho23, hb23⟩
  obtain ⟨a23, c23, rfl, hs23⟩ := ho23.sl
  have H23 := Lib.hid (H22.out.below hb23)
  have CP23 := Lib.hid (CP22.out.below hb23)
  have HB23 := Lib.hid (below_trans HB22.out hb23)
  rcases hs23.at4 with h0 | ⟨b23, off, rfl, h4⟩
  · cases h0
  · obtain ⟨aa, ca, a', c', d0, -, -, d3, -, -, -⟩ := h4.cons
    have hlen : (F.cons [112] [] [] (.cons [113] [] [] X .nil) .nil).len = 1 := rfl
    have hlen2 : (F.cons [113] [] [] X .nil).len = 1 := rfl
    rw [hlen2] at d3
    rw [hlen]
    have cG1 : Calls Try.prog 28 #[.pointer (some ⟨R, 0, none⟩), .int .i64 2] w23 (fun e w' => e = .returned (.int .i64 1) ∧ w23 = w') := by
      obtain ⟨-, -, z5, z6⟩ := HZ.out
      have := parent_any H23.out 2 m2 z5
      rw [z6] at this
      exact this
    have cG2 : Calls Try.prog 28 #[.pointer (some ⟨R, 0, none⟩), .int .i64 1] w23 (fun e w' => e = .returned (.int .i64 0) ∧ w23 = w') := by
      obtain ⟨z3, z4, -, -⟩ := HZ.out
      have := parent_any H23.out 1 m1 z3
      rw [z4] at this
      exact this
    have t23 := CP23.out.1
    clear ho23 hb23 hs23 h4 hlen hlen2 cN5 t22
    go_wp2_with fail
    refine cG1.mono ?_
    rintro e w' ⟨rfl, rfl⟩
    go_wp2_with fail
    refine cG2.mono ?_
    rintro e w' ⟨rfl, rfl⟩
    go_wp2
    go_ret
    exact ⟨rfl, HB23.out⟩
end Go.Proofs.Ytpnjjpbgbdicoaa
