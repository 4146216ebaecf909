/- The law ArenaCounts, walked. -/
import Derived.Test.YtpnjjpbgbdicoaaSpk
import Derived.Test.YtpnjjpbgbdicoaaCount
namespace Go.Proofs.Ytpnjjpbgbdicoaa
open Go.RowKit Go.Lib
open At (Str cellsA cellsA_len Sl)

/-- nodes behind a row of one's own -/
theorem app_nodes {t e : TypeId} (E : ElemN t e) (w : World) (B : Nat) (P : Nat → Prop) (v : Value) (f g : F) (a : Option Addr) (c : Nat) (hown : NOwn w B e P v f) (hs : NSl w (Off P v) g a c) (hl : f.len + g.len ≤ 8000000) (hB : B ≤ w.heap.size) :
    ∃ v' w', (Builtin.append_ #[t, t] t #[v, .slice a g.len c]).run Try.prog w = .ok v' w' ∧ NOwn w' B e P v' (f.app g) ∧ w.grownBy w' v.ownBlock := by
  obtain ⟨i, hi, hp⟩ := E.info
  simp only [Prod.mk.injEq] at hp
  obtain ⟨hz, hsz, hby⟩ := hp
  obtain ⟨us, how, hnv⟩ := hown
  cases a with
  | none =>
    obtain ⟨h0, rfl⟩ := hs.1.2 rfl
    obtain rfl := F.len_zero h0
    have hr := run_append_owned_none (P := Try.prog) (w := w) B t t e i 4 E.ht hi v f.len us how
    exact ⟨v, w, hr, by rw [F.app_nil]; exact ⟨us, how, hnv⟩, ⟨rfl, rfl, rfl, Nat.le_refl _, fun _ _ _ => rfl⟩⟩
  | some ad =>
    have hvs : ∃ vs, NV w (Off P v) g vs ∧ ∀ (j : Nat) (u : Value), vs[j]? = some u → w.cell? (ad.add j) = some u := by
      rcases hs.2 with rfl | ⟨b, off, vs, hb, hPb, hc, hv⟩
      · exact ⟨[], rfl, fun j u hj => by simp at hj⟩
      · cases hb
        exact ⟨vs, hv, fun j u hj => by rw [At.add_lit]; exact hc j u hj⟩
    obtain ⟨vs, hvn, hc⟩ := hvs
    obtain ⟨v', w', hr, h1, h2, -, h4⟩ := run_append_own_at (P := Try.prog) w B t t e i _ 4 80 E.ht hi hz hsz hby rfl (by decide) v f.len us how ad g.len c vs hvn.len hc hvn.one (by unfold maxLen; omega) (by omega) hB
    refine ⟨v', w', hr, ⟨us ++ vs, by rw [F.app_len]; exact h1, ?_⟩, h2⟩
    refine NV.mono ?_ (NV.kept ?_ (NV.append hvn hnv).lt)
    · intro b hb _
      refine ⟨hb.1.1, ?_⟩
      rcases h4 with h4 | h4
      · rw [h4]; exact hb.1.2
      · rw [h4]
        intro he
        injection he with he
        have := hb.2
        omega
    · intro b hb
      exact h2.block b hb.2 hb.1.2

theorem NSl.lt {w : World} {P : Nat → Prop} {f : F} {a : Option Addr} {c : Nat} (h : NSl w P f a c) : NSl w (fun b => P b ∧ b < w.heap.size) f a c := by
  obtain ⟨h1, h2⟩ := h
  refine ⟨h1, ?_⟩
  rcases h2 with h2 | ⟨b, off, us, rfl, hp, hc, hv⟩
  · exact Or.inl h2
  · by_cases hn : f = .nil
    · exact Or.inl hn
    · have hl := hv.len
      have hpos : 0 < f.len := Nat.pos_of_ne_zero fun h => hn (F.len_zero h)
      refine Or.inr ⟨b, off, us, rfl, ⟨hp, World.block_lt_of_cell? w _ (hc 0 _ (List.getElem?_eq_getElem (by omega)))⟩, hc, hv.lt⟩

theorem own_none (w : World) : NOwn (w.alloc (.cells #[] 73)) w.heap.size 73 (fun _ => True) (.slice (some ⟨w.heap.size, 0, none⟩) 0 0) .nil :=
  ⟨[], ⟨rfl, .inr ⟨w.heap.size, 0, #[], rfl, Nat.le_refl _, heap_alloc_new w _, Nat.le_refl _, Nat.zero_le _, rfl, rfl⟩⟩, rfl⟩

/-- both copies behind a new empty row -/
theorem both_app (w : World) (f g : F) {B1 B2 : Nat} {P1 P2 : Nat → Prop} {ax ay : Option Addr} {cx cy : Nat} (hx : NOwn w B1 73 P1 (.slice ax f.len cx) f) (hy : NOwn w B2 73 P2 (.slice ay g.len cy) g) (hl : f.len + g.len ≤ 1000) :
    ∃ v8 w8 a9 c9 w9, (Builtin.append_ #[56, 56] 56 #[.slice (some ⟨w.heap.size, 0, none⟩) 0 0, .slice ax f.len cx]).run Try.prog (w.alloc (.cells #[] 73)) = .ok v8 w8 ∧
      (Builtin.append_ #[56, 56] 56 #[v8, .slice ay g.len cy]).run Try.prog w8 = .ok (.slice a9 (f.app g).len c9) w9 ∧
      NOwn w9 w.heap.size 73 (fun _ => True) (.slice a9 (f.app g).len c9) (f.app g) ∧ Below w.heap.size w w9 := by
  have hA : Below w.heap.size w (w.alloc (.cells #[] 73)) := At.below_alloc _
  have hxl : ∃ a' c', .slice ax f.len cx = Value.slice a' f.len c' ∧ NSl (w.alloc (.cells #[] 73)) (Off (fun _ => True) (.slice (some ⟨w.heap.size, 0, none⟩) 0 0)) f a' c' := by
    obtain ⟨a', c', hv, hs⟩ := hx.sl
    refine ⟨a', c', hv, (hs.lt.below hA).mono fun b hb => ⟨trivial, fun he => ?_⟩⟩
    simp only [Value.ownBlock, Option.some.injEq] at he
    have := hb.2
    omega
  obtain ⟨a', c', hv, hsx⟩ := hxl
  cases hv
  obtain ⟨v8, w8, hr8, ho8, hg8⟩ := app_nodes elem56 _ w.heap.size (fun _ => True) _ .nil f ax cx (own_none w) hsx (by simp only [F.len]; omega) (by simp)
  have hb8 : Below w.heap.size w w8 := hA.grown hg8 (by simp) (fun q hq => by cases hq; exact Nat.le_refl _)
  have hyl : ∃ a' c', .slice ay g.len cy = Value.slice a' g.len c' ∧ NSl w8 (Off (fun _ => True) v8) g a' c' := by
    obtain ⟨a', c', hv, hs⟩ := hy.sl
    refine ⟨a', c', hv, (hs.lt.below hb8).mono fun b hb => ⟨trivial, fun he => ?_⟩⟩
    obtain ⟨us, hu, -⟩ := ho8
    have := (hu.lt b he.symm).1
    have := hb.2
    omega
  obtain ⟨a', c', hv, hsy⟩ := hyl
  cases hv
  obtain ⟨v9, w9, hr9, ho9, hg9⟩ := app_nodes elem56 w8 w.heap.size (fun _ => True) v8 f g ay cy ho8 hsy (by omega) hb8.size
  obtain ⟨a9, c9, rfl, -⟩ := ho9.sl
  refine ⟨v8, w8, a9, c9, w9, hr8, hr9, ho9, hb8.grown hg9 hb8.size (fun q hq => ?_)⟩
  obtain ⟨us, hu, -⟩ := ho8
  exact (hu.lt q hq).1

/-- a node of one's own around a copy -/
theorem around (w : World) (f : F) {B1 : Nat} {P1 : Nat → Prop} {ax : Option Addr} {cx : Nat} (hx : NOwn w B1 73 P1 (.slice ax f.len cx) f) :
    NSl (w.alloc (.cells #[.string ⟨#[112]⟩, .slice none 0 0, .string ⟨#[]⟩, .slice ax f.len cx] 73)) (fun _ => True) (.cons [112] [] [] f .nil) (some ⟨w.heap.size, 0, none⟩) 1 := by
  have hA : Below w.heap.size w (w.alloc (.cells #[.string ⟨#[112]⟩, .slice none 0 0, .string ⟨#[]⟩, .slice ax f.len cx] 73)) := At.below_alloc _
  obtain ⟨a', c', hv, hs⟩ := hx.sl
  cases hv
  obtain ⟨hfit, vs, hvs, hvn⟩ := ((hs.below hA).mono (Q := fun _ => True) (fun _ _ => trivial)).nv
  refine ⟨⟨Nat.le_refl _, fun h => by cases h⟩, Or.inr ⟨w.heap.size, 0, [.string ⟨#[112]⟩, .slice none 0 0, .string ⟨#[]⟩, .slice ax f.len cx], rfl, trivial, fun j u hj => ?_, none, 0, ax, cx, vs, [], rfl, ⟨⟨Nat.le_refl _, fun _ => ⟨rfl, rfl⟩, Or.inl rfl⟩, fun h => absurd rfl h⟩, ⟨hfit, hvs⟩, hvn, rfl⟩⟩
  rw [Nat.zero_add, cell_of_heap (heap_alloc_new w _) j, List.getElem?_toArray]
  exact hj

theorem few_small {f : F} (h : fewF f = true) : f.many ≤ 60 ∧ f.deep ≤ 20 := by
  unfold fewF at h
  simpa using h

/-- what is not too much has short lists -/
theorem small_bulk : ∀ {f : F}, f.wt ≤ 1048576 → f.small 400000
  | .nil, _ => trivial
  | .cons _ ats _ inn rest, h => by
    simp only [F.wt] at h
    have := F.atw_len ats
    have := F.len5 inn
    exact ⟨by omega, by omega, small_bulk (by omega), small_bulk (by omega)⟩
theorem F.small_mono {N M : Nat} (hNM : N ≤ M) : ∀ {f : F}, f.small N → f.small M
  | .nil, _ => trivial
  | .cons _ _ _ _ _, h => ⟨Nat.le_trans h.1 hNM, Nat.le_trans h.2.1 hNM, F.small_mono hNM h.2.2.1, F.small_mono hNM h.2.2.2⟩

theorem count_own {B e : Nat} {P : Nat → Prop} {ax : Option Addr} {cx : Nat} {wx : World} (f : F) (h : NOwn wx B e P (.slice ax f.len cx) f) (hw : f.wt ≤ 4000000) :
    Calls Try.prog 36 #[.slice ax f.len cx] wx fun e w' => e = .returned (.tuple #[.int .i64 (f.many : Nat), .int .i64 (f.deep : Nat)]) ∧ Below wx.heap.size wx w' := by
  obtain ⟨a', c', hv, hsl⟩ := h.sl
  cases hv
  exact count_any f.wt f _ _ _ wx rfl hw hsl

set_option maxHeartbeats 4000000 in
set_option maxRecDepth 100000 in
theorem arenaCounts_few (f g : F) (P : Nat → Prop) (a b : Option Addr) (c cb : Nat) (w : World) (hs : NSl w P f a c) (ht : NSl w P g b cb) (hf : f.wt ≤ 2000000) (hg : g.wt ≤ 2000000) (hn : fewF f = false ∨ fewF g = false) :
    Calls Try.prog 7 #[.slice a f.len c, .slice b g.len cb] w fun e w' => e = .returned (.bool true) ∧ Below w.heap.size w w' := by
  by_cases h1 : fewF f = true
  · have h2 : fewF g = false := by
      rcases hn with h | h
      · rw [h1] at h; cases h
      · exact h
    have S1 := Lib.hid (fun wx hbx => few_any f P a c wx hf (hs.below hbx))
    have S2 := Lib.hid (fun wx hbx => few_any g P b cb wx hg (ht.below hbx))
    rw [h1] at S1
    rw [h2] at S2
    clear hs ht hn h1 h2
    go_enter Try.func7, Try.ntmps7
    go_wp2_with fail
    refine (speaks_any _).mono ?_
    rintro e w1 ⟨rfl, hb1⟩
    have c2 := S1.out w1 hb1
    have HB1 := Lib.hid hb1
    clear hb1
    go_wp2_with fail
    refine c2.mono ?_
    rintro e w2 ⟨rfl, hb2⟩
    have HB2 := Lib.hid (below_trans HB1.out hb2)
    have c3 := S2.out w2 HB2.out
    clear hb2 c2
    go_wp2_with fail
    refine c3.mono ?_
    rintro e w3 ⟨rfl, hb3⟩
    have HB3 := Lib.hid (below_trans HB2.out hb3)
    clear hb3 c3
    go_wp2_with fail
    refine (speaks_any _).mono ?_
    rintro e w4 ⟨rfl, hb4⟩
    go_wp2
    go_ret
    exact ⟨rfl, below_trans HB3.out hb4⟩
  · have h1' : fewF f = false := by simpa using h1
    have S1 := Lib.hid (fun wx hbx => few_any f P a c wx hf (hs.below hbx))
    rw [h1'] at S1
    clear hs ht hn h1 h1'
    go_enter Try.func7, Try.ntmps7
    go_wp2_with fail
    refine (speaks_any _).mono ?_
    rintro e w1 ⟨rfl, hb1⟩
    have c2 := S1.out w1 hb1
    have HB1 := Lib.hid hb1
    clear hb1
    go_wp2_with fail
    refine c2.mono ?_
    rintro e w2 ⟨rfl, hb2⟩
    have HB2 := Lib.hid (below_trans HB1.out hb2)
    clear hb2 c2
    go_wp2_with fail
    refine (speaks_any _).mono ?_
    rintro e w4 ⟨rfl, hb4⟩
    go_wp2
    go_ret
    exact ⟨rfl, below_trans HB2.out hb4⟩

set_option maxHeartbeats 8000000 in
set_option maxRecDepth 100000 in
theorem arenaCounts_walk (f g : F) (P : Nat → Prop) (a b : Option Addr) (c cb : Nat) (w : World) (hs : NSl w P f a c) (ht : NSl w P g b cb) (hf : f.wt ≤ 2000000) (hg : g.wt ≤ 2000000) (hsf : f.small 400000) (hsg : g.small 400000) (hn1 : fewF f = true) (hn2 : fewF g = true) :
    Calls Try.prog 7 #[.slice a f.len c, .slice b g.len cb] w fun e w' => e = .returned (.bool true) ∧ Below w.heap.size w w' := by
  obtain ⟨m1, d1⟩ := few_small hn1
  obtain ⟨m2, d2⟩ := few_small hn2
  have l1 := F.len_many f
  have l2 := F.len_many g
  have S1 := Lib.hid (fun wx hbx => few_any f P a c wx hf (hs.below hbx))
  have S2 := Lib.hid (fun wx hbx => few_any g P b cb wx hg (ht.below hbx))
  have O1 := Lib.hid (fun wx hbx => of_any f.wt f P a c wx rfl hsf (by omega) (hs.below hbx))
  have O2 := Lib.hid (fun wx hbx => of_any g.wt g P b cb wx rfl hsg (by omega) (ht.below hbx))
  rw [hn1] at S1
  rw [hn2] at S2
  clear hs ht hn1 hn2 hsf hsg
  go_enter Try.func7, Try.ntmps7
  go_wp2_with fail
  refine (speaks_any _).mono ?_
  rintro e w1 ⟨rfl, hb1⟩
  have c2 := S1.out w1 hb1
  have HB1 := Lib.hid hb1
  clear hb1
  go_wp2_with fail
  refine c2.mono ?_
  rintro e w2 ⟨rfl, hb2⟩
  have HB2 := Lib.hid (below_trans HB1.out hb2)
  have c3 := S2.out w2 HB2.out
  clear hb2 c2
  go_wp2_with fail
  refine c3.mono ?_
  rintro e w3 ⟨rfl, hb3⟩
  have HB3 := Lib.hid (below_trans HB2.out hb3)
  have c4 := O1.out w3 HB3.out
  clear hb3 c3
  go_wp2_with fail
  refine c4.mono ?_
  rintro e w4 ⟨v4, rfl, ho4, hb4⟩
  have HB4 := Lib.hid (below_trans HB3.out hb4)
  have HO4 := Lib.hid ho4
  have c5 := O2.out w4 HB4.out
  clear hb4 c4 ho4
  go_wp2_with fail
  refine c5.mono ?_
  rintro e w5 ⟨v5, rfl, ho5, hb5⟩
  have HB5 := Lib.hid (below_trans HB4.out hb5)
  have HX := Lib.hid (HO4.out.below hb5)
  have HY := Lib.hid ho5
  obtain ⟨ax, cx, rfl, -⟩ := HX.out.sl
  obtain ⟨ay, cy, rfl, -⟩ := ho5.sl
  have c6 := fun wx (hbx : Below w5.heap.size w5 wx) => count_own f (HX.out.below hbx) (by omega)
  have c7 := fun wx (hbx : Below w5.heap.size w5 wx) => count_own g (HY.out.below hbx) (by omega)
  have C6 := Lib.hid c6
  have C7 := Lib.hid c7
  have q6 := c6 w5 (Below.refl _ _)
  clear hb5 c5 ho5 c6 c7
  go_wp2_with fail
  refine q6.mono ?_
  rintro e w6 ⟨rfl, hb6⟩
  have HB6 := Lib.hid hb6
  have q7 := C7.out w6 hb6
  clear hb6 q6
  go_wp2_with fail
  refine q7.mono ?_
  rintro e w7 ⟨rfl, hb7⟩
  have HB7 := Lib.hid (below_trans HB6.out hb7)
  clear hb7 q7
  obtain ⟨v8, w8, a9, c9, w9, hr8, hr9, ho9, hb9⟩ := both_app w7 f g (HX.out.below HB7.out) (HY.out.below HB7.out) (by omega)
  have HR8 := Lib.hid hr8
  have HR9 := Lib.hid hr9
  have q9 := count_own (f.app g) ho9 (by rw [F.app_wt]; omega)
  have HB9 := Lib.hid (below_trans HB7.out hb9)
  rw [F.app_many, F.app_deep] at q9
  clear hr8 hr9 ho9 hb9
  go_wp2_with (at_builtin; first | (refine Lib.wpList_append_run _ rfl (.tmp 43) (.tmp 44) 56 56 rfl _ _ rfl rfl _ w8 HR8.out ?_) | (refine Lib.wpList_append_run _ rfl (.tmp 45) (.tmp 46) 56 56 rfl _ _ rfl rfl _ w9 HR9.out ?_))
  refine q9.mono ?_
  rintro e w10 ⟨rfl, hb10⟩
  have HB10 := Lib.hid (below_trans HB9.out hb10)
  have ha := around w10 f (HX.out.below HB10.out)
  have qa := count_any _ (.cons [112] [] [] f .nil) _ (some ⟨w10.heap.size, 0, none⟩) 1 _ rfl (by simp only [F.wt, F.atw, List.length_cons, List.length_nil]; omega) ha
  have hA : Below w10.heap.size w10 (w10.alloc (.cells #[.string ⟨#[112]⟩, .slice none 0 0, .string ⟨#[]⟩, .slice ax f.len cx] 73)) := At.below_alloc _
  have HA := Lib.hid (below_trans HB10.out hA)
  have e1 : (F.cons [112] [] [] f .nil).many = f.many + 1 := by simp only [F.many]
  have e2 : (F.cons [112] [] [] f .nil).deep = f.deep + 1 := by simp only [F.deep]; omega
  have e3 : (F.cons [112] [] [] f .nil).len = 1 := rfl
  rw [e1, e2, e3] at qa
  clear hb10 q9 ha hA e1 e2 e3
  go_wp2_with fail
  refine qa.mono ?_
  rintro e w11 ⟨rfl, hb11⟩
  have HB11 := Lib.hid (below_trans HB5.out (below_trans HA.out hb11))
  clear hb11 qa
  have hz := F.deep_zero (f := f)
  generalize f.deep = D at *
  generalize f.len = l at *
  generalize f.many = M at *
  generalize g.deep = E at *
  generalize g.many = N at *
  clear S1 S2 O1 O2 HO4 HX HY HR8 HR9 HA C6 C7 HB1 HB2 HB3 HB4 HB5 HB6 HB7 HB9 HB10
  by_cases hde : D < E
  · have hde' : (D : Int) < (E : Int) := by omega
    rw [Nat.max_eq_right (Nat.le_of_lt hde)]
    by_cases h0 : D = 0
    · obtain rfl : l = 0 := hz.1 h0
      subst h0
      clear hz
      go_wp2
      go_ret
      exact ⟨by simp, HB11.out⟩
    · have hl0 : l ≠ 0 := fun h => h0 (hz.2 h)
      have hb1 : ((l : Int) == 0) = false := by simp; omega
      have hb2 : ((D : Int) == 0) = false := by simp; omega
      clear hz h0 hl0
      go_wp2
      go_ret
      exact ⟨by simp, HB11.out⟩
  · have hde' : ¬ (D : Int) < (E : Int) := by omega
    rw [Nat.max_eq_left (by omega)]
    by_cases h0 : D = 0
    · obtain rfl : l = 0 := hz.1 h0
      subst h0
      clear hz
      go_wp2
      go_ret
      exact ⟨by simp, HB11.out⟩
    · have hl0 : l ≠ 0 := fun h => h0 (hz.2 h)
      have hb1 : ((l : Int) == 0) = false := by simp; omega
      have hb2 : ((D : Int) == 0) = false := by simp; omega
      clear hz h0 hl0
      go_wp2
      go_ret
      exact ⟨by simp, HB11.out⟩
end Go.Proofs.Ytpnjjpbgbdicoaa
