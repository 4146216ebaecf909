/- The law ArenaBuilds, walked. -/
import Derived.Test.YtpnjjpbgbdicoaaPut
import Derived.Test.YtpnjjpbgbdicoaaLSames
import Derived.Laws.EntriesVeiled
namespace Go.Proofs.Ytpnjjpbgbdicoaa
open Go.RowKit Go.Lib
open At (Str cellsA cellsA_len Sl below_drewN)

theorem F.one_small (N : Nat) (t : List UInt8) : (F.one t).small N := by
  unfold F.one
  split
  · trivial
  · exact ⟨Nat.zero_le _, Nat.zero_le _, trivial, trivial⟩
theorem F.addT_small (N : Nat) (t : List UInt8) : ∀ {d : F}, d.small N → (d.addT t).small N
  | .nil, _ => F.one_small N t
  | .cons nm ats tx inn .nil, h => by
    rw [F.addT]
    split
    · exact h
    · exact ⟨h.1, h.2.1, h.2.2.1, F.one_small N t⟩
  | .cons nm ats tx inn (.cons nm2 ats2 tx2 inn2 rest), h => by
    rw [F.addT]
    exact ⟨h.1, h.2.1, h.2.2.1, F.addT_small N t h.2.2.2⟩
theorem F.small_snoc {N : Nat} {g : F} (hg : g.small N) : ∀ {d : F}, d.small N → (d.app g).small N
  | .nil, _ => hg
  | .cons _ _ _ _ _, h => ⟨h.1, h.2.1, h.2.2.1, F.small_snoc hg h.2.2.2⟩
theorem F.mg_small (N : Nat) : ∀ {f d : F}, f.small N → d.small N → (F.mg d f).small N
  | .nil, _, _, hd => hd
  | .cons nm ats tx inn rest, d, h, hd => by
    rw [F.mg]
    refine F.mg_small N h.2.2.2 ?_
    split
    · exact F.addT_small N tx hd
    · refine F.small_snoc (show F.small N (.cons nm ats [] (F.mg .nil inn) .nil) from ⟨h.1, ?_, F.mg_small N h.2.2.1 (d := .nil) trivial, trivial⟩) hd
      have := F.mg_len inn .nil
      have := h.2.1
      simp only [F.len] at *
      omega

theorem root_par : Par rootL := by
  intro i n hn
  match i, hn with
  | 0, hn => cases hn; exact Or.inl rfl
theorem root_nmd : Nmd (rootL.map ab) := by
  intro i n hi hn
  match i, hn with
  | 0, _ => exact absurd rfl hi
theorem root_bd : Bd 1 rootL := ⟨Nat.le_refl _, fun n hn => by
  simp only [rootL, List.mem_singleton] at hn
  subst hn
  exact Nat.zero_le _, fun n hn p hp => by
  simp only [rootL, List.mem_singleton] at hn
  subst hn
  cases hp⟩

set_option maxHeartbeats 4000000 in
set_option maxRecDepth 100000 in
theorem arenaBuilds_few (f : F) (P : Nat → Prop) (a : Option Addr) (c : Nat) (w : World) (hs : NSl w P f a c) (hf : f.wt ≤ 2000000) (h1' : fewF f = false) :
    Calls Try.prog 5 #[.slice a f.len c] w fun e w' => e = .returned (.bool true) ∧ Below w.heap.size w w' := by
  have S1 := Lib.hid (fun wx hbx => few_any f P a c wx hf (hs.below hbx))
  rw [h1'] at S1
  clear hs h1'
  go_enter Try.func5, Try.ntmps5
  go_wp2_with fail
  refine (speaks_any _).mono ?_
  rintro e w1 ⟨rfl, hb1⟩
  have c2 := S1.out w1 hb1
  have HB1 := Lib.hid hb1
  clear hb1
  go_wp2_with fail
  refine c2.mono ?_
  rintro e w2 ⟨rfl, hb2⟩
  have HB2 := Lib.hid (below_trans HB1.out hb2)
  clear hb2 c2
  go_wp2_with fail
  refine (speaks_any _).mono ?_
  rintro e w4 ⟨rfl, hb4⟩
  go_wp2
  go_ret
  exact ⟨rfl, below_trans HB2.out hb4⟩

set_option maxHeartbeats 8000000 in
set_option maxRecDepth 100000 in
theorem arenaBuilds_walk (f : F) (P : Nat → Prop) (a : Option Addr) (c : Nat) (w : World) (hs0 : NSl w P f a c) (hf : f.wt ≤ 2000000) (hsf : f.small 400000) (hn1 : fewF f = true) :
    Calls Try.prog 5 #[.slice a f.len c] w fun e w' => e = .returned (.bool true) ∧ Below w.heap.size w w' := by
  obtain ⟨m1, d1⟩ := few_small hn1
  have l1 := F.len_many f
  have hs := hs0.lt.mono (Q := fun b => b < w.heap.size) (fun b h => h.2)
  have hml := F.mg_len f .nil
  simp only [F.len] at hml
  have hmsm : (F.mg .nil f).small 400000 := F.mg_small 400000 hsf (d := .nil) trivial
  have S1 := Lib.hid (fun wx hbx => few_any f _ a c wx hf (hs.below hbx))
  have M1 := Lib.hid (fun wx (hbx : Below w.heap.size w wx) => merge_any f.wt f _ w.heap.size a c wx rfl hsf (by omega) (by omega) (fun _ h => h) hbx.size (hs.below hbx))
  have PU := Lib.hid (fun B R g3 g4 wx vn (hbx : Below w.heap.size w wx) (hB : w.heap.size ≤ B) (h : AR B wx R rootL 0 vn) hc => put_any B R 0 g3 g4 _ rfl f.wt f (fun b => b < w.heap.size) a c wx rootL vn 1 0 0 _ .nil rfl hsf (by omega) (fun b h => Nat.lt_of_lt_of_le h hB) (hs.below hbx) h hc root_par root_nmd (show rootL[0]? = some ⟨[], [], .slice none 0 0, -1, [], .slice none 0 0⟩ from rfl) (by show TG _ _ [] .nil; simp only [TG]) (Nat.le_refl _) (by decide) root_bd (by omega))
  rw [hn1] at S1
  have HSM := Lib.hid hmsm
  have HML := Lib.hid (show (F.mg .nil f).len ≤ 400000 by omega)
  clear hs hs0 hn1 hsf hmsm hml
  go_enter Try.func5, Try.ntmps5
  go_wp2_with fail
  refine (speaks_any _).mono ?_
  rintro e w1 ⟨rfl, hb1⟩
  have c2 := S1.out w1 hb1
  have HB1 := Lib.hid hb1
  clear hb1
  go_wp2_with fail
  refine c2.mono ?_
  rintro e w2 ⟨rfl, hb2⟩
  have HB2 := Lib.hid (below_trans HB1.out hb2)
  clear hb2 c2
  go_wp2_with fail
  refine (new_any w2).mono ?_
  rintro e w3 ⟨R, vn, rfl, ha3, hb3⟩
  have HB3 := Lib.hid (below_trans HB2.out hb3)
  have HA3 := Lib.hid ha3
  clear hb3 ha3
  obtain ⟨W4, hW4⟩ : ∃ W4, (w3.alloc (.cells #[.pointer (some ⟨R, 0, none⟩)] 24)).alloc (.cells #[.nilFunc] 67) = W4 := ⟨_, rfl⟩
  have x4 : W4.cell? ⟨w3.heap.size + 1, 0, none⟩ = some .nilFunc := by rw [← hW4]; simp
  have z4 : W4.frozen? ⟨w3.heap.size + 1, 0, none⟩ = false := by rw [← hW4]; exact frozen_of_heap (by have := heap_alloc_new (w3.alloc (.cells #[.pointer (some ⟨R, 0, none⟩)] 24)) (.cells #[.nilFunc] 67); simpa using this) 0
  have y4 : Ty W4 (w3.heap.size + 1) 67 := by rw [← hW4]; exact ⟨_, _, by have := heap_alloc_new (w3.alloc (.cells #[.pointer (some ⟨R, 0, none⟩)] 24)) (.cells #[.nilFunc] 67); simpa using this⟩
  have hb4 : Below w3.heap.size w3 W4 := by rw [← hW4]; exact (At.below_alloc _).alloc (by simp) _
  have hA' : Below (w3.alloc (.cells #[.pointer (some ⟨R, 0, none⟩)] 24)).heap.size (w3.alloc (.cells #[.pointer (some ⟨R, 0, none⟩)] 24)) W4 := by rw [← hW4]; exact At.below_alloc _
  have x3 : W4.cell? ⟨w3.heap.size, 0, none⟩ = some (.pointer (some ⟨R, 0, none⟩)) := (hA'.cell (p := ⟨w3.heap.size, 0, none⟩) (by simp)).trans (by simp)
  have y3 : Ty W4 w3.heap.size 24 := (show Ty (w3.alloc (.cells #[.pointer (some ⟨R, 0, none⟩)] 24)) w3.heap.size 24 from ⟨_, _, heap_alloc_new w3 _⟩).same (hA'.block _ (by simp))
  obtain ⟨W5, hW5⟩ : ∃ W5, W4.setCell ⟨w3.heap.size + 1, 0, none⟩ (.func (.func 40) #[] #[.pointer (some ⟨w3.heap.size, 0, none⟩), .pointer (some ⟨w3.heap.size + 1, 0, none⟩)]) = W5 := ⟨_, rfl⟩
  have hb5 : Below w3.heap.size w3 W5 := by rw [← hW5]; exact hb4.setCell (by simp) _
  have hC5 : ClF R w3.heap.size (w3.heap.size + 1) 67 (.func (.func 40) #[] #[.pointer (some ⟨w3.heap.size, 0, none⟩), .pointer (some ⟨w3.heap.size + 1, 0, none⟩)]) W5 := by
    rw [← hW5]
    exact ⟨by rw [World.cell?_setCell_far _ _ _ _ (by simp)]; exact x3, y3.setCell _ _ rfl, World.cell?_setCell_same' _ _ _ (by rw [x4]; rfl), y4.setCell _ _ rfl⟩
  have HC5 := Lib.hid hC5
  have x5 := hC5.c4
  have cP := PU.out w2.heap.size R w3.heap.size (w3.heap.size + 1) W5 vn (below_trans HB3.out hb5) HB2.out.size (HA3.out.below hb5) hC5
  have HB5 := Lib.hid (below_trans HB3.out hb5)
  clear hb4 hA' y3 y4 hb5 hC5
  go_wp2_with fail
  refine cP.mono ?_
  rintro e w6 ⟨rfl, L6, vn6, h6, hc6, hr6, hb6⟩
  have hC6 := HC5.out.chg (Or.inl rfl) hc6
  have x6 := hC6.c3
  have HB6 := Lib.hid (show Below w.heap.size w w6 from HB5.out.trans (hc6.below.mono HB2.out.size))
  obtain ⟨n6, hn6, e1, e2, e3, hT6⟩ := hr6.at_
  have cN := nodes_any (F.mg .nil f) h6 0 n6 hn6 hT6.t (F.small_mono (by decide) HSM.out) (by have := HML.out; omega) (fun k m hk => by
    rcases Nat.eq_zero_or_pos k with rfl | hk0
    · right
      rw [hn6] at hk
      cases hk
      exact ⟨e1, e2⟩
    · left; omega)
  have H6 := Lib.hid h6
  clear h6 hc6 hr6 hb6 hn6 e1 e2 e3 hT6 cP x5 hW4 x4 z4 x3 hC6
  go_wp2_with fail
  refine cN.mono ?_
  rintro e w7 ⟨v7, rfl, ho7, hb7⟩
  have HB7 := Lib.hid (below_trans HB6.out hb7)
  have H7 := Lib.hid (H6.out.below hb7)
  obtain ⟨a7, c7, rfl, hs7⟩ := ho7.sl
  have cT := to_any (F.mg .nil f).wt (F.mg .nil f) _ a7 c7 w7 rfl HSM.out HML.out hs7
  have q7 := (hb7.cell (p := ⟨w3.heap.size, 0, none⟩) (World.block_lt_of_cell? w6 _ x6)).trans x6
  clear ho7 hs7 hb7 cN x6
  go_wp2_with fail
  refine cT.mono ?_
  rintro e w8 ⟨v8, rfl, ho8, hb8⟩
  have HB8 := Lib.hid (below_trans HB7.out hb8)
  have H8 := Lib.hid (H7.out.below hb8)
  have HO8 := Lib.hid ho8
  obtain ⟨a8, c8, rfl, -⟩ := ho8.sl
  have cM := M1.out w8 HB8.out
  have q8 := (hb8.cell (p := ⟨w3.heap.size, 0, none⟩) (World.block_lt_of_cell? w7 _ q7)).trans q7
  clear ho8 hb8 cT q7
  go_wp2_with fail
  refine cM.mono ?_
  rintro e w9 ⟨v9, rfl, ho9, hb9⟩
  have HB9 := Lib.hid (HB8.out.trans (hb9.mono HB8.out.size))
  have H9 := Lib.hid (H8.out.below hb9)
  obtain ⟨a8', c8', hv8, hs8⟩ := (HO8.out.below hb9).sl
  cases hv8
  obtain ⟨a9, c9, rfl, hs9⟩ := ho9.sl
  have cS := rsame_any (F.mg .nil f).wt (F.mg .nil f) (F.mg .nil f) _ _ a8 a9 c8 c9 w9 rfl (F.small_mono (by decide) HSM.out) (by have := HML.out; omega) hs8 hs9
  rw [sameF_refl] at cS
  have q9 := (hb9.cell (p := ⟨w3.heap.size, 0, none⟩) (World.block_lt_of_cell? w8 _ q8)).trans q8
  clear ho9 hb9 cM q8 hs8 hs9
  go_wp2_with fail
  refine cS.mono ?_
  rintro e w10 ⟨rfl, q, rfl⟩
  have HB10 := Lib.hid (below_drewN HB9.out q)
  have hb10 : Below w9.heap.size w9 (w9.drewN q) := below_drewN (Below.refl _ w9) q
  have cC := copies_any (H9.out.below hb10)
  have q10 := (hb10.cell (p := ⟨w3.heap.size, 0, none⟩) (World.block_lt_of_cell? w9 _ q9)).trans q9
  obtain ⟨Wz, hWz⟩ : ∃ Wz, w9.drewN q = Wz := ⟨_, rfl⟩
  rw [hWz] at HB10 cC q10 ⊢
  clear hb10 cS q9 hWz
  go_wp2_with fail
  refine cC.mono ?_
  rintro e w11 ⟨rfl, rfl⟩
  go_wp2
  go_ret
  exact ⟨rfl, HB10.out⟩
end Go.Proofs.Ytpnjjpbgbdicoaa
