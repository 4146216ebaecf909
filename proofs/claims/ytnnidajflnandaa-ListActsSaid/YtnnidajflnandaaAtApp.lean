/- Appends of attributes behind a row of one's own, and what Of, To and both Add make. -/
import Derived.Test.YtnnidajflnandaaAtMem
namespace Go.Proofs.Ytnnidajflnandaa.At
open Go.RowKit Go.Lib

/-- a slice type whose elements are structs of two strings -/
structure Elem (t e : TypeId) : Prop where
  ht : Try.prog.underlying t = some (.slice e)
  info : ∃ j, Try.prog.info? e = some j ∧ (j.zero, j.size, j.bytes) = (some (.agg #[.string ByteArray.empty, .string ByteArray.empty]), 2, 32)

theorem elem22 : Elem 35 71 := ⟨Try.underlying35, Option.map_eq_some_iff.1 (by kernel_rfl : (Try.prog.info? 71).map (fun i => (i.zero, i.size, i.bytes)) = some (some (.agg #[.string ByteArray.empty, .string ByteArray.empty]), 2, 32))⟩
theorem elem26 : Elem 41 72 := ⟨Try.underlying41, Option.map_eq_some_iff.1 (by kernel_rfl : (Try.prog.info? 72).map (fun i => (i.zero, i.size, i.bytes)) = some (some (.agg #[.string ByteArray.empty, .string ByteArray.empty]), 2, 32))⟩

/-- a slice behind a row of one's own -/
theorem app_sl {t e : TypeId} (E : Elem t e) (w : World) (B : Nat) (v : Value) (L M : List At) (a : Option Addr) (cap : Nat) (hown : w.ownsRow B e 2 v L.length (cellsA L)) (hs : Sl M a cap w) (hl : L.length + M.length ≤ 1000000) (hB : B ≤ w.heap.size) :
    ∃ v' w', (Builtin.append_ #[t, t] t #[v, .slice a M.length cap]).run Try.prog w = .ok v' w' ∧ w'.ownsRow B e 2 v' (L ++ M).length (cellsA (L ++ M)) ∧ w.grownBy w' v.ownBlock ∧ (v'.ownBlock = v.ownBlock ∨ v'.ownBlock = some w.heap.size) := by
  obtain ⟨i, hi, hp⟩ := E.info
  simp only [Prod.mk.injEq] at hp
  obtain ⟨hz, hsz, hby⟩ := hp
  rw [List.length_append, cellsA_append]
  cases a with
  | none =>
    obtain ⟨h0, rfl⟩ := hs.2.1 rfl
    obtain rfl : M = [] := List.eq_nil_of_length_eq_zero h0
    have hr := run_append_owned_none (P := Try.prog) (w := w) B t t e i 2 E.ht hi v L.length (cellsA L) hown
    refine ⟨v, w, hr, ?_, ⟨rfl, rfl, rfl, Nat.le_refl _, fun _ _ _ => rfl⟩, Or.inl rfl⟩
    rw [cellsA_nil, List.append_nil]
    exact hown
  | some ad =>
    have hc : ∀ (j : Nat) (u : Value), (cellsA M)[j]? = some u → w.cell? (ad.add j) = some u := by
      obtain ⟨-, -, h2 | ⟨b, off, hb, hc⟩⟩ := hs
      · intro j u hj; subst h2; simp [cellsA] at hj
      · cases hb
        exact hc.news
    obtain ⟨v', w', hr, h1, h2, -, h4⟩ := run_append_own_at (P := Try.prog) w B t t e i _ 2 32 E.ht hi hz hsz hby rfl (by decide) v L.length (cellsA L) hown ad M.length cap (cellsA M) (cellsA_len M) hc (cellsA_one M) (by unfold maxLen; omega) (by omega) hB
    exact ⟨v', w', hr, h1, h2, h4⟩

theorem sl_one (w : World) (x : At) (e : TypeId) (g : Nat) (hg : g = w.heap.size) : Sl [x] (some ⟨g, 0, none⟩) 1 (w.alloc (.cells #[.string ⟨x.1.toArray⟩, .string ⟨x.2.toArray⟩] e)) := by
  subst hg
  refine ⟨by simp, (fun h => by cases h), Or.inr ⟨_, 0, rfl, ?_⟩⟩
  intro i hi
  obtain rfl : i = 0 := by simp at hi; omega
  exact ⟨by simp [at0], by simp [at0]⟩

/-- one attribute behind a row of one's own: it is laid in a block first -/
theorem app_one {t e : TypeId} (E : Elem t e) (w : World) (B : Nat) (v : Value) (L : List At) (x : At) (g : Nat) (hg : g = w.heap.size) (hown : w.ownsRow B e 2 v L.length (cellsA L)) (hl : L.length + 1 ≤ 1000000) (hB : B ≤ w.heap.size) :
    ∃ v' w', (Builtin.append_ #[t, t] t #[v, .slice (some ⟨g, 0, none⟩) 1 1]).run Try.prog (w.alloc (.cells #[.string ⟨x.1.toArray⟩, .string ⟨x.2.toArray⟩] e)) = .ok v' w' ∧
      w'.ownsRow B e 2 v' (L ++ [x]).length (cellsA (L ++ [x])) ∧ w.grownBy w' v.ownBlock ∧ (v'.ownBlock = v.ownBlock ∨ v'.ownBlock = some (w.heap.size + 1)) := by
  obtain ⟨v', w', h1, h2, h3, h4⟩ := app_sl E _ B v L [x] (some ⟨g, 0, none⟩) 1 (hown.alloc (.cells #[.string ⟨x.1.toArray⟩, .string ⟨x.2.toArray⟩] e)) (sl_one w x e g hg) (by simpa using hl) (by simp; omega)
  refine ⟨v', w', h1, h2, (World.grownBy_alloc w _ v.ownBlock).trans h3, ?_⟩
  simpa using h4

set_option maxHeartbeats 2000000 in
set_option maxRecDepth 100000 in
theorem of_any (L : List At) (a : Option Addr) (cap : Nat) (w : World) (hs : Sl L a cap w) (hl : L.length ≤ 400000) :
    Calls Try.prog 13 #[.slice a L.length cap] w fun e w' => ∃ v, e = .returned v ∧ w'.ownsRow w.heap.size 72 2 v L.length (cellsA L) ∧ Below w.heap.size w w' := by
  go_enter Try.func13, Try.ntmps13
  go_wp2
  go_loopw [3, 8] (fun o v wr => ∃ k : Nat, v = .int .i64 k ∧ k ≤ L.length ∧ wr.ownsRow w.heap.size 72 2 o (L.take k).length (cellsA (L.take k)) ∧ Below w.heap.size w wr) (fun _ v _ => L.length - (RowKit.intOf v).toNat)
  case atStart => exact ⟨0, rfl, by omega, World.ownsRow_nil _ _ _ _, Below.refl _ _⟩
  case round =>
    obtain ⟨k, rfl, hk, hown, hbw⟩ := hrel
    by_cases hlt : k < L.length
    · obtain ⟨hcap, hnil, h0 | ⟨b, off, rfl, hc⟩⟩ := hs.below hbw
      · subst h0; simp at hlt
      · obtain ⟨c1, c2⟩ := hc k hlt
        have h1 : (k : Int) < (L.length : Int) := by omega
        have HT := Lib.hid (take_snoc hlt)
        obtain ⟨⟨x1, x2⟩, hx⟩ : ∃ x, at0 L k = x := ⟨_, rfl⟩
        rw [hx] at c1 c2 HT
        simp only at c1 c2
        have hsz := hbw.size
        have hA : Below wr.heap.size wr (wr.alloc (.cells #[.string ⟨x1.toArray⟩, .string ⟨x2.toArray⟩] 71)) := below_alloc _
        obtain ⟨v', w3, hr, hown3, hgr, -⟩ := app_one elem26 (wr.alloc (.cells #[.string ⟨x1.toArray⟩, .string ⟨x2.toArray⟩] 71)) w.heap.size _ (L.take k) (x1, x2) (wr.heap.size + 1) (by simp) (hown.alloc _) (by simp; omega) (by simp; omega)
        have HR := Lib.hid hr
        have HO := Lib.hid hown3
        have HB := Lib.hid ((hbw.trans (hA.mono hbw.size)).grown hgr (by simp; omega) (fun g hg => (hown.lt g hg).1))
        clear hx hc hnil hr hown3 hgr hA hown hbw
        go_wp2_with (at_builtin; refine Lib.wpList_append_run _ rfl (.tmp 12) (.tmp 14) 41 41 rfl _ _ rfl rfl v' w3 HR.out ?_)
        go_roundw
        case rel => exact ⟨k + 1, by go_num, by omega, by rw [HT.out]; exact HO.out, HB.out⟩
        case measure => simp [RowKit.intOf]; omega
    · have h1 : ¬ ((k : Int) < (L.length : Int)) := by omega
      have h2 : L.take k = L := List.take_of_length_le (by omega)
      rw [h2] at hown
      have HO := Lib.hid hown
      have HB := Lib.hid hbw
      clear hown hbw h2
      go_wp2
      go_ret
      exact ⟨_, rfl, HO.out, HB.out⟩

end Go.Proofs.Ytnnidajflnandaa.At
