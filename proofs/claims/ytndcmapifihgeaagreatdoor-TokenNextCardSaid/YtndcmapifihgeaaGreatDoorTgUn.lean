/- A map of names of the call's own: which names it bears; looked up, and written. -/
import Derived.Test.YtndcmapifihgeaaGreatDoorAtMath2
import Derived.Maps.Views
import Derived.Maps.OwnOps
import Derived.Test.YtndcmapifihgeaaGreatDoorTgAb
import Derived.Carry
namespace Go.Proofs.YtndcmapifihgeaaGreatDoor.At
open Go.RowKit Go.Lib Go.Maps Go.ChangeMaps

/-- the map's block bears just these names -/
def Seen (S : List Str) (b n : Nat) (w : World) : Prop :=
  ∃ D : DataW Unit, w.ownsMap Tryz.prog 9 (plainElem Tryz.prog 4) b n D ∧ IsMap D ∧ ∀ s : Str, D.atKey (.string s) (.lit (.bool false)) = .lit (.bool (decide (s ∈ S)))

theorem law9 : Keyed Tryz.prog 9 := string_keyed Tryz.underlying9
theorem zero4 (w : World) : (zeroValue 4).run Tryz.prog w = .ok (.bool false) w := by kernel_rfl
theorem key9 {s : Str} (h : s.length ≤ maxLen) : keyOf Tryz.prog 9 (.string ⟨s.toArray⟩) = some (.string s) := Go.WideMaps.keyOf_string_mk Tryz.underlying9 (s := ⟨s.toArray⟩) (show s.toArray.size ≤ maxLen by simpa using h)

theorem seen_made (w : World) : Seen [] w.heap.size 0 (w.alloc (.map #[] 0)) := by
  refine ⟨.map [], World.ownsMap_made w _ _ _, ⟨[], rfl⟩, fun s => ?_⟩
  rw [decide_eq_false (by simp)]
  rfl

theorem Seen.kept {S : List Str} {b n : Nat} {w w' : World} {row : Option Nat} (h : Seen S b n w) (hg : w.grownBy w' row) (hne : some b ≠ row) : Seen S b n w' := by
  obtain ⟨D, h1, h2, h3⟩ := h
  exact ⟨D, h1.kept hg hne, h2, h3⟩

set_option maxRecDepth 100000 in
theorem bool_inv {v : Value} {z : DataW Unit × List MemPlace} (h : plainElem Tryz.prog 4 v = some z) : ∃ x, v = .bool x ∧ z = (.lit (.bool x), []) := by
  unfold plainElem at h
  rw [Tryz.underlying4] at h
  cases v <;> simp at h
  exact ⟨_, rfl, h.symm⟩

set_option maxRecDepth 100000 in
/-- 'seen[s]' -/
theorem Seen.look {S : List Str} {b n : Nat} {w : World} (h : Seen S b n w) {s : Str} (hs : s.length ≤ maxLen) :
    (Instr.lookup 129 (.map (some b)) (.string ⟨s.toArray⟩) false).run Tryz.prog w = .ok (.bool (decide (s ∈ S))) w := by
  obtain ⟨D, h1, h2, h3⟩ := h
  obtain ⟨v, ps, hrun, hv⟩ := h1.lookup law9 Tryz.underlying129 (zero4 w) (plainElem_bool Tryz.underlying4 false) (key9 hs)
  obtain ⟨x, rfl, hx⟩ := bool_inv hv
  simp only [Prod.mk.injEq] at hx
  rw [h3 s] at hx
  have := hx.1
  injection this with this
  injection this with this
  rw [hrun, this]

set_option maxRecDepth 100000 in
/-- 'seen[s] = true' -/
theorem Seen.put {S : List Str} {b n : Nat} {w : World} (h : Seen S b n w) (hn : n < maxLen) {s : Str} (hs : s.length ≤ maxLen) :
    ∃ w', (Instr.mapUpdate 129 (.map (some b)) (.string ⟨s.toArray⟩) (.bool true)).run Tryz.prog w = .ok () w' ∧ Seen (S ++ [s]) b (n + 1) w' ∧ w.grownBy w' (some b) := by
  obtain ⟨D, h1, h2, h3⟩ := h
  obtain ⟨w', hrun, h4, h5⟩ := h1.update law9 Tryz.underlying129 hn (key9 hs) (plainElem_bool Tryz.underlying4 true)
  refine ⟨w', hrun, ⟨_, h4, h2.put _ _, fun t => ?_⟩, h5⟩
  by_cases he : t = s
  · subst he
    rw [atKey_put_same h2 (k := .string t) (by simp [WideAt.IsKeyLit]), decide_eq_true (by simp)]
  · rw [atKey_put_other (by intro e; injection e with e; exact he e), h3 t]
    congr 2
    exact decide_eq_decide.2 (by simp [he])
end Go.Proofs.YtndcmapifihgeaaGreatDoor.At

/- Begins, unseen and what Keep keeps by it, walked. -/
namespace Go.Proofs.YtndcmapifihgeaaGreatDoor.Tg
open Go.RowKit Go.Lib
open Ch (at0 nx nx_width nx_range at0_lt at0_drop enc_len Sl Sl.below Cells ret_str good nx_good ret_bool)
open Kl (blankN greatN letterZ letter_any)
open At (cellsA names ads Seen kept)

variable {l : List UInt8} {a : Option Addr} {cap R i : Nat} {W w w' : World}

/-- the byte at a place; -1: there is none -/
def lk (l : List UInt8) (x : Int) : Int := if 0 ≤ x ∧ x < (l.length : Int) then ((at0 l x.toNat : Nat) : Int) else -1

set_option maxHeartbeats 1000000 in
set_option maxRecDepth 100000 in
theorem look_any (x : Int) (w : World) (hs : Sl l a cap w) (hlen : l.length ≤ 1000000) : Calls Tryz.prog 73 #[.slice a l.length cap, .int .i64 x] w fun e w' => e = .returned (.int .i32 (lk l x)) ∧ w = w' := by
  by_cases h : 0 ≤ x ∧ x < (l.length : Int)
  · obtain ⟨i, rfl⟩ : ∃ i : Nat, x = i := ⟨x.toNat, by omega⟩
    have e : lk l (i : Int) = ((at0 l i : Nat) : Int) := by unfold lk; rw [if_pos h]; rfl
    rw [e]
    obtain ⟨hcap, h2 | ⟨b, off, rfl, hc⟩⟩ := hs
    · subst h2; simp at h; omega
    · have c1 := hc i (by omega)
      have h0 : ¬ ((i : Int) < 0) := by omega
      have h1 : (i : Int) < (l.length : Int) := h.2
      have hb := at0_lt l i
      generalize at0 l i = C at c1 hb ⊢
      clear e h hc
      go_enter Tryz.func73, Tryz.ntmps73
      go_wp2
      go_ret
      exact ⟨rfl, rfl⟩
  · have e : lk l x = -1 := if_neg h
    rw [e]
    clear e
    by_cases h0 : x < 0
    · go_enter Tryz.func73, Tryz.ntmps73
      go_wp2
      go_ret
      exact ⟨rfl, rfl⟩
    · have h1 : ¬ (x < (l.length : Int)) := by omega
      go_enter Tryz.func73, Tryz.ntmps73
      go_wp2
      go_ret
      exact ⟨rfl, rfl⟩

theorem letterZ_nat (c : Nat) : letterZ (c : Int) = letN c := by
  unfold letterZ letN
  rw [Kl.smallZ_nat, Kl.greatZ_nat]
  rfl
theorem lk_in {i : Nat} (h : i < l.length) : lk l (i : Int) = ((at0 l i : Nat) : Int) := by unfold lk; rw [if_pos (by omega)]; rfl
theorem lk_letter (i : Nat) : letterZ (lk l (i : Int)) = letN (at0 l i) := by
  by_cases h : i < l.length
  · rw [lk_in h, letterZ_nat]
  · have e : lk l (i : Int) = -1 := if_neg (by omega)
    rw [e, at0_out (by omega)]
    rfl
theorem lk_eq (i c : Nat) (hc : c ≠ 0) : (lk l (i : Int) == (c : Int)) = decide (at0 l i = c) := by
  by_cases h : i < l.length
  · rw [lk_in h, Bool.eq_iff_iff]; simp; omega
  · have e : lk l (i : Int) = -1 := if_neg (by omega)
    rw [e, at0_out (by omega), Bool.eq_iff_iff]; simp; omega

theorem ret_bb {p q r s : Bool} (h : p = r) (h' : q = s) : Ending.returned (.tuple #[.bool p, .bool q]) = .returned (.tuple #[.bool r, .bool s]) := by rw [h, h']

theorem bg_at (l : List UInt8) (i : Nat) (h : i < l.length) : bgAt l (i : Int) = (if at0 l i = 60 then (if letN (at0 l (i + 1)) = true then 1 else if at0 l (i + 1) = 47 ∧ letN (at0 l (i + 2)) = true then 2 else 0) else 0) := by
  have hbg : bgAt l (i : Int) = bg (l.drop i) := if_pos (by omega)
  have d0 : at0 (l.drop i) 0 = at0 l i := by rw [at0_drop]; rfl
  have d1 : at0 (l.drop i) 1 = at0 l (i + 1) := at0_drop _ _ _
  have d2 : at0 (l.drop i) 2 = at0 l (i + 2) := at0_drop _ _ _
  rw [hbg]
  unfold bg
  rw [d0, d1, d2]

set_option maxHeartbeats 2000000 in
set_option maxRecDepth 100000 in
theorem begins_any (x : Int) (w : World) (hs : Sl l a cap w) (hlen : l.length ≤ 1000000) : Calls Tryz.prog 52 #[.slice a l.length cap, .int .i64 x] w fun e w' => e = .returned (.tuple #[.bool (decide (bgAt l x ≠ 0)), .bool (decide (bgAt l x = 2))]) ∧ w = w' := by
  have c0 := look_any x w hs hlen
  by_cases h : 0 ≤ x ∧ x < (l.length : Int)
  · obtain ⟨i, rfl⟩ : ∃ i : Nat, x = i := ⟨x.toNat, by omega⟩
    have hbg := bg_at l i (by omega)
    have hil : i < 1000000 := by omega
    have c1 := look_any ((i : Int) + 1) w hs hlen
    have c2 := look_any ((i : Int) + 2) w hs hlen
    have k0 : (lk l (i : Int) == 60) = decide (at0 l i = 60) := lk_eq (l := l) i 60 (by decide)
    have k1 : (lk l ((i : Int) + 1) == 47) = decide (at0 l (i + 1) = 47) := lk_eq (l := l) (i + 1) 47 (by decide)
    have cL1 := letter_any (lk l ((i : Int) + 1)) w
    have cL2 := letter_any (lk l ((i : Int) + 2)) w
    rw [show letterZ (lk l ((i : Int) + 1)) = letN (at0 l (i + 1)) from lk_letter (i + 1)] at cL1
    rw [show letterZ (lk l ((i : Int) + 2)) = letN (at0 l (i + 2)) from lk_letter (i + 2)] at cL2
    generalize lk l (i : Int) = Y0 at c0 k0
    generalize lk l ((i : Int) + 1) = Y1 at c1 k1 cL1
    generalize lk l ((i : Int) + 2) = Y2 at c2 cL2
    clear h hs
    by_cases t0 : at0 l i = 60
    · rw [if_pos t0] at hbg
      rw [decide_eq_true t0] at k0
      have e0 : (Y0 != 60) = false := by simp only [bne, k0]; rfl
      by_cases t1 : at0 l (i + 1) = 47
      · rw [decide_eq_true t1] at k1
        rw [t1] at hbg
        simp only [show letN 47 = false from rfl, Bool.false_eq_true, if_false, true_and] at hbg
        cases t2 : letN (at0 l (i + 2)) with
        | true =>
          rw [t2] at cL2 hbg
          rw [hbg]
          clear hbg t0 t1 t2 cL1
          go_enter Tryz.func52, Tryz.ntmps52
          go_wp2_with fail
          refine c0.mono ?_
          rintro e w1 ⟨rfl, rfl⟩
          go_wp2_with fail
          refine c1.mono ?_
          rintro e w1 ⟨rfl, rfl⟩
          go_wp2_with fail
          refine c2.mono ?_
          rintro e w1 ⟨rfl, rfl⟩
          go_wp2_with fail
          refine cL2.mono ?_
          rintro e w1 ⟨rfl, rfl⟩
          go_wp2
          go_ret2
          exact ⟨rfl, rfl⟩
        | false =>
          rw [t2] at cL2 hbg
          rw [hbg]
          clear hbg t0 t1 t2 cL1
          go_enter Tryz.func52, Tryz.ntmps52
          go_wp2_with fail
          refine c0.mono ?_
          rintro e w1 ⟨rfl, rfl⟩
          go_wp2_with fail
          refine c1.mono ?_
          rintro e w1 ⟨rfl, rfl⟩
          go_wp2_with fail
          refine c2.mono ?_
          rintro e w1 ⟨rfl, rfl⟩
          go_wp2_with fail
          refine cL2.mono ?_
          rintro e w1 ⟨rfl, rfl⟩
          go_wp2
          go_ret2
          exact ⟨rfl, rfl⟩
      · rw [decide_eq_false t1] at k1
        simp only [t1, false_and, if_false] at hbg
        cases t2 : letN (at0 l (i + 1)) with
        | true =>
          rw [t2] at cL1 hbg
          rw [hbg]
          clear hbg t0 t1 t2 cL2 c2
          go_enter Tryz.func52, Tryz.ntmps52
          go_wp2_with fail
          refine c0.mono ?_
          rintro e w1 ⟨rfl, rfl⟩
          go_wp2_with fail
          refine c1.mono ?_
          rintro e w1 ⟨rfl, rfl⟩
          go_wp2_with fail
          refine c1.mono ?_
          rintro e w1 ⟨rfl, rfl⟩
          go_wp2_with fail
          refine cL1.mono ?_
          rintro e w1 ⟨rfl, rfl⟩
          go_wp2
          go_ret2
          exact ⟨rfl, rfl⟩
        | false =>
          rw [t2] at cL1 hbg
          rw [hbg]
          clear hbg t0 t1 t2 cL2 c2
          go_enter Tryz.func52, Tryz.ntmps52
          go_wp2_with fail
          refine c0.mono ?_
          rintro e w1 ⟨rfl, rfl⟩
          go_wp2_with fail
          refine c1.mono ?_
          rintro e w1 ⟨rfl, rfl⟩
          go_wp2_with fail
          refine c1.mono ?_
          rintro e w1 ⟨rfl, rfl⟩
          go_wp2_with fail
          refine cL1.mono ?_
          rintro e w1 ⟨rfl, rfl⟩
          go_wp2
          go_ret2
          exact ⟨rfl, rfl⟩
    · rw [if_neg t0] at hbg
      rw [decide_eq_false t0] at k0
      have e0 : (Y0 != 60) = true := by simp only [bne, k0]; rfl
      rw [hbg]
      clear hbg t0
      go_enter Tryz.func52, Tryz.ntmps52
      go_wp2_with fail
      refine c0.mono ?_
      rintro e w1 ⟨rfl, rfl⟩
      go_wp2
      go_ret2
      exact ⟨rfl, rfl⟩
  · have e : lk l x = -1 := if_neg h
    have hb : bgAt l x = 0 := if_neg h
    rw [hb]
    rw [e] at c0
    clear e hb
    go_enter Tryz.func52, Tryz.ntmps52
    go_wp2_with fail
    refine c0.mono ?_
    rintro e w1 ⟨rfl, rfl⟩
    go_wp2
    go_ret2
    exact ⟨rfl, rfl⟩

/-! ### unseen -/
set_option maxHeartbeats 1000000 in
set_option maxRecDepth 100000 in
theorem unseen_any (w : World) : Calls Tryz.prog 79 #[] w fun e w' => e = .returned (.func (.func 108) #[] #[.pointer (some ⟨w.heap.size + 1, 0, none⟩)]) ∧ w' = (w.alloc (.map #[] 0)).alloc (.cells #[.map (some w.heap.size)] 129) := by
  have hmm := @run_makeMap Tryz.prog
  go_enter Tryz.func79, Tryz.ntmps79
  go_wp2
  go_ret
  exact ⟨rfl, rfl⟩

/-- which names were seen, and where they lie -/
def Sn (L : List At.At) (m g : Nat) (k : Nat) (w : World) : Prop := Seen (names (L.take k)) m k w ∧ w.heap[g]? = some (.cells #[.map (some m)] 129 (0, 0))

theorem seen_block {S : List At.Str} {b n : Nat} (h : Seen S b n w) (hb : w'.heap[b]? = w.heap[b]?) : Seen S b n w' := by
  obtain ⟨D, ⟨es, clock, h1, h2, h3, h4⟩, h5, h6⟩ := h
  exact ⟨D, ⟨es, clock, hb.trans h1, h2, h3, h4⟩, h5, h6⟩
theorem seen_obj {S : List At.Str} {b n : Nat} (h : Seen S b n w) : ∃ es clock, w.heap[b]? = some (.map es clock) := by
  obtain ⟨D, ⟨es, clock, h1, -⟩, -⟩ := h
  exact ⟨es, clock, h1⟩
theorem lt_of_heap {g : Nat} {o : Obj} (h : w.heap[g]? = some o) : g < w.heap.size := by
  rcases Nat.lt_or_ge g w.heap.size with k | k
  · exact k
  · rw [Array.getElem?_eq_none k] at h; cases h

set_option maxHeartbeats 1000000 in
set_option maxRecDepth 100000 in
theorem un1_any (S : List At.Str) (m g k : Nat) (n v : At.Str) (w : World) (hS : Seen S m k w) (hg : w.heap[g]? = some (.cells #[.map (some m)] 129 (0, 0))) (hk : k < 100000) (hn : n.length ≤ 100000000) :
    Calls Tryz.prog 108 #[.agg #[.string ⟨n.toArray⟩, .string ⟨v.toArray⟩], .pointer (some ⟨g, 0, none⟩)] w fun e w' => e = .returned (.bool (!decide (n ∈ S))) ∧ Seen (S ++ [n]) m (k + 1) w' ∧ w'.heap[g]? = some (.cells #[.map (some m)] 129 (0, 0)) ∧ w.grownBy w' (some m) ∧ At.Rows34 w w' := by
  have hmx : n.length ≤ maxLen := by unfold maxLen; omega
  obtain ⟨o, ho⟩ : ∃ o : Obj, o = .cells #[.string ⟨n.toArray⟩, .string ⟨v.toArray⟩] 75 := ⟨_, rfl⟩
  have hSA : Seen S m k (w.alloc (.cells #[.string ⟨n.toArray⟩, .string ⟨v.toArray⟩] 75)) := by
    obtain ⟨es, clock, h1⟩ := (seen_obj hS)
    exact seen_block hS (Lib.alloc_old w _ m (lt_of_heap h1))
  have hgA : (w.alloc (.cells #[.string ⟨n.toArray⟩, .string ⟨v.toArray⟩] 75)).heap[g]? = some (.cells #[.map (some m)] 129 (0, 0)) := (Lib.alloc_old w _ g (lt_of_heap hg)).trans hg
  have cg : (w.alloc (.cells #[.string ⟨n.toArray⟩, .string ⟨v.toArray⟩] 75)).cell? ⟨g, 0, none⟩ = some (.map (some m)) := by rw [Lib.cell_of_heap hgA]; rfl
  have hlook := hSA.look hmx
  obtain ⟨w2, hput, hS2, hgr⟩ := hSA.put (by unfold maxLen; omega) hmx
  have hne : g ≠ m := by
    rintro rfl
    obtain ⟨es, clock, h1⟩ := (seen_obj hS)
    rw [hg] at h1
    cases h1
  have hg2 : w2.heap[g]? = some (.cells #[.map (some m)] 129 (0, 0)) := (hgr.block g (lt_of_heap hgA) (by simp; exact hne)).trans hgA
  have hrows : At.Rows34 w w2 := by
    refine ⟨by have := hgr.size; simp at this; omega, fun q cur f hq => ?_⟩
    have hqm : q ≠ m := by
      rintro rfl
      obtain ⟨es, clock, h1⟩ := (seen_obj hS)
      rw [hq] at h1
      cases h1
    have hql := lt_of_heap hq
    exact (hgr.block q (by simp; omega) (by simp; exact hqm)).trans ((Lib.alloc_old w _ q hql).trans hq)
  have hgw : w.grownBy w2 (some m) := World.grownBy.trans (World.grownBy_alloc w _ _) hgr
  have hd1 : (w.alloc (.cells #[.string ⟨n.toArray⟩, .string ⟨v.toArray⟩] 75)).cell? ⟨w.heap.size, 0, none⟩ = some (.string ⟨n.toArray⟩) := (At.cell_two w _ _ _).1
  have HS2 := Lib.hid hS2
  have HG2 := Lib.hid hg2
  have HR := Lib.hid hrows
  have HW := Lib.hid hgw
  generalize decide (n ∈ S) = Z at hlook ⊢
  clear hSA hS2 hg2 hrows hgw hgr hgA hS hg ho o
  go_enter Tryz.func108, Tryz.ntmps108
  go_wp2
  go_ret
  exact ⟨rfl, HS2.out, HG2.out, HW.out, HR.out⟩

theorem names_take {L : List At.At} {k : Nat} (h : k < L.length) : names (L.take (k + 1)) = names (L.take k) ++ [(At.at0 L k).1] := by
  rw [At.take_snoc h, At.names_append]; rfl

/-- what is kept is what is added one by one -/
theorem kept_ads (L : List At.At) : ∀ k, k ≤ L.length → kept L (fun i => !decide ((At.at0 L i).1 ∈ names (L.take i))) k = ads (L.take k)
  | 0, _ => rfl
  | k + 1, h => by
    have ih := kept_ads L k (by omega)
    have e : ads (L.take (k + 1)) = At.add (ads (L.take k)) (At.at0 L k) := by
      unfold ads
      rw [At.take_snoc (by omega), List.foldl_append]
      rfl
    rw [e]
    by_cases hm : (At.at0 L k).1 ∈ names (L.take k)
    · rw [At.kept_no (by simp [hm]), ih, At.add_in ((At.ads_mem _ _).2 hm)]
    · rw [At.kept_yes (by simp [hm]), ih, At.add_out (fun q => hm ((At.ads_mem _ _).1 q))]

theorem keepU_any (L : List At.At) (v : Value) (B0 m g : Nat) (w : World) (hown : w.ownsRow B0 75 2 v L.length (cellsA L)) (hl : L.length ≤ 100000 - 1) (hL : ∀ x ∈ L, x.1.length ≤ 100000000) (hvm : v.ownBlock = none ∨ v.ownBlock ≠ some m) (hS : Seen [] m 0 w) (hg : w.heap[g]? = some (.cells #[.map (some m)] 129 (0, 0))) :
    Calls Tryz.prog 78 #[v, .func (.func 108) #[] #[.pointer (some ⟨g, 0, none⟩)]] w fun e w' => ∃ v', e = .returned v' ∧ w'.ownsRow w.heap.size 75 2 v' (ads L).length (cellsA (ads L)) ∧ w.grownBy w' (some m) := by
  refine (At.keep_any L v B0 108 #[.pointer (some ⟨g, 0, none⟩)] (fun i => !decide ((At.at0 L i).1 ∈ names (L.take i))) (Sn L m g) (some m) w (Go.Proofs.enters_of Tryz.func108 (by kernel_rfl) rfl) hown (by omega) hvm ⟨hS, hg⟩ ?_ ?_).mono ?_
  · rintro i w1 w2 ⟨h1, h2⟩ hb
    obtain ⟨es, clock, h3⟩ := (seen_obj h1)
    refine ⟨seen_block h1 (hb.block m (lt_of_heap h3) (fun cur f e => ?_)), (hb.block g (lt_of_heap h2) (fun cur f e => ?_)).trans h2⟩
    · rw [h3] at e; cases e
    · rw [h2] at e
      simp only [Option.some.injEq, Obj.cells.injEq] at e
      exact absurd e.2.1 (by decide)
  · rintro i w1 hi ⟨h1, h2⟩ hgr
    refine (un1_any (names (L.take i)) m g i (At.at0 L i).1 (At.at0 L i).2 w1 h1 h2 (by omega) (hL _ (At.at0_mem hi))).mono ?_
    rintro e w2 ⟨rfl, h3, h4, h5, h6⟩
    exact ⟨rfl, ⟨by rw [names_take hi]; exact h3, h4⟩, World.grownBy.trans hgr h5, h6⟩
  · rintro e w' ⟨v', rfl, ho, -, hgr⟩
    rw [kept_ads L _ (Nat.le_refl _), List.take_length] at ho
    exact ⟨v', rfl, ho, hgr⟩

theorem aN_len (m : List UInt8) : (aN m).length ≤ 4 * m.length + 4 := by
  have h1 := (enc_len ((lowN (nx m).1 : Nat) : Int)).2
  have h2 := lw_len pAtt (m.drop (nx m).2)
  unfold aN
  simp only [List.length_append, List.length_drop] at *
  omega
theorem ab_name (m : List UInt8) : (ab m).1.1 = aN m := by unfold ab; split <;> rfl

/-- how many attributes, and how long their names are -/
theorem ats_bd (n : Nat) : ∀ (m : List UInt8), m.length ≤ n → ∀ (L : List At.At) (e : Nat), ats m = some (L, e) → L.length < e ∧ e ≤ m.length ∧ ∀ x ∈ L, x.1.length ≤ 4 * m.length + 4 := by
  induction n with
  | zero =>
    intro m h L e ha
    obtain rfl : m = [] := List.eq_nil_of_length_eq_zero (by omega)
    rw [ats_end rfl] at ha
    cases ha
  | succ n ih =>
    intro m h L e ha
    by_cases h0 : m.drop (ov pGap m) = []
    · rw [ats_end h0] at ha; cases ha
    by_cases h62 : hd (m.drop (ov pGap m)) = 62
    · rw [ats_gt h62] at ha
      simp only [Option.some.injEq, Prod.mk.injEq] at ha
      obtain ⟨rfl, rfl⟩ := ha
      have := List.length_pos_iff.2 h0
      simp only [List.length_drop] at this
      exact ⟨by simp, by omega, fun x hx => by cases hx⟩
    · rw [ats_more h0 h62, Option.map_eq_some_iff] at ha
      obtain ⟨⟨L', e'⟩, ha', he⟩ := ha
      simp only [Prod.mk.injEq] at he
      obtain ⟨rfl, rfl⟩ := he
      have hb := ab_le h0
      have hN := aN_len (m.drop (ov pGap m))
      simp only [List.length_drop] at hb hN
      obtain ⟨i1, i2, i3⟩ := ih _ (by simp; omega) L' e' ha'
      simp only [List.length_drop] at i2 i3
      refine ⟨by simp; omega, by omega, fun x hx => ?_⟩
      rcases List.mem_cons.1 hx with rfl | hx
      · rw [ab_name]; omega
      · have := i3 x hx; omega
end Go.Proofs.YtndcmapifihgeaaGreatDoor.Tg
