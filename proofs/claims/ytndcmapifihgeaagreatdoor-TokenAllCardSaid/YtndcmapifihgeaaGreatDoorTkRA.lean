/- The reference's All of layer 10, walked. -/
import Derived.Test.YtndcmapifihgeaaGreatDoorTkRT
import Derived.Test.YtndcmapifihgeaaGreatDoorTkSpk
namespace Go.Proofs.YtndcmapifihgeaaGreatDoor.Tk
open Go.RowKit Go.Lib
open Ch (at0 nx nx_width at0_lt at0_drop Sl Sl.below Cells allN allFrom ret_bool)
open Tg (bg tr tn zero29 info29 Bk bk_new below_set6 own_set6 bgAt tkAt tkIn tokV)
open At (cellsA ads)

variable {l : List UInt8} {a : Option Addr} {cap i : Nat} {w w' : World}

set_option maxHeartbeats 1000000 in
set_option maxRecDepth 100000 in
theorem in_any (n : List UInt8) (t : Tok) (s : Value) (hs : ∃ a k c, s = .slice a k c) (w : World) :
    Calls Tryz.prog 26 #[tkV t s, .string ⟨n.toArray⟩] w fun r w' => r = .returned (.string ⟨(wi n t).toArray⟩) ∧ Below w.heap.size w w' := by
  obtain ⟨a5, k5, c5, rfl⟩ := hs
  unfold tkV wi
  generalize t.kind = tk
  generalize t.name = tnm
  generalize t.text = ttx
  generalize t.frm = tfr
  generalize t.upto = tup
  by_cases h2 : tk = 2
  · subst h2
    rw [if_pos rfl]
    go_enter Tryz.func26, Tryz.ntmps26
    go_wp2
    go_ret
    exact ⟨rfl, (Below.refl _ w).alloc (Nat.le_refl _) _⟩
  · rw [if_neg h2]
    by_cases h3 : tk = 3
    · subst h3
      rw [if_pos rfl]
      go_enter Tryz.func26, Tryz.ntmps26
      go_wp2
      go_ret
      exact ⟨rfl, (Below.refl _ w).alloc (Nat.le_refl _) _⟩
    · rw [if_neg h3]
      have g2 : ¬ ((tk : Int) = 2) := by omega
      have g3 : ¬ ((tk : Int) = 3) := by omega
      go_enter Tryz.func26, Tryz.ntmps26
      go_wp2
      go_ret
      exact ⟨rfl, (Below.refl _ w).alloc (Nat.le_refl _) _⟩

/-- each token's attributes lie where its cells say -/
def RHas (L : List (Tok × Value)) (w : World) : Prop := ∀ p ∈ L, w.ownsRow 0 69 2 p.2 p.1.attrs.length (cellsA p.1.attrs)
theorem RHas.below {L : List (Tok × Value)} (h : RHas L w) (hb : Below w.heap.size w w') : RHas L w' := fun p hp => At.ownsRow_below (h p hp) hb
theorem RHas.grown {L : List (Tok × Value)} {B : Nat} {k : Nat} {v : Value} {n : Nat} {xs : List Value} (h : RHas L w) (ho : w.ownsRow B 31 k v n xs) (hg : w.grownBy w' v.ownBlock) : RHas L w' := fun p hp => (h p hp).kept hg (own_types ho (h p hp) (by decide))
theorem RHas.alloc {L : List (Tok × Value)} (h : RHas L w) (o : Obj) : RHas L (w.alloc o) := fun p hp => (h p hp).alloc o

theorem RelemT : ∃ j, Tryz.prog.info? 31 = some j ∧ (j.zero, j.size, j.bytes) = (some (.agg #[.int .i64 0, .string ByteArray.empty, .slice none 0 0, .string ByteArray.empty, .int .i64 0, .int .i64 0]), 6, 80) :=
  Option.map_eq_some_iff.1 (by kernel_rfl : (Tryz.prog.info? 31).map (fun i => (i.zero, i.size, i.bytes)) = some (some (.agg #[.int .i64 0, .string ByteArray.empty, .slice none 0 0, .string ByteArray.empty, .int .i64 0, .int .i64 0]), 6, 80))

/-- one token behind a row of one's own: it is laid in a block first -/
theorem Rapp_tok (w : World) (B : Nat) (v : Value) (L : List (Tok × Value)) (t : Tok) (s : Value) (g : Nat) (hg : g = w.heap.size) (hown : w.ownsRow B 31 6 v L.length (rowT L)) (hl : L.length + 1 ≤ 1000000) (hB : B ≤ w.heap.size) (hs : s.oneCell' = true) :
    ∃ v' w', (Builtin.append_ #[39, 39] 39 #[v, .slice (some ⟨g, 0, none⟩) 1 1]).run Tryz.prog (w.alloc (.cells #[.int .i64 (t.kind : Int), .string ⟨t.name.toArray⟩, s, .string ⟨t.text.toArray⟩, .int .i64 (t.frm : Int), .int .i64 (t.upto : Int)] 31)) = .ok v' w' ∧
      w'.ownsRow B 31 6 v' (L ++ [(t, s)]).length (rowT (L ++ [(t, s)])) ∧ w.grownBy w' v.ownBlock := by
  subst hg
  obtain ⟨i, hi, hp⟩ := RelemT
  simp only [Prod.mk.injEq] at hp
  obtain ⟨hz, hsz, hby⟩ := hp
  have hb := bk_new w #[.int .i64 (t.kind : Int), .string ⟨t.name.toArray⟩, s, .string ⟨t.text.toArray⟩, .int .i64 (t.frm : Int), .int .i64 (t.upto : Int)] 31
  obtain ⟨v', w', hr, h1, h2, -, -⟩ := run_append_own_at (P := Tryz.prog) (w.alloc (.cells #[.int .i64 (t.kind : Int), .string ⟨t.name.toArray⟩, s, .string ⟨t.text.toArray⟩, .int .i64 (t.frm : Int), .int .i64 (t.upto : Int)] 31)) B 39 39 31 i _ 6 80 Tryz.underlying39 hi hz hsz hby rfl (by decide) v L.length (rowT L) (hown.alloc _) ⟨w.heap.size, 0, none⟩ 1 1 (six t s) (by simp [six])
    (fun j u hj => by
      rw [Ch.addr_add0, hb.cell j]
      show (six t s).toArray[j]? = some u
      rw [List.getElem?_toArray]
      exact hj)
    (fun u hu => by
      simp only [six, List.mem_cons, List.not_mem_nil, or_false] at hu
      rcases hu with rfl | rfl | rfl | rfl | rfl | rfl
      · rfl
      · rfl
      · exact hs
      · rfl
      · rfl
      · rfl) (by unfold maxLen; omega) (by omega) (by simp; omega)
  refine ⟨v', w', hr, ?_, (World.grownBy_alloc w _ v.ownBlock).trans h2⟩
  rw [rowT_append, List.length_append]
  exact h1

/-- what All answers -/
def RAllPost (l : List UInt8) (w : World) (r : Ending) (w' : World) : Prop :=
  ∃ (L : List (Tok × Value)) (v : Value), r = .returned v ∧ w'.ownsRow w.heap.size 31 6 v L.length (rowT L) ∧ RHas L w' ∧ Below w.heap.size w w' ∧ L.map Prod.fst = al l [] 0

def RAlRel (l : List UInt8) (w : World) (v3 v4 v5 : Value) (wr : World) : Prop :=
  ∃ (L : List (Tok × Value)) (n : List UInt8) (i : Nat), v4 = .string ⟨n.toArray⟩ ∧ v5 = .int .i64 (i : Int) ∧ i ≤ l.length ∧ n.length ≤ 4 * l.length ∧ wr.ownsRow w.heap.size 31 6 v3 L.length (rowT L) ∧ RHas L wr ∧ Below w.heap.size w wr ∧ L.map Prod.fst ++ al l n i = al l [] 0

set_option maxHeartbeats 4000000 in
set_option maxRecDepth 100000 in
theorem Rall_any (w : World) (hs : Sl l a cap w) (hl : l.length ≤ 20000) :
    Calls Tryz.prog 11 #[.slice a l.length cap] w (RAllPost l w) := by
  have HS := Lib.hid hs
  clear hs
  go_enter Tryz.func11, Tryz.ntmps11
  go_wp2
  go_loopw [3, 4, 5] (fun v3 v4 v5 wr => RAlRel l w v3 v5 v4 wr) (fun _ v4 _ _ => l.length - (RowKit.intOf v4).toNat)
  case atStart =>
    refine ⟨[], [], 0, rfl, rfl, by omega, by simp, ⟨rfl, Or.inr ⟨w.heap.size, 0, #[], rfl, Nat.le_refl _, ?_, by simp, by simp, by simp, rfl⟩⟩, fun p hp => by simp at hp, (Below.refl _ w).alloc (Nat.le_refl _) _, rfl⟩
    simp [World.alloc, -World.alloc_eq]
  case round =>
    obtain ⟨L, n, i, rfl, rfl, hi, hn, hown, hhas, hbw, heq⟩ := hrel
    by_cases hlt : i < l.length
    · have hlt1 : (i : Int) < (l.length : Int) := by omega
      have hp := nxT_is (n := n) hlt
      have hwl := wi_len hlt hn
      have cN := rnext_in (l := l) (a := a) (cap := cap) n i wr (HS.out.below hbw) (by omega) (by omega) hlt
      have hLl : L.length ≤ l.length := by
        have e := congrArg List.length heq
        rw [List.length_append, List.length_map] at e
        have := al_len l.length l [] 0 (by omega)
        omega
      rw [al_step hlt] at heq
      generalize nxT l n i = t at *
      have HN := Lib.hid (show (wi n t).length ≤ 4 * l.length from hwl)
      have h2 := hp.2.1
      have h3 := hp.2.2.1
      have HEQ := Lib.hid heq
      have HW := Lib.hid hown
      have HH := Lib.hid hhas
      have HB := Lib.hid hbw
      have cW := fun (s : Value) => in_any n t s
      unfold tkV at cW
      have CW := Lib.hid cW
      clear hp hwl heq hown hhas hbw cW
      unfold RNPost tkV at cN
      go_wp2_with fail
      refine cN.mono ?_
      rintro r w2 ⟨s, rfl, ho2, hb2⟩
      obtain ⟨a5, cap5, rfl, -⟩ := At.sl_own ho2
      have hsz2 := hb2.size
      have hszw := HB.out.size
      obtain ⟨W3, hW3⟩ : ∃ W3, w2.alloc (.cells #[.int .i64 (t.kind : Int), .string ⟨t.name.toArray⟩, .slice a5 t.attrs.length cap5, .string ⟨t.text.toArray⟩, .int .i64 (t.frm : Int), .int .i64 (t.upto : Int)] 31) = W3 := ⟨_, rfl⟩
      have hz3 : W3.heap.size = w2.heap.size + 1 := by rw [← hW3]; simp
      have hbw3 : Below w.heap.size w W3 := by rw [← hW3]; exact (HB.out.trans (hb2.mono HB.out.size)).alloc (by omega) _
      have bn3 : Bk w2.heap.size #[.int .i64 (t.kind : Int), .string ⟨t.name.toArray⟩, .slice a5 t.attrs.length cap5, .string ⟨t.text.toArray⟩, .int .i64 (t.frm : Int), .int .i64 (t.upto : Int)] 31 W3 := by rw [← hW3]; exact bk_new w2 _ 31
      have ho3 : W3.ownsRow wr.heap.size 69 2 (.slice a5 t.attrs.length cap5) t.attrs.length (cellsA t.attrs) := by rw [← hW3]; exact ho2.alloc _
      have how3 : W3.ownsRow w.heap.size 31 6 u3 L.length (rowT L) := by rw [← hW3]; exact (At.ownsRow_below HW.out hb2).alloc _
      have hh3 : RHas L W3 := by rw [← hW3]; exact (HH.out.below hb2).alloc _
      obtain ⟨v', w4, hr, how4, hgr⟩ := Rapp_tok W3 w.heap.size u3 L t (.slice a5 t.attrs.length cap5) W3.heap.size rfl how3 (by omega) (by omega) rfl
      obtain ⟨q0, q1, q2, q3, q4, q5, -, -, -, -, -, -⟩ := bn3.six
      have hne : some w2.heap.size ≠ u3.ownBlock := by
        intro e
        have := (HW.out.lt w2.heap.size e.symm).2
        omega
      have bn4 := bn3.grown hgr hne
      obtain ⟨p0, p1, p2, p3, p4, p5, -, -, -, -, -, -⟩ := bn4.six
      have hb4 : Below w.heap.size w w4 := hbw3.grown hgr (by omega) (fun q hq => (how3.lt q hq).1)
      have hh4 : RHas (L ++ [(t, .slice a5 t.attrs.length cap5)]) w4 := by
        intro p hp
        rw [List.mem_append] at hp
        rcases hp with hp | hp
        · exact hh3.grown how3 hgr p hp
        · simp only [List.mem_singleton] at hp
          subst hp
          exact (At.ownsRow_base ho3 (Nat.zero_le _)).kept hgr (own_types how3 ho3 (by decide))
      have cW4 := CW.out (.slice a5 t.attrs.length cap5) ⟨_, _, _, rfl⟩ w4
      have HR := Lib.hid hr
      have HO4 := Lib.hid how4
      have HH4 := Lib.hid hh4
      have HB4 := Lib.hid hb4
      have HN4 := Lib.hid bn4
      clear hr how4 hh4 hb4 bn4 bn3 ho3 how3 hh3 hgr hbw3 ho2 hb2 hne hz3
      go_wp2_with (at_builtin; refine Lib.wpList_append_run _ rfl (.tmp 20) (.tmp 22) 39 39 rfl _ _ rfl rfl v' w4 HR.out ?_)
      go_wp2_with fail
      refine cW4.mono ?_
      rintro r w5 ⟨rfl, hb5⟩
      obtain ⟨m0, m1, m2, m3, m4, m5, -, -, -, -, -, -⟩ := (HN4.out.below hb5).six
      have HO5 := Lib.hid (At.ownsRow_below HO4.out hb5)
      have HH5 := Lib.hid (HH4.out.below hb5)
      have HB5 := Lib.hid (HB4.out.trans (hb5.mono HB4.out.size))
      clear hb5
      go_wp2
      go_roundw
      case rel => exact ⟨L ++ [(t, .slice a5 t.attrs.length cap5)], wi n t, t.upto, rfl, rfl, h3, HN.out, HO5.out, HH5.out, HB5.out, by rw [List.map_append, List.append_assoc]; exact HEQ.out⟩
      case measure => simp [RowKit.intOf]; omega
    · have hlt1 : ¬ ((i : Int) < (l.length : Int)) := by omega
      rw [al_end (by omega), List.append_nil] at heq
      have HEQ := Lib.hid heq
      have HW := Lib.hid hown
      have HH := Lib.hid hhas
      have HB := Lib.hid hbw
      clear heq hown hhas hbw
      go_wp2
      go_ret
      exact ⟨L, _, rfl, HW.out, HH.out, HB.out, HEQ.out⟩
end Go.Proofs.YtndcmapifihgeaaGreatDoor.Tk
