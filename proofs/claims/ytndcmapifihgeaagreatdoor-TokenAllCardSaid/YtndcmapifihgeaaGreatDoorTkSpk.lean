/- Layer 10's All, walked: rows of tokens. -/
import Derived.Test.YtndcmapifihgeaaGreatDoorTkC
import Derived.Maps.AppendAt
import Derived.Lib.AppendZeros
import Derived.Test.YtndcmapifihgeaaGreatDoorSpk
namespace Go.Proofs.YtndcmapifihgeaaGreatDoor.Tk
open Go.RowKit Go.Lib
open Ch (at0 nx nx_width at0_lt at0_drop Sl Sl.below Cells allN allFrom ret_bool)
open Tg (bg tr tn zero29 info29 Bk bk_new below_set6 own_set6 bgAt tkAt tkIn tokV)
open At (cellsA ads)

variable {l : List UInt8} {a : Option Addr} {cap i : Nat} {w w' : World}

/-- a token's cells, as a list -/
def six (t : Tok) (s : Value) : List Value := [.int .i64 (t.kind : Int), .string ⟨t.name.toArray⟩, s, .string ⟨t.text.toArray⟩, .int .i64 (t.frm : Int), .int .i64 (t.upto : Int)]
/-- the cells of tokens, each with its list of attributes -/
def rowT : List (Tok × Value) → List Value
  | [] => []
  | p :: r => six p.1 p.2 ++ rowT r
theorem rowT_append (L M : List (Tok × Value)) : rowT (L ++ M) = rowT L ++ rowT M := by
  induction L with
  | nil => rfl
  | cons p r ih => show six p.1 p.2 ++ rowT (r ++ M) = six p.1 p.2 ++ rowT r ++ rowT M; rw [ih, List.append_assoc]
theorem rowT_len (L : List (Tok × Value)) : (rowT L).length = L.length * 6 := by
  induction L with
  | nil => rfl
  | cons p r ih => show (six p.1 p.2 ++ rowT r).length = _; rw [List.length_append, ih]; simp [six]; omega
theorem rowT_at (L : List (Tok × Value)) : ∀ (j : Nat) (t : Tok) (s : Value), L[j]? = some (t, s) → ∀ k, k < 6 → (rowT L)[j * 6 + k]? = (six t s)[k]? := by
  induction L with
  | nil => intro j t s h; simp at h
  | cons p r ih =>
    intro j t s h k hk
    show (six p.1 p.2 ++ rowT r)[j * 6 + k]? = _
    cases j with
    | zero =>
      simp only [List.getElem?_cons_zero, Option.some.injEq] at h
      subst h
      rw [List.getElem?_append_left (by simp [six]; omega)]
      simp
    | succ j =>
      simp only [List.getElem?_cons_succ] at h
      rw [List.getElem?_append_right (by simp [six]; omega), show (j + 1) * 6 + k - (six p.1 p.2).length = j * 6 + k by simp [six]; omega]
      exact ih j t s h k hk

/-- each token's attributes lie where its cells say -/
def Has (L : List (Tok × Value)) (w : World) : Prop := ∀ p ∈ L, w.ownsRow 0 75 2 p.2 p.1.attrs.length (cellsA p.1.attrs)
theorem Has.below {L : List (Tok × Value)} (h : Has L w) (hb : Below w.heap.size w w') : Has L w' := fun p hp => At.ownsRow_below (h p hp) hb
theorem own_types {B B' : Nat} {e e' : TypeId} {k k' : Nat} {v v' : Value} {n n' : Nat} {xs xs' : List Value} (h : w.ownsRow B e k v n xs) (h' : w.ownsRow B' e' k' v' n' xs') (hne : e ≠ e') : v'.ownBlock = none ∨ v'.ownBlock ≠ v.ownBlock := by
  rcases h'.2 with ⟨rfl, -⟩ | ⟨g', c', cur', rfl, -, hh', -⟩
  · exact Or.inl rfl
  · right
    intro he
    rcases h.2 with ⟨rfl, -⟩ | ⟨g, c, cur, rfl, -, hh, -⟩
    · cases he
    · have hg : g' = g := by simpa [Value.ownBlock] using he
      subst hg
      rw [hh] at hh'
      injection hh' with hh'
      injection hh' with _ hh'
      exact hne hh'
theorem Has.grown {L : List (Tok × Value)} {B : Nat} {k : Nat} {v : Value} {n : Nat} {xs : List Value} (h : Has L w) (ho : w.ownsRow B 26 k v n xs) (hg : w.grownBy w' v.ownBlock) : Has L w' := fun p hp => (h p hp).kept hg (own_types ho (h p hp) (by decide))
theorem Has.alloc {L : List (Tok × Value)} (h : Has L w) (o : Obj) : Has L (w.alloc o) := fun p hp => (h p hp).alloc o

theorem elemT : ∃ j, Tryz.prog.info? 26 = some j ∧ (j.zero, j.size, j.bytes) = (some (.agg #[.int .i64 0, .string ByteArray.empty, .slice none 0 0, .string ByteArray.empty, .int .i64 0, .int .i64 0]), 6, 80) :=
  Option.map_eq_some_iff.1 (by kernel_rfl : (Tryz.prog.info? 26).map (fun i => (i.zero, i.size, i.bytes)) = some (some (.agg #[.int .i64 0, .string ByteArray.empty, .slice none 0 0, .string ByteArray.empty, .int .i64 0, .int .i64 0]), 6, 80))

/-- one token behind a row of one's own: it is laid in a block first -/
theorem app_tok (w : World) (B : Nat) (v : Value) (L : List (Tok × Value)) (t : Tok) (s : Value) (g : Nat) (hg : g = w.heap.size) (hown : w.ownsRow B 26 6 v L.length (rowT L)) (hl : L.length + 1 ≤ 1000000) (hB : B ≤ w.heap.size) (hs : s.oneCell' = true) :
    ∃ v' w', (Builtin.append_ #[37, 37] 37 #[v, .slice (some ⟨g, 0, none⟩) 1 1]).run Tryz.prog (w.alloc (.cells #[.int .i64 (t.kind : Int), .string ⟨t.name.toArray⟩, s, .string ⟨t.text.toArray⟩, .int .i64 (t.frm : Int), .int .i64 (t.upto : Int)] 26)) = .ok v' w' ∧
      w'.ownsRow B 26 6 v' (L ++ [(t, s)]).length (rowT (L ++ [(t, s)])) ∧ w.grownBy w' v.ownBlock := by
  subst hg
  obtain ⟨i, hi, hp⟩ := elemT
  simp only [Prod.mk.injEq] at hp
  obtain ⟨hz, hsz, hby⟩ := hp
  have hb := bk_new w #[.int .i64 (t.kind : Int), .string ⟨t.name.toArray⟩, s, .string ⟨t.text.toArray⟩, .int .i64 (t.frm : Int), .int .i64 (t.upto : Int)] 26
  obtain ⟨v', w', hr, h1, h2, -, -⟩ := run_append_own_at (P := Tryz.prog) (w.alloc (.cells #[.int .i64 (t.kind : Int), .string ⟨t.name.toArray⟩, s, .string ⟨t.text.toArray⟩, .int .i64 (t.frm : Int), .int .i64 (t.upto : Int)] 26)) B 37 37 26 i _ 6 80 Tryz.underlying37 hi hz hsz hby rfl (by decide) v L.length (rowT L) (hown.alloc _) ⟨w.heap.size, 0, none⟩ 1 1 (six t s) (by simp [six])
    (fun j u hj => by
      rw [Ch.addr_add0, hb.cell j]
      show (six t s).toArray[j]? = some u
      rw [List.getElem?_toArray]
      exact hj)
    (fun u hu => by
      simp only [six, List.mem_cons, List.not_mem_nil, or_false] at hu
      rcases hu with rfl | rfl | rfl | rfl | rfl | rfl
      · rfl
      · rfl
      · exact hs
      · rfl
      · rfl
      · rfl) (by unfold maxLen; omega) (by omega) (by simp; omega)
  refine ⟨v', w', hr, ?_, (World.grownBy_alloc w _ v.ownBlock).trans h2⟩
  rw [rowT_append, List.length_append]
  exact h1

/-- what All answers -/
def AllPost (l : List UInt8) (w : World) (r : Ending) (w' : World) : Prop :=
  ∃ (L : List (Tok × Value)) (v : Value), r = .returned v ∧ w'.ownsRow w.heap.size 26 6 v L.length (rowT L) ∧ Has L w' ∧ Below w.heap.size w w' ∧ L.map Prod.fst = al l [] 0

def AlRel (l : List UInt8) (w : World) (v3 v4 v5 : Value) (wr : World) : Prop :=
  ∃ (L : List (Tok × Value)) (n : List UInt8) (i : Nat), v4 = .string ⟨n.toArray⟩ ∧ v5 = .int .i64 (i : Int) ∧ i ≤ l.length ∧ n.length ≤ 4 * l.length ∧ wr.ownsRow w.heap.size 26 6 v3 L.length (rowT L) ∧ Has L wr ∧ Below w.heap.size w wr ∧ L.map Prod.fst ++ al l n i = al l [] 0

theorem wi_len {l n : List UInt8} {i : Nat} (h : i < l.length) (hn : n.length ≤ 4 * l.length) : (wi n (nxT l n i)).length ≤ 4 * l.length := by
  have := nxT_is (n := n) h
  unfold wi
  split
  · exact this.2.2.2.2.1
  · split
    · simp
    · exact hn

set_option maxHeartbeats 4000000 in
set_option maxRecDepth 100000 in
theorem all_any (w : World) (hs : Sl l a cap w) (hT : Tb w) (hl : l.length ≤ 20000) :
    Calls Tryz.prog 10 #[.slice a l.length cap] w (AllPost l w) := by
  have HS := Lib.hid hs
  have HT := Lib.hid hT
  clear hs hT
  go_enter Tryz.func10, Tryz.ntmps10
  go_wp2
  go_loopw [3, 4, 5] (fun v3 v4 v5 wr => AlRel l w v3 v4 v5 wr) (fun _ _ v5 _ => l.length - (RowKit.intOf v5).toNat)
  case atStart => exact ⟨[], [], 0, rfl, rfl, by omega, by simp, World.ownsRow_nil _ _ _ _, fun p hp => by simp at hp, Below.refl _ w, rfl⟩
  case round =>
    obtain ⟨L, n, i, rfl, rfl, hi, hn, hown, hhas, hbw, heq⟩ := hrel
    by_cases hlt : i < l.length
    · have hlt1 : (i : Int) < (l.length : Int) := by omega
      have hp := nxT_is (n := n) hlt
      have hwl := wi_len hlt hn
      have cN := next_in (l := l) (a := a) (cap := cap) n i wr (HS.out.below hbw) (HT.out.below hbw) (by omega) (by omega) hlt
      have hLl : L.length ≤ l.length := by
        have e := congrArg List.length heq
        rw [List.length_append, List.length_map] at e
        have := al_len l.length l [] 0 (by omega)
        omega
      rw [al_step hlt] at heq
      generalize nxT l n i = t at *
      have HN := Lib.hid (show (wi n t).length ≤ 4 * l.length from hwl)
      have h2 := hp.2.1
      have h3 := hp.2.2.1
      have HEQ := Lib.hid heq
      have HW := Lib.hid hown
      have HH := Lib.hid hhas
      have HB := Lib.hid hbw
      have cW := fun (s : Value) => within_any n t s
      unfold tkV at cW
      have CW := Lib.hid cW
      clear hp hwl heq hown hhas hbw cW
      unfold NxPost tkV at cN
      go_wp2_with fail
      refine cN.mono ?_
      rintro r w2 ⟨s, rfl, ho2, hb2⟩
      obtain ⟨a5, cap5, rfl, -⟩ := At.sl_own ho2
      have hsz2 := hb2.size
      have hszw := HB.out.size
      obtain ⟨W3, hW3⟩ : ∃ W3, w2.alloc (.cells #[.int .i64 (t.kind : Int), .string ⟨t.name.toArray⟩, .slice a5 t.attrs.length cap5, .string ⟨t.text.toArray⟩, .int .i64 (t.frm : Int), .int .i64 (t.upto : Int)] 26) = W3 := ⟨_, rfl⟩
      have hz3 : W3.heap.size = w2.heap.size + 1 := by rw [← hW3]; simp
      have hbw3 : Below w.heap.size w W3 := by rw [← hW3]; exact (HB.out.trans (hb2.mono HB.out.size)).alloc (by omega) _
      have bn3 : Bk w2.heap.size #[.int .i64 (t.kind : Int), .string ⟨t.name.toArray⟩, .slice a5 t.attrs.length cap5, .string ⟨t.text.toArray⟩, .int .i64 (t.frm : Int), .int .i64 (t.upto : Int)] 26 W3 := by rw [← hW3]; exact bk_new w2 _ 26
      have ho3 : W3.ownsRow wr.heap.size 75 2 (.slice a5 t.attrs.length cap5) t.attrs.length (cellsA t.attrs) := by rw [← hW3]; exact ho2.alloc _
      have how3 : W3.ownsRow w.heap.size 26 6 u3 L.length (rowT L) := by rw [← hW3]; exact (At.ownsRow_below HW.out hb2).alloc _
      have hh3 : Has L W3 := by rw [← hW3]; exact (HH.out.below hb2).alloc _
      obtain ⟨v', w4, hr, how4, hgr⟩ := app_tok W3 w.heap.size u3 L t (.slice a5 t.attrs.length cap5) W3.heap.size rfl how3 (by omega) (by omega) rfl
      obtain ⟨q0, q1, q2, q3, q4, q5, -, -, -, -, -, -⟩ := bn3.six
      have hne : some w2.heap.size ≠ u3.ownBlock := by
        intro e
        have := (HW.out.lt w2.heap.size e.symm).2
        omega
      have bn4 := bn3.grown hgr hne
      obtain ⟨p0, p1, p2, p3, p4, p5, -, -, -, -, -, -⟩ := bn4.six
      have hb4 : Below w.heap.size w w4 := hbw3.grown hgr (by omega) (fun q hq => (how3.lt q hq).1)
      have hh4 : Has (L ++ [(t, .slice a5 t.attrs.length cap5)]) w4 := by
        intro p hp
        rw [List.mem_append] at hp
        rcases hp with hp | hp
        · exact hh3.grown how3 hgr p hp
        · simp only [List.mem_singleton] at hp
          subst hp
          exact (At.ownsRow_base ho3 (Nat.zero_le _)).kept hgr (own_types how3 ho3 (by decide))
      have cW4 := CW.out (.slice a5 t.attrs.length cap5) ⟨_, _, _, rfl⟩ w4
      have HR := Lib.hid hr
      have HO4 := Lib.hid how4
      have HH4 := Lib.hid hh4
      have HB4 := Lib.hid hb4
      have HN4 := Lib.hid bn4
      clear hr how4 hh4 hb4 bn4 bn3 ho3 how3 hh3 hgr hbw3 ho2 hb2 hne hz3
      go_wp2_with (at_builtin; refine Lib.wpList_append_run _ rfl (.tmp 21) (.tmp 23) 37 37 rfl _ _ rfl rfl v' w4 HR.out ?_)
      go_wp2_with fail
      refine cW4.mono ?_
      rintro r w5 ⟨rfl, hb5⟩
      obtain ⟨m0, m1, m2, m3, m4, m5, -, -, -, -, -, -⟩ := (HN4.out.below hb5).six
      have HO5 := Lib.hid (At.ownsRow_below HO4.out hb5)
      have HH5 := Lib.hid (HH4.out.below hb5)
      have HB5 := Lib.hid (HB4.out.trans (hb5.mono HB4.out.size))
      clear hb5
      go_wp2
      go_roundw
      case rel => exact ⟨L ++ [(t, .slice a5 t.attrs.length cap5)], wi n t, t.upto, rfl, rfl, h3, HN.out, HO5.out, HH5.out, HB5.out, by rw [List.map_append, List.append_assoc]; exact HEQ.out⟩
      case measure => simp [RowKit.intOf]; omega
    · have hlt1 : ¬ ((i : Int) < (l.length : Int)) := by omega
      rw [al_end (by omega), List.append_nil] at heq
      have HEQ := Lib.hid heq
      have HW := Lib.hid hown
      have HH := Lib.hid hhas
      have HB := Lib.hid hbw
      clear heq hown hhas hbw
      go_wp2
      go_ret
      exact ⟨L, _, rfl, HW.out, HH.out, HB.out, HEQ.out⟩
end Go.Proofs.YtndcmapifihgeaaGreatDoor.Tk

/- The document's example of layer 10, walked. -/
namespace Go.Proofs.YtndcmapifihgeaaGreatDoor.Tk
open Go.RowKit Go.Lib
open Ch (at0 nx nx_width at0_lt at0_drop Sl Sl.below Cells allN allFrom ret_bool)
open Tg (bg tr tn zero29 info29 Bk bk_new below_set6 own_set6 bgAt tkAt tkIn tokV)
open At (cellsA ads)

variable {l : List UInt8} {a : Option Addr} {cap i : Nat} {w w' : World}

/-- a row of tokens, cell by cell -/
theorem rowT_cells {B : Nat} {v : Value} {L : List (Tok × Value)} (h : w.ownsRow B 26 6 v L.length (rowT L)) (h0 : L ≠ []) :
    ∃ g c, v = .slice (some ⟨g, 0, none⟩) L.length c ∧ B ≤ g ∧ g < w.heap.size ∧ ∀ (j : Nat) (t : Tok) (s : Value), L[j]? = some (t, s) → ∀ k, k < 6 → w.cell? ⟨g, j * 6 + k, none⟩ = (six t s)[k]? := by
  rcases h.2 with ⟨-, hn⟩ | ⟨g, c, cur, hv, hg, hh, hn, hm, hsz, ht⟩
  · exact absurd (List.eq_nil_of_length_eq_zero hn) h0
  · refine ⟨g, c, hv, hg, (h.lt g (by rw [hv]; rfl)).2, fun j t s hj k hk => ?_⟩
    have hr := rowT_at L j t s hj k hk
    have hs6 : (six t s)[k]? = some ((six t s)[k]'(by simp [six]; omega)) := List.getElem?_eq_getElem _
    rw [hs6] at hr ⊢
    have := h.cells (g := g) (by rw [hv]; rfl) (j * 6 + k) _ hr
    rw [Ch.addr_add0] at this
    exact this

def exT : List UInt8 := [97, 60, 98, 62, 99, 60, 47, 98, 62]
theorem ex_al : al exT [] 0 = [⟨1, [], [], [97], 0, 1⟩, ⟨2, [98], [], [], 1, 4⟩, ⟨1, [], [], [99], 4, 5⟩, ⟨3, [98], [], [], 5, 9⟩] := by kernel_rfl

set_option maxHeartbeats 2000000 in
set_option maxRecDepth 100000 in
theorem kspeaks_any (w : World) (hT : Tb w) : Calls Tryz.prog 5 #[] w fun e w' => e = .returned (.bool true) ∧ Below w.heap.size w w' := by
  obtain ⟨hA, hb1, hz, k1⟩ := sl_const exT w #[.int .u8 97, .int .u8 60, .int .u8 98, .int .u8 62, .int .u8 99, .int .u8 60, .int .u8 47, .int .u8 98, .int .u8 62] 9 (by rfl) rfl
  obtain ⟨W1, hW1⟩ : ∃ W, w.alloc (.cells #[.int .u8 97, .int .u8 60, .int .u8 98, .int .u8 62, .int .u8 99, .int .u8 60, .int .u8 47, .int .u8 98, .int .u8 62] 5 (9, 9 + 1)) = W := ⟨_, rfl⟩
  rw [hW1] at hA hb1 hz k1
  have cA := all_any W1 hA (hT.below hb1) (by decide)
  have HB := Lib.hid hb1
  clear hW1 hb1 hA hz
  go_enter Tryz.func5, Tryz.ntmps5
  go_wp2_with fail
  refine cA.mono ?_
  rintro r w2 ⟨L, v, rfl, ho, hh, hb2, hL⟩
  rw [ex_al] at hL
  have hl4 : L.length = 4 := by have := congrArg List.length hL; simpa using this
  obtain ⟨g, c, rfl, -, -, hc⟩ := rowT_cells ho (by rintro rfl; simp at hl4)
  have tok : ∀ (j : Nat) (t : Tok), (L.map Prod.fst)[j]? = some t → ∃ s : Value, L[j]? = some (t, s) := by
    intro j t h
    rw [List.getElem?_map, Option.map_eq_some_iff] at h
    obtain ⟨⟨t', s⟩, h1, rfl⟩ := h
    exact ⟨s, h1⟩
  rw [hL] at tok
  obtain ⟨s0, t0⟩ := tok 0 _ rfl
  obtain ⟨s1, t1⟩ := tok 1 _ rfl
  obtain ⟨s2, t2⟩ := tok 2 _ rfl
  obtain ⟨s3, t3⟩ := tok 3 _ rfl
  have c0 : w2.cell? ⟨g, 0, none⟩ = some (.int .i64 1) := hc 0 _ _ t0 0 (by decide)
  have c1 : w2.cell? ⟨g, 6, none⟩ = some (.int .i64 2) := hc 1 _ _ t1 0 (by decide)
  have c2 : w2.cell? ⟨g, 15, none⟩ = some (.string ⟨#[99]⟩) := hc 2 _ _ t2 3 (by decide)
  have c3 : w2.cell? ⟨g, 18, none⟩ = some (.int .i64 3) := hc 3 _ _ t3 0 (by decide)
  have c4 : w2.cell? ⟨g, 23, none⟩ = some (.int .i64 9) := hc 3 _ _ t3 5 (by decide)
  rw [hl4]
  have HB2 := Lib.hid (HB.out.trans (hb2.mono HB.out.size))
  clear hc tok t0 t1 t2 t3 hh ho hb2 hL
  go_wp2
  go_ret
  exact ⟨rfl, HB2.out⟩
end Go.Proofs.YtndcmapifihgeaaGreatDoor.Tk
