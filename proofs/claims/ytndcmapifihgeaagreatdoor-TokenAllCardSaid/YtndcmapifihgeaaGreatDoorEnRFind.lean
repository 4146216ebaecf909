/- The document's table, as the reference lays it: what lies in memory behind the call. -/
import Derived.Test.YtndcmapifihgeaaGreatDoorEnMath
import Derived.Test.YtndcmapifihgeaaGreatDoorProg
import Derived.WalkKit
import Derived.LoopTactic
import Derived.Below
import Derived.Lib.Hide
import Derived.Test.YtndcmapifihgeaaGreatDoorEnFind
import Derived.Lib.UnsafeStr
import Derived.Laws.OwnMore
import Derived.Laws.AppendOwn
import Derived.Laws.IdiomStrings
import Derived.Laws.BytesArg
namespace Go.Proofs.YtndcmapifihgeaaGreatDoor.En
open Go.RowKit Go.Lib

def allocs (w : World) (os : List Obj) : World := os.foldl World.alloc w

/-- the numbers of one entry -/
def numRow (cs : List Nat) : List Value := cs.map fun (c : Nat) => Value.int .i64 (c : Int)

/-- the entries, their numbers' rows lying from such a block on -/
def tabRow : Nat → List (List UInt8 × Bool × List Nat) → List Value
  | _, [] => []
  | B, e :: r => .string ⟨e.1.toArray⟩ :: .bool e.2.1 :: .slice (some ⟨B, 0, none⟩) e.2.2.length e.2.2.length :: tabRow (B + 1) r

def tabObjs (B : Nat) : List Obj := tabL.map (fun e => .cells (numRow e.2.2).toArray 3) ++ [.cells (tabRow B tabL).toArray 116]

set_option maxHeartbeats 8000000 in
set_option maxRecDepth 100000 in
theorem table_laid (w : World) :
    Calls Tryz.prog 87 #[] w fun e w' => e = .returned (.slice (some ⟨w.heap.size + 43, 0, none⟩) 43 43) ∧ w' = allocs w (tabObjs w.heap.size) := by
  go_enter Tryz.func87, Tryz.ntmps87
  go_wp2
  go_ret
  refine ⟨?_, ?_⟩
  · kernel_rfl
  · kernel_rfl
end Go.Proofs.YtndcmapifihgeaaGreatDoor.En

/- The reference's Begins, UTF and Text, walked. -/
namespace Go.Proofs.YtndcmapifihgeaaGreatDoor.En
open Go.RowKit Go.Lib

theorem ret_str {a b : List UInt8} (h : a = b) : Ending.returned (.string ⟨a.toArray⟩) = .returned (.string ⟨b.toArray⟩) := by rw [h]

set_option maxHeartbeats 1000000 in
set_option maxRecDepth 100000 in
theorem begins_any (l p : List UInt8) (w : World) :
    Calls Tryz.prog 88 #[.string ⟨l.toArray⟩, .string ⟨p.toArray⟩] w fun e w' => e = .returned (.bool (begs l p)) ∧ w = w' := by
  by_cases h : p.length ≤ l.length
  · have h1 : (p.length : Int) ≤ (l.length : Int) := by omega
    have hB := Lib.hid (show begs l p = (((⟨l.toArray⟩ : ByteArray).extract 0 p.length).toList == p) by
      unfold begs; rw [ext_front]; simp [go_sem, h])
    go_enter Tryz.func88, Tryz.ntmps88
    go_wp2
    go_ret
    exact ⟨ret_bool hB.out.symm, rfl⟩
  · have h1 : ¬ ((p.length : Int) ≤ (l.length : Int)) := by omega
    have hB := Lib.hid (show begs l p = false by unfold begs; simp [h])
    go_enter Tryz.func88, Tryz.ntmps88
    go_wp2
    go_ret
    exact ⟨ret_bool hB.out.symm, rfl⟩

/-- a new row that holds a character's bytes -/
def Enc (c : Nat) (w : World) (e : Ending) (w' : World) : Prop :=
  ∃ cap, e = .returned (.slice (some ⟨w.heap.size, 0, none⟩) (Lib.byteCells (utfN c)).length cap) ∧ (∀ j u, (Lib.byteCells (utfN c))[j]? = some u → w'.cell? ⟨w.heap.size, j, none⟩ = some u) ∧ Below w.heap.size w w'

theorem enc_mk (c : Nat) (w : World) (cs : List Value) (h : Lib.byteCells (utfN c) = cs) (n : Nat) (hn : cs.length = n) : Enc c w (.returned (.slice (some ⟨w.heap.size, 0, none⟩) n n)) (w.alloc (.cells cs.toArray 5)) := by
  subst hn
  refine ⟨_, by rw [h], fun j u hj => ?_, (Below.refl _ w).alloc (Nat.le_refl _) _⟩
  rw [h] at hj
  simp [World.cell?, World.alloc, -World.alloc_eq]
  exact hj

theorem byte_of (n : Nat) (z : Int) (hz : z = n) (h : n < 256) : (Value.int .u8 (((UInt8.ofNat n).toNat : Nat) : Int)) = .int .u8 z := by
  rw [hz, UInt8.toNat_ofNat']
  congr 2
  omega

set_option maxHeartbeats 1000000 in
set_option maxRecDepth 100000 in
theorem utf_any (c : Nat) (w : World) (hc : c < 65536) : Calls Tryz.prog 36 #[.int .i64 (c : Int)] w (Enc c w) := by
  by_cases k1 : c < 128
  · have h1 : (c : Int) < 128 := by omega
    have e : Lib.byteCells (utfN c) = [.int .u8 (c : Int)] := by
      unfold utfN; rw [if_pos k1]; simp only [Lib.byteCells, List.map_cons, List.map_nil]; rw [byte_of c (c : Int) rfl (by omega)]
    have E := enc_mk c w _ e 1 rfl
    clear e
    go_enter Tryz.func36, Tryz.ntmps36
    go_wp2
    go_ret
    exact E
  · by_cases k2 : c < 2048
    · have h1 : ¬ (c : Int) < 128 := by omega
      have h2 : (c : Int) < 2048 := by omega
      have e : Lib.byteCells (utfN c) = [.int .u8 (192 + (c : Int) / 64), .int .u8 (128 + (c : Int) % 64)] := by
        unfold utfN; rw [if_neg k1, if_pos k2]; simp only [Lib.byteCells, List.map_cons, List.map_nil]
        rw [byte_of _ (192 + (c : Int) / 64) (by omega) (by omega), byte_of _ (128 + (c : Int) % 64) (by omega) (by omega)]
      have E := enc_mk c w _ e 2 rfl
      clear e
      go_enter Tryz.func36, Tryz.ntmps36
      go_wp2
      go_ret
      exact E
    · have h1 : ¬ (c : Int) < 128 := by omega
      have h2 : ¬ (c : Int) < 2048 := by omega
      have h3 : (c : Int) < 65536 := by omega
      have e : Lib.byteCells (utfN c) = [.int .u8 (224 + (c : Int) / 4096), .int .u8 (128 + (c : Int) / 64 % 64), .int .u8 (128 + (c : Int) % 64)] := by
        unfold utfN; rw [if_neg k1, if_neg k2, if_pos hc]; simp only [Lib.byteCells, List.map_cons, List.map_nil]
        rw [byte_of _ (224 + (c : Int) / 4096) (by omega) (by omega), byte_of _ (128 + (c : Int) / 64 % 64) (by omega) (by omega), byte_of _ (128 + (c : Int) % 64) (by omega) (by omega)]
      have E := enc_mk c w _ e 3 rfl
      clear e
      go_enter Tryz.func36, Tryz.ntmps36
      go_wp2
      go_ret
      exact E

theorem info5 : ∃ j, Tryz.prog.info? 5 = some j ∧ (j.zero, j.size, j.bytes) = (some (.int .u8 0), 1, 1) :=
  Option.map_eq_some_iff.1 (by kernel_rfl : (Tryz.prog.info? 5).map (fun i => (i.zero, i.size, i.bytes)) = some (some (.int .u8 0), 1, 1))

theorem grown_below {w w' : World} (h : Below w.heap.size w w') : w.grownBy w' none := ⟨h.os, h.tape, h.output, h.size, fun k hk _ => h.block k hk⟩

theorem owns_below {w w' : World} {base : Nat} {e : TypeId} {size : Nat} {v : Value} {n : Nat} {xs : List Value} (h : w.ownsRow base e size v n xs) (hb : Below w.heap.size w w') : w'.ownsRow base e size v n xs := by
  refine h.kept (grown_below hb) ?_
  cases v.ownBlock with
  | none => exact Or.inl rfl
  | some g => exact Or.inr (by simp)

theorem addr_add0 (g j : Nat) : (⟨g, 0, none⟩ : Addr).add j = ⟨g, j, none⟩ := by unfold Addr.add; split <;> simp_all

/-- 'string(b)' of a row of one's own -/
theorem string_own {w : World} {B : Nat} {v : Value} {acc : List UInt8} (h : w.ownsRow B 5 1 v acc.length (Lib.byteCells acc)) :
    (convert 22 9 v).run Tryz.prog w = .ok (.string ⟨acc.toArray⟩) w := by
  rcases h.2 with ⟨hv, h0⟩ | ⟨g, cap, cur, hv, hg, hh, r⟩
  · subst hv
    obtain rfl : acc = [] := List.eq_nil_of_length_eq_zero h0
    exact run_convert_bytes_nil w 22 5 Tryz.underlying22 Tryz.underlying5 0 0 9 Tryz.underlying9
  · subst hv
    refine run_convert_bytes_back w 22 9 5 ⟨g, 0, none⟩ cap acc Tryz.underlying22 Tryz.underlying5 Tryz.underlying9 fun j hj => ?_
    refine h.cells rfl j _ ?_
    simp [Lib.byteCells, List.getElem?_eq_getElem hj]

theorem textN_snoc (cs : List Nat) (i : Nat) (h : i < cs.length) : textN (cs.take (i + 1)) = textN (cs.take i) ++ utfN (cs.getD i 0) := by
  rw [List.take_succ_eq_append_getElem h]
  unfold textN
  rw [List.flatMap_append, List.getD_eq_getElem?_getD, List.getElem?_eq_getElem h]
  simp

theorem utfN_le (c : Nat) : (utfN c).length ≤ 4 := by
  unfold utfN; split <;> (try split) <;> (try split) <;> simp

theorem textN_le : ∀ cs : List Nat, (textN cs).length ≤ 4 * cs.length
  | [] => by simp [textN]
  | c :: r => by
    have := textN_le r
    have := utfN_le c
    unfold textN at *
    rw [List.flatMap_cons, List.length_append, List.length_cons]
    omega

def TextRel (cs : List Nat) (w : World) (v3 v4 : Value) (wr : World) : Prop :=
  ∃ i : Nat, v4 = .int .i64 i ∧ i ≤ cs.length ∧ wr.ownsRow w.heap.size 5 1 v3 (textN (cs.take i)).length (Lib.byteCells (textN (cs.take i))) ∧ Below w.heap.size w wr

set_option maxHeartbeats 1000000 in
set_option maxRecDepth 100000 in
theorem text_any (cs : List Nat) (b cap : Nat) (w : World) (hl : cs.length ≤ 10) (hb : b < w.heap.size) (hcs : ∀ j, j < cs.length → cs.getD j 0 < 65536) (hc : ∀ j, j < cs.length → w.cell? ⟨b, j, none⟩ = some (.int .i64 (cs.getD j 0 : Int))) :
    Calls Tryz.prog 89 #[.slice (some ⟨b, 0, none⟩) cs.length cap] w fun e w' => e = .returned (.string ⟨(textN cs).toArray⟩) ∧ Below w.heap.size w w' := by
  obtain ⟨i5, hi5, hp5⟩ := info5
  simp only [Prod.mk.injEq] at hp5
  obtain ⟨hz5, hsz5, hby5⟩ := hp5
  have HI5 := Lib.hid hi5
  have HZ5 := Lib.hid hz5
  have HS5 := Lib.hid hsz5
  have HB5 := Lib.hid hby5
  have HC := Lib.hid hc
  have HCS := Lib.hid hcs
  clear hi5 hz5 hsz5 hby5 hc hcs
  go_enter Tryz.func89, Tryz.ntmps89
  go_wp2
  go_loopw [3, 4] (fun v3 v4 wr => TextRel cs w v3 v4 wr) (fun _ v4 _ => ((cs.length : Int) - RowKit.intOf v4).toNat)
  case atStart =>
    refine ⟨0, rfl, Nat.zero_le _, ⟨by simp [Lib.byteCells, textN], Or.inr ⟨w.heap.size, 0, #[], by simp [textN], Nat.le_refl _, ?_, by simp [textN], by simp, by simp, by simp [Lib.byteCells, textN]⟩⟩, (Below.refl _ w).alloc (Nat.le_refl _) _⟩
    simp [World.alloc, -World.alloc_eq]
  case round =>
    obtain ⟨i, rfl, hil, hI, hbw⟩ := hrel
    have hsz := hbw.size
    by_cases hi : i < cs.length
    · have hi' : (i : Int) < (cs.length : Int) := by omega
      have hcell : wr.cell? ⟨b, i, none⟩ = some (.int .i64 (cs.getD i 0 : Int)) := by
        rw [← HC.out i hi]
        exact World.cell?_of_block (hbw.block _ hb)
      have hcc := HCS.out i hi
      have hsn := Lib.hid (textN_snoc cs i hi)
      have hlen : (textN (cs.take i)).length ≤ 40 := by
        have := textN_le (cs.take i)
        rw [List.length_take] at this
        omega
      generalize cs.getD i 0 = c at hcell hcc hsn
      have hU := utf_any c wr hcc
      have hul := utfN_le c
      go_wp2_with fail
      refine hU.mono ?_
      rintro e w2 ⟨cap2, rfl, hcells, hb2⟩
      have hown := owns_below hI hb2
      have hz2 := hb2.size
      have HCE := Lib.hid hcells
      clear hcells
      have hbl : (Lib.byteCells (utfN c)).length ≤ 4 := by simpa [Lib.byteCells] using hul
      go_wp2_with (at_builtin; refine wpList_append_own _ rfl (.tmp 12) (.tmp 17) 22 rfl w.heap.size 5 i5 (.int .u8 0) 1 1 Tryz.underlying22 HI5.out HZ5.out HS5.out HB5.out rfl (by decide) _ _ _ rfl hown ⟨wr.heap.size, 0, none⟩ _ _ (Lib.byteCells (utfN c)) rfl ?c0 ?c1 ?c2 ?c3 ?c4 ?c5 ?_)
      case c0 => simp
      case c1 =>
        intro j u hj
        rw [addr_add0]
        exact HCE.out j u hj
      case c2 =>
        intro u hu
        simp only [Lib.byteCells, List.mem_map] at hu
        obtain ⟨q, -, rfl⟩ := hu
        rfl
      case c3 => unfold maxLen; omega
      case c4 => omega
      case c5 => omega
      intro v' w3 hown' hgrow _
      go_wp2
      go_roundw
      case rel =>
        refine ⟨i + 1, by go_num, by omega, ?_, ?_⟩
        · rw [hsn.out, Lib.byteCells_append, List.length_append]
          have e2 : (Lib.byteCells (utfN c)).length = (utfN c).length := by simp [Lib.byteCells]
          rw [← e2]
          exact hown'
        · exact (hbw.trans (hb2.mono hsz)).grown hgrow (by omega) (fun k hk => (hown.lt k hk).1)
      case measure => simp [RowKit.intOf]; omega
    · have hi' : ¬ (i : Int) < (cs.length : Int) := by omega
      have hstr := string_own hI
      go_wp2
      go_ret
      refine ⟨ret_str ?_, hbw⟩
      rw [List.take_of_length_le (by omega)]
end Go.Proofs.YtndcmapifihgeaaGreatDoor.En

/- The reference's Find, walked: the table, looked through from its front. -/
namespace Go.Proofs.YtndcmapifihgeaaGreatDoor.En
open Go.RowKit Go.Lib

theorem heap_allocs : ∀ (os : List Obj) (w : World), (allocs w os).heap = w.heap ++ os.toArray
  | [], w => by simp [allocs]
  | o :: r, w => by
    have := heap_allocs r (w.alloc o)
    unfold allocs at this ⊢
    rw [List.foldl_cons, this]
    show (w.heap.push o) ++ r.toArray = _
    apply Array.ext'
    simp

theorem below_allocs : ∀ (os : List Obj) (w : World), Below w.heap.size w (allocs w os)
  | [], w => Below.refl _ w
  | o :: r, w => by
    have h1 : Below w.heap.size w (w.alloc o) := (Below.refl _ w).alloc (Nat.le_refl _) _
    have h2 := below_allocs r (w.alloc o)
    exact h1.trans (h2.mono h1.size)

/-- one entry of the table -/
def tabE (i : Nat) : List UInt8 × Bool × List Nat := tabL.getD i ([], false, [])

/-- what lies in memory behind the call -/
structure Tab (B : Nat) (w : World) : Prop where
  nm : ∀ i, i < 43 → w.cell? ⟨B + 43, i * 3, none⟩ = some (.string ⟨(tabE i).1.toArray⟩)
  al : ∀ i, i < 43 → w.cell? ⟨B + 43, i * 3 + 1, none⟩ = some (.bool (tabE i).2.1)
  cs : ∀ i, i < 43 → w.cell? ⟨B + 43, i * 3 + 2, none⟩ = some (.slice (some ⟨B + i, 0, none⟩) (tabE i).2.2.length (tabE i).2.2.length)
  num : ∀ i, i < 43 → ∀ j, j < (tabE i).2.2.length → w.cell? ⟨B + i, j, none⟩ = some (.int .i64 ((tabE i).2.2.getD j 0 : Int))
  lt : B + 43 < w.heap.size

theorem Tab.below {B : Nat} {w w' : World} (h : Tab B w) (hb : Below w.heap.size w w') : Tab B w' := by
  have hlt := h.lt
  have hs := hb.size
  refine ⟨fun i hi => ?_, fun i hi => ?_, fun i hi => ?_, fun i hi j hj => ?_, by omega⟩
  · rw [← h.nm i hi]; exact World.cell?_of_block (hb.block _ (by show B + 43 < _; omega))
  · rw [← h.al i hi]; exact World.cell?_of_block (hb.block _ (by show B + 43 < _; omega))
  · rw [← h.cs i hi]; exact World.cell?_of_block (hb.block _ (by show B + 43 < _; omega))
  · rw [← h.num i hi j hj]; exact World.cell?_of_block (hb.block _ (by show B + i < _; omega))

theorem tabRow_at : ∀ (l : List (List UInt8 × Bool × List Nat)) (B i : Nat), i < l.length →
    (tabRow B l)[i * 3]? = some (.string ⟨(l.getD i ([], false, [])).1.toArray⟩) ∧ (tabRow B l)[i * 3 + 1]? = some (.bool (l.getD i ([], false, [])).2.1) ∧
    (tabRow B l)[i * 3 + 2]? = some (.slice (some ⟨B + i, 0, none⟩) (l.getD i ([], false, [])).2.2.length (l.getD i ([], false, [])).2.2.length)
  | [], _, _, h => absurd h (by simp)
  | e :: r, B, 0, _ => ⟨rfl, rfl, rfl⟩
  | e :: r, B, i + 1, h => by
    have ih := tabRow_at r (B + 1) i (by simpa using h)
    rw [show B + 1 + i = B + (i + 1) by omega] at ih
    rw [show (i + 1) * 3 = i * 3 + 1 + 1 + 1 by omega, show i * 3 + 1 + 1 + 1 + 1 = (i * 3 + 1) + 1 + 1 + 1 by omega, show i * 3 + 1 + 1 + 1 + 2 = (i * 3 + 2) + 1 + 1 + 1 by omega]
    exact ih

theorem cell_laid (w : World) (os : List Obj) (k j : Nat) (cs : List Value) (t : TypeId) (h : os[k]? = some (.cells cs.toArray t)) (v : Value) (hv : cs[j]? = some v) : (allocs w os).cell? ⟨w.heap.size + k, j, none⟩ = some v := by
  have hh : (allocs w os).heap[w.heap.size + k]? = some (.cells cs.toArray t) := by
    rw [heap_allocs, Array.getElem?_append_right (by omega)]
    simpa using h
  unfold World.cell?
  simp only [hh, Option.isSome_none, Bool.false_eq_true, if_false]
  simpa using hv

theorem tab_laid (w : World) : Tab w.heap.size (allocs w (tabObjs w.heap.size)) := by
  have hlast : (tabObjs w.heap.size)[43]? = some (.cells (tabRow w.heap.size tabL).toArray 116) := by
    unfold tabObjs
    rw [List.getElem?_append_right (by simp [tabL])]
    rfl
  have hrow : ∀ i, i < 43 → (tabObjs w.heap.size)[i]? = some (.cells (numRow (tabE i).2.2).toArray 3) := by
    intro i hi
    have hi' : i < tabL.length := hi
    unfold tabObjs
    rw [List.getElem?_append_left (by simpa using hi'), List.getElem?_map, List.getElem?_eq_getElem hi']
    unfold tabE
    rw [List.getD_eq_getElem?_getD, List.getElem?_eq_getElem hi']
    rfl
  refine ⟨fun i hi => ?_, fun i hi => ?_, fun i hi => ?_, fun i hi j hj => ?_, ?_⟩
  · exact cell_laid w _ 43 _ _ 116 hlast _ (tabRow_at tabL w.heap.size i hi).1
  · exact cell_laid w _ 43 _ _ 116 hlast _ (tabRow_at tabL w.heap.size i hi).2.1
  · exact cell_laid w _ 43 _ _ 116 hlast _ (tabRow_at tabL w.heap.size i hi).2.2
  · refine cell_laid w _ i _ _ 3 (hrow i hi) _ ?_
    unfold numRow
    rw [List.getElem?_map, List.getElem?_eq_getElem hj, List.getD_eq_getElem?_getD, List.getElem?_eq_getElem hj]
    rfl
  · rw [heap_allocs]
    simp [tabObjs, tabL]

theorem table_any (w : World) :
    Calls Tryz.prog 87 #[] w fun e w' => e = .returned (.slice (some ⟨w.heap.size + 43, 0, none⟩) 43 43) ∧ Tab w.heap.size w' ∧ Below w.heap.size w w' := by
  refine (table_laid w).mono ?_
  rintro e w' ⟨rfl, rfl⟩
  exact ⟨rfl, tab_laid w, below_allocs _ _⟩

set_option maxRecDepth 100000 in
theorem tab_short : ∀ i, i < 43 → (tabE i).1.length ≤ 7 ∧ (tabE i).2.2.length ≤ 2 ∧ ∀ j, j < (tabE i).2.2.length → (tabE i).2.2.getD j 0 < 65536 := by decide

theorem fold_snoc (l : List UInt8) (i : Nat) (h : i < 43) (s : Nat × List UInt8) (hs : (tabL.take i).foldl (rstep l) (0, []) = s) : (tabL.take (i + 1)).foldl (rstep l) (0, []) = rstep l s (tabE i) := by
  have hi : i < tabL.length := h
  rw [List.take_succ_eq_append_getElem hi, List.foldl_append, hs]
  unfold tabE
  rw [List.getD_eq_getElem?_getD, List.getElem?_eq_getElem hi]
  rfl

theorem rstep_one {l : List UInt8} {n : Nat} {t : List UInt8} {e : List UInt8 × Bool × List Nat} (h1 : begs l (e.1 ++ [59]) = true) (h2 : n < e.1.length + 1) : rstep l (n, t) e = (e.1.length + 1, textN e.2.2) := if_pos ⟨h1, h2⟩
theorem rstep_two {l : List UInt8} {n : Nat} {t : List UInt8} {e : List UInt8 × Bool × List Nat} (h1 : ¬ (begs l (e.1 ++ [59]) = true ∧ n < e.1.length + 1)) (h2 : e.2.1 = true) (h3 : begs l e.1 = true) (h4 : n < e.1.length) : rstep l (n, t) e = (e.1.length, textN e.2.2) := by
  unfold rstep
  rw [if_neg h1, if_pos ⟨h2, h3, h4⟩]
theorem rstep_no {l : List UInt8} {n : Nat} {t : List UInt8} {e : List UInt8 × Bool × List Nat} (h1 : ¬ (begs l (e.1 ++ [59]) = true ∧ n < e.1.length + 1)) (h2 : ¬ (e.2.1 = true ∧ begs l e.1 = true ∧ n < e.1.length)) : rstep l (n, t) e = (n, t) := by
  unfold rstep
  rw [if_neg h1, if_neg h2]

theorem join_one (a b : List UInt8) : (⟨a.toArray⟩ ++ ⟨b.toArray⟩ : ByteArray) = ⟨(a ++ b).toArray⟩ := by
  apply ByteArray.ext
  simp [ByteArray.data_append]

def RFRel (l : List UInt8) (B : Nat) (w : World) (v4 v5 v7 : Value) (wr : World) : Prop :=
  ∃ (i n : Nat) (t : List UInt8), v7 = .int .i64 i ∧ v4 = .int .i64 n ∧ v5 = .string ⟨t.toArray⟩ ∧ i ≤ 43 ∧ n ≤ 8 ∧ (tabL.take i).foldl (rstep l) (0, []) = (n, t) ∧ Tab B wr ∧ Below w.heap.size w wr

set_option maxHeartbeats 4000000 in
set_option maxRecDepth 100000 in
theorem rfind_any (l : List UInt8) (w : World) :
    Calls Tryz.prog 59 #[.string ⟨l.toArray⟩] w fun e w' => e = .returned (.tuple #[.int .i64 (refL l).1, .string ⟨(refL l).2.toArray⟩]) ∧ Below w.heap.size w w' := by
  go_enter Tryz.func59, Tryz.ntmps59
  go_wp2_with fail
  refine (table_any w).mono ?_
  rintro e w1 ⟨rfl, hT, hb1⟩
  have HT := Lib.hid hT
  have HB1 := Lib.hid hb1
  clear hT hb1
  go_wp2
  go_loopw [4, 5, 7] (fun v4 v5 v7 wr => RFRel l w.heap.size w v4 v5 v7 wr) (fun _ _ v7 _ => (43 - RowKit.intOf v7).toNat)
  case atStart => exact ⟨0, 0, [], rfl, rfl, rfl, by omega, by omega, rfl, HT.out, HB1.out⟩
  case round =>
    clear HT HB1
    obtain ⟨i, n, t, rfl, rfl, rfl, hi43, hn8, hf, hT, hbw⟩ := hrel
    have HBW := Lib.hid hbw
    clear hbw
    by_cases hi : i < 43
    · have hi' : (i : Int) < 43 := by omega
      have c1 := hT.nm i hi
      have c2 := hT.al i hi
      have c3 := hT.cs i hi
      have hnum := hT.num i hi
      have hlt := hT.lt
      obtain ⟨k1, k2, k3⟩ := tab_short i hi
      have HFS := Lib.hid (fold_snoc l i hi _ hf)
      have HT := Lib.hid hT
      clear hT hf
      generalize tabE i = E at c1 c2 c3 hnum k1 k2 k3 HFS
      have cT := text_any E.2.2 (w.heap.size + i) E.2.2.length wr (by omega) (by omega) k3 hnum
      have cA := begins_any l (E.1 ++ [59]) wr
      rw [← join_one] at cA
      have cB := begins_any l E.1 wr
      clear hnum k3 hlt
      obtain ⟨nm, al, cs⟩ := E
      simp only at c1 c2 c3 k1 k2 HFS cT cA cB
      have hadd : ¬ (9223372036854775807 < nm.length + 1) := by omega
      cases hA : begs l (nm ++ [59])
      · rw [hA] at cA
        have no1 : ¬ (begs l (nm ++ [59]) = true ∧ n < nm.length + 1) := by simp [hA]
        cases al
        · have HS := Lib.hid (HFS.out.trans (rstep_no no1 (by simp)))
          clear no1 HFS hA cB cT
          go_wp2_with fail
          refine cA.mono ?_
          rintro e w' ⟨rfl, rfl⟩
          go_wp2
          go_roundw
          case rel => exact ⟨i + 1, n, t, by go_num, rfl, rfl, by omega, hn8, HS.out, HT.out, HBW.out⟩
          case measure => simp [RowKit.intOf]; omega
        · cases hB : begs l nm
          · rw [hB] at cB
            have HS := Lib.hid (HFS.out.trans (rstep_no no1 (by simp [hB])))
            clear no1 HFS hA hB cT
            go_wp2_with fail
            refine cA.mono ?_
            rintro e w' ⟨rfl, rfl⟩
            go_wp2_with fail
            refine cB.mono ?_
            rintro e w' ⟨rfl, rfl⟩
            go_wp2
            go_roundw
            case rel => exact ⟨i + 1, n, t, by go_num, rfl, rfl, by omega, hn8, HS.out, HT.out, HBW.out⟩
            case measure => simp [RowKit.intOf]; omega
          · rw [hB] at cB
            by_cases hm : n < nm.length
            · have hm' : (n : Int) < (nm.length : Int) := by omega
              have HS := Lib.hid (HFS.out.trans (rstep_two no1 rfl hB hm))
              clear no1 HFS hA hB
              go_wp2_with fail
              refine cA.mono ?_
              rintro e w' ⟨rfl, rfl⟩
              go_wp2_with fail
              refine cB.mono ?_
              rintro e w' ⟨rfl, rfl⟩
              go_wp2_with fail
              refine cT.mono ?_
              rintro e w2 ⟨rfl, hb2⟩
              have HT2 := Lib.hid (HT.out.below hb2)
              have HB2 := Lib.hid (HBW.out.trans (hb2.mono HBW.out.size))
              clear hb2
              go_wp2
              go_roundw
              case rel => exact ⟨i + 1, nm.length, _, by go_num, by go_num, rfl, by omega, by omega, HS.out, HT2.out, HB2.out⟩
              case measure => simp [RowKit.intOf]; omega
            · have hm' : decide ((n : Int) < (nm.length : Int)) = false := by simp; omega
              have HS := Lib.hid (HFS.out.trans (rstep_no no1 (by simp; omega)))
              clear no1 HFS hA hB cT
              go_wp2_with fail
              refine cA.mono ?_
              rintro e w' ⟨rfl, rfl⟩
              go_wp2_with fail
              refine cB.mono ?_
              rintro e w' ⟨rfl, rfl⟩
              go_wp2
              go_roundw
              case rel => exact ⟨i + 1, n, t, by go_num, rfl, rfl, by omega, hn8, HS.out, HT.out, HBW.out⟩
              case measure => simp [RowKit.intOf]; omega
      · rw [hA] at cA
        by_cases hm : n < nm.length + 1
        · have hm' : (n : Int) < (nm.length : Int) + 1 := by omega
          have HS := Lib.hid (HFS.out.trans (rstep_one hA hm))
          clear HFS hA cB
          go_wp2_with fail
          refine cA.mono ?_
          rintro e w' ⟨rfl, rfl⟩
          go_wp2_with fail
          refine cT.mono ?_
          rintro e w2 ⟨rfl, hb2⟩
          have HT2 := Lib.hid (HT.out.below hb2)
          have HB2 := Lib.hid (HBW.out.trans (hb2.mono HBW.out.size))
          clear hb2
          go_wp2
          go_roundw
          case rel => exact ⟨i + 1, nm.length + 1, _, by go_num, by go_num, rfl, by omega, by omega, HS.out, HT2.out, HB2.out⟩
          case measure => simp [RowKit.intOf]; omega
        · have hm' : decide ((n : Int) < (nm.length : Int) + 1) = false := by simp; omega
          have hm2 : decide ((n : Int) < (nm.length : Int)) = false := by simp; omega
          have HS := Lib.hid (HFS.out.trans (rstep_no (by simp; omega) (by simp; omega)))
          clear HFS hA cT
          cases al
          · clear cB
            go_wp2_with fail
            refine cA.mono ?_
            rintro e w' ⟨rfl, rfl⟩
            go_wp2
            go_roundw
            case rel => exact ⟨i + 1, n, t, by go_num, rfl, rfl, by omega, hn8, HS.out, HT.out, HBW.out⟩
            case measure => simp [RowKit.intOf]; omega
          · cases hB : begs l nm
            · rw [hB] at cB
              clear hB
              go_wp2_with fail
              refine cA.mono ?_
              rintro e w' ⟨rfl, rfl⟩
              go_wp2_with fail
              refine cB.mono ?_
              rintro e w' ⟨rfl, rfl⟩
              go_wp2
              go_roundw
              case rel => exact ⟨i + 1, n, t, by go_num, rfl, rfl, by omega, hn8, HS.out, HT.out, HBW.out⟩
              case measure => simp [RowKit.intOf]; omega
            · rw [hB] at cB
              clear hB
              go_wp2_with fail
              refine cA.mono ?_
              rintro e w' ⟨rfl, rfl⟩
              go_wp2_with fail
              refine cB.mono ?_
              rintro e w' ⟨rfl, rfl⟩
              go_wp2
              go_roundw
              case rel => exact ⟨i + 1, n, t, by go_num, rfl, rfl, by omega, hn8, HS.out, HT.out, HBW.out⟩
              case measure => simp [RowKit.intOf]; omega
    · have hi' : ¬ (i : Int) < 43 := by omega
      obtain rfl : i = 43 := by omega
      have HF := Lib.hid (show refL l = (n, t) from hf)
      clear hf hT
      go_wp2
      go_ret2
      rw [HF.out]
      exact ⟨rfl, HBW.out⟩
end Go.Proofs.YtndcmapifihgeaaGreatDoor.En
