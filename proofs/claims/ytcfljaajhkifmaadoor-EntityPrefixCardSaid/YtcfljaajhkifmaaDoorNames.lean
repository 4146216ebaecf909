/- The program's Names, walked: what is laid is the names, sorted. -/
import Derived.Test.YtcfljaajhkifmaaDoorFind
import Derived.Test.YtcfljaajhkifmaaDoorMath2
import Derived.Sort.OwnSorted
import Derived.Maps.AppendAt
import Derived.Lib.AppendIntMem
namespace Go.Proofs.YtcfljaajhkifmaaDoor
open Go.RowKit Go.Lib

theorem info9 : ∃ j, Tryd.prog.info? 9 = some j ∧ (j.zero, j.size, j.bytes) = (some (.string ByteArray.empty), 1, 16) :=
  Option.map_eq_some_iff.1 (by kernel_rfl : (Tryd.prog.info? 9).map (fun i => (i.zero, i.size, i.bytes)) = some (some (.string ByteArray.empty), 1, 16))

theorem grown_of_below {w w' : World} (h : Below w.heap.size w w') : w.grownBy w' none := ⟨h.os, h.tape, h.output, h.size, fun k hk _ => h.block k hk⟩

theorem ownsRow_below {w w' : World} {base : Nat} {e : TypeId} {size : Nat} {v : Value} {n : Nat} {xs : List Value} (h : w.ownsRow base e size v n xs) (hb : Below w.heap.size w w') : w'.ownsRow base e size v n xs := by
  refine h.kept (grown_of_below hb) ?_
  cases v.ownBlock with
  | none => exact Or.inl rfl
  | some g => exact Or.inr (by simp)

def strs (l : List (List UInt8)) : List Value := l.map encStr

theorem ascii_of (l : List UInt8) (h : l.all (fun b => decide (b.toNat < 128)) = true) : ∀ (j : Nat) b, (⟨l.toArray⟩ : ByteArray).data.toList[j]? = some b → b.toNat < 128 := by
  intro j b hj
  have := List.mem_of_getElem? hj
  rw [List.all_eq_true] at h
  simpa using h b this

set_option maxRecDepth 100000 in
theorem fields_one (w : World) (ht : Lib.TabIs Tryd.prog w "strings.asciiSpace" .u8 Lib.asciiSpaceTab) :
    Calls Tryd.prog 12 #[.string ⟨mkT.toArray⟩] w fun e w' => e = .returned (.slice (some ⟨w.heap.size, 0, none⟩) 18 18) ∧ w' = w.alloc (.cells (strs mkN).toArray 9) := by
  have h := Tryd.strings_Fields ⟨mkT.toArray⟩ w (by decide) (ascii_of _ (by decide)) ht
  rw [show (⟨mkT.toArray⟩ : ByteArray).data.toList = mkT from rfl, fields_mk] at h
  exact h

set_option maxRecDepth 100000 in
theorem fields_two (w : World) (ht : Lib.TabIs Tryd.prog w "strings.asciiSpace" .u8 Lib.asciiSpaceTab) :
    Calls Tryd.prog 12 #[.string ⟨allT.toArray⟩] w fun e w' => e = .returned (.slice (some ⟨w.heap.size, 0, none⟩) 43 43) ∧ w' = w.alloc (.cells (strs allN).toArray 9) := by
  have h := Tryd.strings_Fields ⟨allT.toArray⟩ w (by decide) (ascii_of _ (by decide)) ht
  rw [show (⟨allT.toArray⟩ : ByteArray).data.toList = allT from rfl, fields_all] at h
  exact h

/-- the names with a semicolon, as the loop meets them -/
def allS : List (List UInt8) := allN.map (· ++ [59])

/-- where the loop stands -/
def NRel (w : World) (v1 v7 : Value) (wr : World) : Prop :=
  ∃ i : Nat, v7 = .int .i64 i ∧ i ≤ 43 ∧ wr.ownsRow w.heap.size 9 1 v1 (18 + i) (strs (mkN ++ allS.take i)) ∧ v1 ≠ .slice none 0 0 ∧
    v1.ownBlock ≠ some (w.heap.size + 1) ∧ (∀ j, j < 43 → wr.cell? ⟨w.heap.size + 1, j, none⟩ = some (.string ⟨(allN.getD j []).toArray⟩)) ∧ Below w.heap.size w wr ∧ w.heap.size + 2 ≤ wr.heap.size

theorem start_own (w : World) : ((w.alloc (.cells (strs mkN).toArray 9)).alloc (.cells (strs allN).toArray 9)).ownsRow w.heap.size 9 1 (.slice (some ⟨w.heap.size, 0, none⟩) 18 18) 18 (strs mkN) := by
  refine ⟨rfl, Or.inr ⟨w.heap.size, 18, (strs mkN).toArray, rfl, Nat.le_refl _, ?_, Nat.le_refl _, by decide, rfl, rfl⟩⟩
  simp [World.alloc, -World.alloc_eq, Array.getElem?_push]

theorem start_heap (w : World) : ((w.alloc (.cells (strs mkN).toArray 9)).alloc (.cells (strs allN).toArray 9)).heap[w.heap.size + 1]? = some (.cells (strs allN).toArray 9) := by
  show ((w.heap.push _).push _)[w.heap.size + 1]? = _
  have : w.heap.size + 1 = (w.heap.push (.cells (strs mkN).toArray 9)).size := by rw [Array.size_push]
  rw [this]
  exact Array.getElem?_push_size

theorem start_cells (w : World) (j : Nat) (h : j < 43) : ((w.alloc (.cells (strs mkN).toArray 9)).alloc (.cells (strs allN).toArray 9)).cell? ⟨w.heap.size + 1, j, none⟩ = some (.string ⟨(allN.getD j []).toArray⟩) := by
  have hj : j < allN.length := h
  unfold World.cell?
  simp only [start_heap w, Option.isSome_none, Bool.false_eq_true, if_false]
  simp [strs, List.getElem?_eq_getElem hj, List.getD]

theorem start_size (w : World) : ((w.alloc (.cells (strs mkN).toArray 9)).alloc (.cells (strs allN).toArray 9)).heap.size = w.heap.size + 2 := by
  show ((w.heap.push _).push _).size = _
  rw [Array.size_push, Array.size_push]

theorem start_below (w : World) : Below w.heap.size w ((w.alloc (.cells (strs mkN).toArray 9)).alloc (.cells (strs allN).toArray 9)) :=
  ((Below.refl _ w).alloc (Nat.le_refl _) _).alloc (by show w.heap.size ≤ (w.heap.push _).size; rw [Array.size_push]; omega) _

set_option maxRecDepth 100000 in
theorem allN_short : ∀ j, j < 43 → (allN.getD j []).length ≤ 7 := by decide

theorem str_join (a b : List UInt8) : (⟨a.toArray⟩ ++ ⟨b.toArray⟩ : ByteArray) = ⟨(a ++ b).toArray⟩ := by
  apply ByteArray.ext
  simp [ByteArray.data_append]

theorem strs_snoc (i : Nat) (h : i < 43) : strs (mkN ++ allS.take (i + 1)) = strs (mkN ++ allS.take i) ++ [.string ⟨(allN.getD i [] ++ [59]).toArray⟩] := by
  have hi : i < allN.length := h
  have hi2 : i < allS.length := h
  rw [List.take_succ_eq_append_getElem hi2, ← List.append_assoc]
  simp only [strs, List.map_append, List.map_cons, List.map_nil]
  rw [List.getD_eq_getElem?_getD, List.getElem?_eq_getElem hi]
  simp [allS]

set_option maxHeartbeats 4000000 in
set_option maxRecDepth 100000 in
theorem names_any (w : World) (ht : Lib.TabIs Tryd.prog w "strings.asciiSpace" .u8 Lib.asciiSpaceTab) :
    Calls Tryd.prog 8 #[] w fun e w' => ∃ g cap, e = .returned (.slice (some ⟨g, 0, none⟩) 61 cap) ∧ w'.ownsRow w.heap.size 9 1 (.slice (some ⟨g, 0, none⟩) 61 cap) 61 (strs nameL) ∧ Below w.heap.size w w' := by
  obtain ⟨i9, hi9, hp9⟩ := info9
  simp only [Prod.mk.injEq] at hp9
  obtain ⟨hz9, hsz9, hby9⟩ := hp9
  have HI9 := Lib.hid hi9
  have HZ9 := Lib.hid hz9
  have HS9 := Lib.hid hsz9
  have HB9 := Lib.hid hby9
  clear hi9 hz9 hsz9 hby9
  have c1 := fields_one w ht
  have c2 := fields_two (w.alloc (.cells (strs mkN).toArray 9)) (tabIs_alloc ht _)
  clear ht
  have s1 := start_own w
  have s2 := start_cells w
  have s3 := start_below w
  have s4 := Nat.le_of_eq (start_size w).symm
  go_enter Tryd.func8, Tryd.ntmps8
  go_wp2_with fail
  refine c1.mono ?_
  rintro e w' ⟨rfl, rfl⟩
  go_wp2_with fail
  refine c2.mono ?_
  rintro e w' ⟨rfl, rfl⟩
  generalize (w.alloc (.cells (strs mkN).toArray 9)).alloc (.cells (strs allN).toArray 9) = W0 at s1 s2 s3 s4 ⊢
  clear c1 c2
  go_wp2
  go_loopw [1, 7] (fun v1 v7 wr => NRel w v1 v7 wr) (fun _ v7 _ => (43 - RowKit.intOf v7).toNat)
  case atStart => exact ⟨0, rfl, by omega, s1, by simp, by simp [Value.ownBlock], s2, s3, s4⟩
  case round =>
    obtain ⟨i, rfl, hi43, hI, hnn, hne, hc, hbw, hsz⟩ := hrel
    clear s1 s2 s3 s4
    by_cases hi : i < 43
    · have hi' : (i : Int) < 43 := by omega
      have hcell := hc i hi
      have hsh := allN_short i hi
      have HSN := Lib.hid (strs_snoc i hi)
      have HC := Lib.hid hc
      clear hc
      generalize allN.getD i [] = x at hcell hsh HSN
      have hadd : ¬ (9223372036854775807 < x.length + 1) := by omega
      have HJ := Lib.hid (str_join x [59])
      have hb2 : Below wr.heap.size wr (wr.alloc (.cells #[.string (⟨x.toArray⟩ ++ ⟨#[59]⟩)] 9)) := (Below.refl _ wr).alloc (Nat.le_refl _) _
      have hown := ownsRow_below hI hb2
      have hsz2 := hb2.size
      go_wp2_with (at_builtin; refine wpList_append_own_at (w := wr.alloc (.cells #[.string (⟨x.toArray⟩ ++ ⟨#[59]⟩)] 9)) rfl (.tmp 11) (.tmp 14) 28 rfl w.heap.size 9 i9 (.string ByteArray.empty) 1 16 Tryd.underlying28 HI9.out HZ9.out HS9.out HB9.out rfl (by decide) _ (18 + i) _ rfl hown ⟨wr.heap.size, 0, none⟩ 1 1 [.string (⟨x.toArray⟩ ++ ⟨#[59]⟩)] rfl rfl (cell_one_new _ _ _) ?c2 ?c3 ?c4 ?c5 ?_)
      case c2 => first | rfl | (intro u hu; simp only [List.mem_singleton] at hu; subst hu; rfl)
      case c3 => unfold maxLen; omega
      case c4 => omega
      case c5 => omega
      intro v' w3 hown' hgrow hnil hblk
      go_wp2
      go_roundw
      case rel =>
        refine ⟨i + 1, by go_num, by omega, ?_, ?_, ?_, ?_, ?_, ?_⟩
        · rw [HSN.out, ← HJ.out]
          exact hown'
        · intro h
          first | exact hnil h | exact absurd (hnil.1 h).2 (by decide)
        · rcases hblk with h | h
          · rw [h]; exact hne
          · rw [h]; intro hh; injection hh with hh; omega
        · intro j hj
          rw [← HC.out j hj]
          have e1 : w3.cell? ⟨w.heap.size + 1, j, none⟩ = (wr.alloc (.cells #[.string (⟨x.toArray⟩ ++ ⟨#[59]⟩)] 9)).cell? ⟨w.heap.size + 1, j, none⟩ := World.cell?_of_block (hgrow.block _ (by show w.heap.size + 1 < _; omega) (fun h => hne h.symm))
          rw [e1]
          exact World.cell?_of_block (hb2.block _ (by show w.heap.size + 1 < _; omega))
        · exact (hbw.trans (hb2.mono (by omega))).grown hgrow (by omega) (fun k hk => (hown.lt k hk).1)
        · have := hgrow.size
          omega
      case measure => simp [RowKit.intOf]; omega
    · have hi' : ¬ (i : Int) < 43 := by omega
      have hi43' : i = 43 := by omega
      subst hi43'
      clear hi hc hne
      rcases hI.2 with ⟨hnil, _⟩ | ⟨g, cap, cur, rfl, hbase, hb, h1, h2, h3, h4⟩
      · exact absurd hnil hnn
      · have hH : Sort.Holds encStr wr g 0 rowN.toArray := holds_of_block hb (ss := rowN) h4
        have hg : g < wr.heap.size := (Array.getElem?_eq_some_iff.1 hb).1
        have c := Tryd.slices_Sort_string g 0 cap rowN wr hH hg (by decide)
        rw [sort_names] at c
        have HF : Hid (∀ n os, (Sort.grow (Sort.putRow encStr (Sort.ahead wr n) g 0 nameL.toArray) os).ownsRow w.heap.size 9 1 (.slice (some ⟨g, 0, none⟩) 61 cap) 61 (strs nameL) ∧ Below w.heap.size w (Sort.grow (Sort.putRow encStr (Sort.ahead wr n) g 0 nameL.toArray) os)) :=
          Lib.hid fun n os => ⟨ownsRow_sorted (ss := rowN) rfl hbase hb h1 h2 h3, hbw.grown (grownBy_sorted _) (by omega) (fun k hk => by simp at hk; omega)⟩
        clear hI hnn hb h1 h2 h3 h4 hH
        go_wp2_with fail
        refine c.mono ?_
        rintro e w' ⟨rfl, n, os, rfl⟩
        have hF := HF.out n os
        generalize Sort.grow (Sort.putRow encStr (Sort.ahead wr n) g 0 nameL.toArray) os = W9 at hF
        go_wp2
        go_ret
        exact ⟨g, cap, rfl, hF.1, hF.2⟩
end Go.Proofs.YtcfljaajhkifmaaDoor
