/- The reference's All: all characters from a byte up to another one, as a list has them. -/
import Derived.Test.YtfodfjjhlbpniaaDoorAll
import Derived.Test.YtfodfjjhlbpniaaDoorMath2
import Derived.Laws.OwnMore
import Derived.Laws.IdiomStrings
import Derived.Laws.BytesArg
namespace Go.Proofs.YtfodfjjhlbpniaaDoor
open Go.RowKit Go.Lib

/-- a new row that holds a character's bytes -/
def Enc (c : Nat) (w : World) (e : Ending) (w' : World) : Prop :=
  ∃ cap, e = .returned (.slice (some ⟨w.heap.size, 0, none⟩) (runeCells (c : Int)).length cap) ∧ (∀ j u, (runeCells (c : Int))[j]? = some u → w'.cell? ⟨w.heap.size, j, none⟩ = some u) ∧ Below w.heap.size w w'

theorem enc_mk (c : Nat) (w : World) (cs : List Value) (h : runeCells (c : Int) = cs) (n : Nat) (hn : cs.length = n) : Enc c w (.returned (.slice (some ⟨w.heap.size, 0, none⟩) n n)) (w.alloc (.cells cs.toArray 5)) := by
  subst hn
  refine ⟨_, by rw [h], fun j u hj => ?_, (Below.refl _ w).alloc (Nat.le_refl _) _⟩
  rw [h] at hj
  simp [World.cell?, World.alloc, -World.alloc_eq]
  exact hj

set_option maxHeartbeats 1000000 in
set_option maxRecDepth 100000 in
theorem utfBytes (c : Nat) (w : World) (hc : good c) :
    Calls Tryd.prog 23 #[.int .i64 (c : Int)] w (Enc c w) := by
  rcases good_cases hc with k | k | k | k
  · have h1 : (c : Int) < 128 := by omega
    have e : runeCells (c : Int) = [.int .u8 (c : Int)] := by unfold runeCells; rw [encodeRuneZ_one (by omega) (by omega)]; rfl
    have E := enc_mk c w _ e 1 rfl
    clear e
    go_enter Tryd.func23, Tryd.ntmps23
    go_wp2
    go_ret
    exact E
  · have h1 : ¬ (c : Int) < 128 := by omega
    have h2 : (c : Int) < 2048 := by omega
    have e : runeCells (c : Int) = [.int .u8 (192 + (c : Int) / 64), .int .u8 (128 + (c : Int) % 64)] := by unfold runeCells; rw [encodeRuneZ_two (by omega) (by omega)]; rfl
    have E := enc_mk c w _ e 2 rfl
    clear e
    go_enter Tryd.func23, Tryd.ntmps23
    go_wp2
    go_ret
    exact E
  · have h1 : ¬ (c : Int) < 128 := by omega
    have h2 : ¬ (c : Int) < 2048 := by omega
    have h3 : (c : Int) < 65536 := by omega
    have e : runeCells (c : Int) = [.int .u8 (224 + (c : Int) / 4096), .int .u8 (128 + (c : Int) / 64 % 64), .int .u8 (128 + (c : Int) % 64)] := by unfold runeCells; rw [encodeRuneZ_three (by omega)]; rfl
    have E := enc_mk c w _ e 3 rfl
    clear e
    go_enter Tryd.func23, Tryd.ntmps23
    go_wp2
    go_ret
    exact E
  · have h1 : ¬ (c : Int) < 128 := by omega
    have h2 : ¬ (c : Int) < 2048 := by omega
    have h3 : ¬ (c : Int) < 65536 := by omega
    have e : runeCells (c : Int) = [.int .u8 (240 + (c : Int) / 262144), .int .u8 (128 + (c : Int) / 4096 % 64), .int .u8 (128 + (c : Int) / 64 % 64), .int .u8 (128 + (c : Int) % 64)] := by unfold runeCells; rw [encodeRuneZ_four (by omega) (by omega)]; rfl
    have E := enc_mk c w _ e 4 rfl
    clear e
    go_enter Tryd.func23, Tryd.ntmps23
    go_wp2
    go_ret
    exact E

theorem info5 : ∃ j, Tryd.prog.info? 5 = some j ∧ (j.zero, j.size, j.bytes) = (some (.int .u8 0), 1, 1) :=
  Option.map_eq_some_iff.1 (by kernel_rfl : (Tryd.prog.info? 5).map (fun i => (i.zero, i.size, i.bytes)) = some (some (.int .u8 0), 1, 1))

theorem ownsRow_below {w w' : World} {base : Nat} {e : TypeId} {size : Nat} {v : Value} {n : Nat} {xs : List Value} (h : w.ownsRow base e size v n xs) (hb : Below w.heap.size w w') : w'.ownsRow base e size v n xs := by
  refine h.kept (grown_of_below hb) ?_
  cases v.ownBlock with
  | none => exact Or.inl rfl
  | some g => exact Or.inr (by simp)

def RAllRel (l : List UInt8) (x0 to : Int) (w : World) (v7 v8 : Value) (wr : World) : Prop :=
  ∃ (i : Nat) (acc : List UInt8), v8 = .int .i64 i ∧ wr.ownsRow w.heap.size 5 1 v7 acc.length (Lib.byteCells acc) ∧ Below w.heap.size w wr ∧ acc ++ allFrom l i to = allFrom l x0 to

theorem addr_add0 (g j : Nat) : (⟨g, 0, none⟩ : Addr).add j = ⟨g, j, none⟩ := by unfold Addr.add; split <;> simp_all

/-- 'string(b)' of a row of one's own -/
theorem string_own {w : World} {B : Nat} {v : Value} {acc : List UInt8} (h : w.ownsRow B 5 1 v acc.length (Lib.byteCells acc)) :
    (convert 22 9 v).run Tryd.prog w = .ok (.string ⟨acc.toArray⟩) w := by
  rcases h.2 with ⟨hv, h0⟩ | ⟨g, cap, cur, hv, hg, hh, r⟩
  · subst hv
    obtain rfl : acc = [] := List.eq_nil_of_length_eq_zero h0
    exact run_convert_bytes_nil w 22 5 Tryd.underlying22 Tryd.underlying5 0 0 9 Tryd.underlying9
  · subst hv
    refine run_convert_bytes_back w 22 9 5 ⟨g, 0, none⟩ cap acc Tryd.underlying22 Tryd.underlying5 Tryd.underlying9 fun j hj => ?_
    refine h.cells rfl j _ ?_
    simp [Lib.byteCells, List.getElem?_eq_getElem hj]

set_option maxHeartbeats 1000000 in
set_option maxRecDepth 100000 in
theorem refAll_any (l : List UInt8) (a : Option Addr) (cap : Nat) (x0 to : Int) (w : World) (hs : Sl l a cap w) (hl : l.length ≤ 1000000) :
    Calls Tryd.prog 13 #[.slice a l.length cap, .int .i64 x0, .int .i64 to] w fun e w' => e = .returned (.string ⟨(allFrom l x0 to).toArray⟩) ∧ Below w.heap.size w w' := by
  by_cases hx : x0 < 0
  · have e : allFrom l x0 to = [] := allFrom_out l x0 to (by omega)
    rw [e]
    clear e
    go_enter Tryd.func13, Tryd.ntmps13
    go_wp2
    go_ret
    exact ⟨rfl, (Below.refl _ w).alloc (Nat.le_refl _) _⟩
  · obtain ⟨i0, rfl⟩ : ∃ i : Nat, x0 = i := ⟨x0.toNat, by omega⟩
    obtain ⟨i5, hi5, hp5⟩ := info5
    simp only [Prod.mk.injEq] at hp5
    obtain ⟨hz5, hsz5, hby5⟩ := hp5
    have HI5 := Lib.hid hi5
    have HZ5 := Lib.hid hz5
    have HS5 := Lib.hid hsz5
    have HB5 := Lib.hid hby5
    clear hi5 hz5 hsz5 hby5 hx
    go_enter Tryd.func13, Tryd.ntmps13
    go_wp2
    go_loopw [7, 8] (fun v7 v8 wr => RAllRel l i0 to w v7 v8 wr) (fun _ v8 _ => ((l.length : Int) - RowKit.intOf v8).toNat)
    case atStart =>
      refine ⟨i0, [], rfl, ⟨by simp [Lib.byteCells], Or.inr ⟨w.heap.size, 0, #[], rfl, Nat.le_refl _, ?_, by simp, by simp, by simp, by simp [Lib.byteCells]⟩⟩, (Below.refl _ w).alloc (Nat.le_refl _) _, rfl⟩
      simp [World.alloc, -World.alloc_eq]
    case round =>
      obtain ⟨i, acc, rfl, hI, hbw, hacc⟩ := hrel
      have hsz := hbw.size
      have HACC := Lib.hid hacc
      have hal : acc.length ≤ 4 * l.length := by
        have := allFrom_len l i0 to
        rw [← hacc] at this
        simp at this; omega
      clear hacc
      have hsr := hs.below hbw
      by_cases hlt : (i : Int) < to
      · by_cases hin : i < l.length
        · have hin' : (i : Int) < (l.length : Int) := by omega
          have hN := refNext_any l a cap i wr hsr (by omega)
          rw [nxAt_in hin] at hN
          have hne : l.drop i ≠ [] := by
            intro e; have := congrArg List.length e; simp at this; omega
          have hw := nx_width _ hne
          have hg := nx_good (l.drop i)
          have hst := Lib.hid (allFrom_step l i to hin hlt)
          simp only [List.length_drop] at hw
          clear hne
          generalize nx (l.drop i) = R at hN hw hg hst
          obtain ⟨c, n⟩ := R
          simp only at hw hg hst hN
          go_wp2_with fail
          refine hN.mono ?_
          rintro e w1 ⟨rfl, rfl⟩
          go_wp2_with fail
          refine (utfBytes c wr hg).mono ?_
          rintro e w2 ⟨cap2, rfl, hcells, hb2⟩
          have hown := ownsRow_below hI hb2
          have hz2 := hb2.size
          have hrl := runeCells_le (c : Int)
          have HC := Lib.hid hcells
          clear hcells
          go_wp2_with (at_builtin; refine wpList_append_own _ rfl (.tmp 30) (.tmp 32) 22 rfl w.heap.size 5 i5 (.int .u8 0) 1 1 Tryd.underlying22 HI5.out HZ5.out HS5.out HB5.out rfl (by decide) _ _ _ rfl hown ⟨wr.heap.size, 0, none⟩ _ _ (runeCells (c : Int)) rfl ?c0 ?c1 ?c2 ?c3 ?c4 ?c5 ?_)
          case c0 => simp
          case c1 =>
            intro j u hj
            rw [addr_add0]
            exact HC.out j u hj
          case c2 =>
            intro u hu
            unfold runeCells at hu
            obtain ⟨z, _, rfl⟩ := List.mem_map.1 hu
            rfl
          case c3 => unfold maxLen; omega
          case c4 => omega
          case c5 => omega
          intro v' w3 hown' hgrow _
          go_wp2
          go_roundw
          case rel =>
            refine ⟨i + n, acc ++ encodeRune (c : Int), by go_num, ?_, ?_, ?_⟩
            · rw [Lib.byteCells_append, Lib.byteCells_encodeRune, List.length_append, ← runeCells_length]; exact hown'
            · exact (hbw.trans (hb2.mono hsz)).grown hgrow (by omega) (fun k hk => (hown.lt k hk).1)
            · rw [List.append_assoc, ← hst.out]; exact HACC.out
          case measure => simp [RowKit.intOf]; omega
        · have hin' : ¬ (i : Int) < (l.length : Int) := by omega
          have hend := Lib.hid (allFrom_out l i to (by omega))
          have hstr := string_own hI
          go_wp2
          go_ret
          refine ⟨ret_str (l := acc) ?_, hbw⟩
          rw [← HACC.out, hend.out, List.append_nil]
      · have hend := Lib.hid (allFrom_late l i to hlt)
        have hlt' : decide ((i : Int) < to) = false := decide_eq_false hlt
        have hstr := string_own hI
        clear hlt
        go_wp2
        go_ret
        refine ⟨ret_str (l := acc) ?_, hbw⟩
        rw [← HACC.out, hend.out, List.append_nil]
end Go.Proofs.YtfodfjjhlbpniaaDoor
