/- The reference's Begins, UTF and Text, walked. -/
import Derived.Test.YtfnecdifaodamaaDoorEnFind
import Derived.Lib.UnsafeStr
import Derived.Laws.OwnMore
import Derived.Laws.AppendOwn
import Derived.Laws.IdiomStrings
import Derived.Laws.BytesArg
namespace Go.Proofs.YtfnecdifaodamaaDoor.En
open Go.RowKit Go.Lib

theorem ret_str {a b : List UInt8} (h : a = b) : Ending.returned (.string ⟨a.toArray⟩) = .returned (.string ⟨b.toArray⟩) := by rw [h]

set_option maxHeartbeats 1000000 in
set_option maxRecDepth 100000 in
theorem begins_any (l p : List UInt8) (w : World) :
    Calls Tryd.prog 82 #[.string ⟨l.toArray⟩, .string ⟨p.toArray⟩] w fun e w' => e = .returned (.bool (begs l p)) ∧ w = w' := by
  by_cases h : p.length ≤ l.length
  · have h1 : (p.length : Int) ≤ (l.length : Int) := by omega
    have hB := Lib.hid (show begs l p = (((⟨l.toArray⟩ : ByteArray).extract 0 p.length).toList == p) by
      unfold begs; rw [ext_front]; simp [go_sem, h])
    go_enter Tryd.func82, Tryd.ntmps82
    go_wp2
    go_ret
    exact ⟨ret_bool hB.out.symm, rfl⟩
  · have h1 : ¬ ((p.length : Int) ≤ (l.length : Int)) := by omega
    have hB := Lib.hid (show begs l p = false by unfold begs; simp [h])
    go_enter Tryd.func82, Tryd.ntmps82
    go_wp2
    go_ret
    exact ⟨ret_bool hB.out.symm, rfl⟩

/-- a new row that holds a character's bytes -/
def Enc (c : Nat) (w : World) (e : Ending) (w' : World) : Prop :=
  ∃ cap, e = .returned (.slice (some ⟨w.heap.size, 0, none⟩) (Lib.byteCells (utfN c)).length cap) ∧ (∀ j u, (Lib.byteCells (utfN c))[j]? = some u → w'.cell? ⟨w.heap.size, j, none⟩ = some u) ∧ Below w.heap.size w w'

theorem enc_mk (c : Nat) (w : World) (cs : List Value) (h : Lib.byteCells (utfN c) = cs) (n : Nat) (hn : cs.length = n) : Enc c w (.returned (.slice (some ⟨w.heap.size, 0, none⟩) n n)) (w.alloc (.cells cs.toArray 5)) := by
  subst hn
  refine ⟨_, by rw [h], fun j u hj => ?_, (Below.refl _ w).alloc (Nat.le_refl _) _⟩
  rw [h] at hj
  simp [World.cell?, World.alloc, -World.alloc_eq]
  exact hj

theorem byte_of (n : Nat) (z : Int) (hz : z = n) (h : n < 256) : (Value.int .u8 (((UInt8.ofNat n).toNat : Nat) : Int)) = .int .u8 z := by
  rw [hz, UInt8.toNat_ofNat']
  congr 2
  omega

set_option maxHeartbeats 1000000 in
set_option maxRecDepth 100000 in
theorem utf_any (c : Nat) (w : World) (hc : c < 65536) : Calls Tryd.prog 25 #[.int .i64 (c : Int)] w (Enc c w) := by
  by_cases k1 : c < 128
  · have h1 : (c : Int) < 128 := by omega
    have e : Lib.byteCells (utfN c) = [.int .u8 (c : Int)] := by
      unfold utfN; rw [if_pos k1]; simp only [Lib.byteCells, List.map_cons, List.map_nil]; rw [byte_of c (c : Int) rfl (by omega)]
    have E := enc_mk c w _ e 1 rfl
    clear e
    go_enter Tryd.func25, Tryd.ntmps25
    go_wp2
    go_ret
    exact E
  · by_cases k2 : c < 2048
    · have h1 : ¬ (c : Int) < 128 := by omega
      have h2 : (c : Int) < 2048 := by omega
      have e : Lib.byteCells (utfN c) = [.int .u8 (192 + (c : Int) / 64), .int .u8 (128 + (c : Int) % 64)] := by
        unfold utfN; rw [if_neg k1, if_pos k2]; simp only [Lib.byteCells, List.map_cons, List.map_nil]
        rw [byte_of _ (192 + (c : Int) / 64) (by omega) (by omega), byte_of _ (128 + (c : Int) % 64) (by omega) (by omega)]
      have E := enc_mk c w _ e 2 rfl
      clear e
      go_enter Tryd.func25, Tryd.ntmps25
      go_wp2
      go_ret
      exact E
    · have h1 : ¬ (c : Int) < 128 := by omega
      have h2 : ¬ (c : Int) < 2048 := by omega
      have h3 : (c : Int) < 65536 := by omega
      have e : Lib.byteCells (utfN c) = [.int .u8 (224 + (c : Int) / 4096), .int .u8 (128 + (c : Int) / 64 % 64), .int .u8 (128 + (c : Int) % 64)] := by
        unfold utfN; rw [if_neg k1, if_neg k2, if_pos hc]; simp only [Lib.byteCells, List.map_cons, List.map_nil]
        rw [byte_of _ (224 + (c : Int) / 4096) (by omega) (by omega), byte_of _ (128 + (c : Int) / 64 % 64) (by omega) (by omega), byte_of _ (128 + (c : Int) % 64) (by omega) (by omega)]
      have E := enc_mk c w _ e 3 rfl
      clear e
      go_enter Tryd.func25, Tryd.ntmps25
      go_wp2
      go_ret
      exact E

theorem info5 : ∃ j, Tryd.prog.info? 5 = some j ∧ (j.zero, j.size, j.bytes) = (some (.int .u8 0), 1, 1) :=
  Option.map_eq_some_iff.1 (by kernel_rfl : (Tryd.prog.info? 5).map (fun i => (i.zero, i.size, i.bytes)) = some (some (.int .u8 0), 1, 1))

theorem grown_below {w w' : World} (h : Below w.heap.size w w') : w.grownBy w' none := ⟨h.os, h.tape, h.output, h.size, fun k hk _ => h.block k hk⟩

theorem owns_below {w w' : World} {base : Nat} {e : TypeId} {size : Nat} {v : Value} {n : Nat} {xs : List Value} (h : w.ownsRow base e size v n xs) (hb : Below w.heap.size w w') : w'.ownsRow base e size v n xs := by
  refine h.kept (grown_below hb) ?_
  cases v.ownBlock with
  | none => exact Or.inl rfl
  | some g => exact Or.inr (by simp)

theorem addr_add0 (g j : Nat) : (⟨g, 0, none⟩ : Addr).add j = ⟨g, j, none⟩ := by unfold Addr.add; split <;> simp_all

/-- 'string(b)' of a row of one's own -/
theorem string_own {w : World} {B : Nat} {v : Value} {acc : List UInt8} (h : w.ownsRow B 5 1 v acc.length (Lib.byteCells acc)) :
    (convert 22 9 v).run Tryd.prog w = .ok (.string ⟨acc.toArray⟩) w := by
  rcases h.2 with ⟨hv, h0⟩ | ⟨g, cap, cur, hv, hg, hh, r⟩
  · subst hv
    obtain rfl : acc = [] := List.eq_nil_of_length_eq_zero h0
    exact run_convert_bytes_nil w 22 5 Tryd.underlying22 Tryd.underlying5 0 0 9 Tryd.underlying9
  · subst hv
    refine run_convert_bytes_back w 22 9 5 ⟨g, 0, none⟩ cap acc Tryd.underlying22 Tryd.underlying5 Tryd.underlying9 fun j hj => ?_
    refine h.cells rfl j _ ?_
    simp [Lib.byteCells, List.getElem?_eq_getElem hj]

theorem textN_snoc (cs : List Nat) (i : Nat) (h : i < cs.length) : textN (cs.take (i + 1)) = textN (cs.take i) ++ utfN (cs.getD i 0) := by
  rw [List.take_succ_eq_append_getElem h]
  unfold textN
  rw [List.flatMap_append, List.getD_eq_getElem?_getD, List.getElem?_eq_getElem h]
  simp

theorem utfN_le (c : Nat) : (utfN c).length ≤ 4 := by
  unfold utfN; split <;> (try split) <;> (try split) <;> simp

theorem textN_le : ∀ cs : List Nat, (textN cs).length ≤ 4 * cs.length
  | [] => by simp [textN]
  | c :: r => by
    have := textN_le r
    have := utfN_le c
    unfold textN at *
    rw [List.flatMap_cons, List.length_append, List.length_cons]
    omega

def TextRel (cs : List Nat) (w : World) (v3 v4 : Value) (wr : World) : Prop :=
  ∃ i : Nat, v4 = .int .i64 i ∧ i ≤ cs.length ∧ wr.ownsRow w.heap.size 5 1 v3 (textN (cs.take i)).length (Lib.byteCells (textN (cs.take i))) ∧ Below w.heap.size w wr

set_option maxHeartbeats 1000000 in
set_option maxRecDepth 100000 in
theorem text_any (cs : List Nat) (b cap : Nat) (w : World) (hl : cs.length ≤ 10) (hb : b < w.heap.size) (hcs : ∀ j, j < cs.length → cs.getD j 0 < 65536) (hc : ∀ j, j < cs.length → w.cell? ⟨b, j, none⟩ = some (.int .i64 (cs.getD j 0 : Int))) :
    Calls Tryd.prog 83 #[.slice (some ⟨b, 0, none⟩) cs.length cap] w fun e w' => e = .returned (.string ⟨(textN cs).toArray⟩) ∧ Below w.heap.size w w' := by
  obtain ⟨i5, hi5, hp5⟩ := info5
  simp only [Prod.mk.injEq] at hp5
  obtain ⟨hz5, hsz5, hby5⟩ := hp5
  have HI5 := Lib.hid hi5
  have HZ5 := Lib.hid hz5
  have HS5 := Lib.hid hsz5
  have HB5 := Lib.hid hby5
  have HC := Lib.hid hc
  have HCS := Lib.hid hcs
  clear hi5 hz5 hsz5 hby5 hc hcs
  go_enter Tryd.func83, Tryd.ntmps83
  go_wp2
  go_loopw [3, 4] (fun v3 v4 wr => TextRel cs w v3 v4 wr) (fun _ v4 _ => ((cs.length : Int) - RowKit.intOf v4).toNat)
  case atStart =>
    refine ⟨0, rfl, Nat.zero_le _, ⟨by simp [Lib.byteCells, textN], Or.inr ⟨w.heap.size, 0, #[], by simp [textN], Nat.le_refl _, ?_, by simp [textN], by simp, by simp, by simp [Lib.byteCells, textN]⟩⟩, (Below.refl _ w).alloc (Nat.le_refl _) _⟩
    simp [World.alloc, -World.alloc_eq]
  case round =>
    obtain ⟨i, rfl, hil, hI, hbw⟩ := hrel
    have hsz := hbw.size
    by_cases hi : i < cs.length
    · have hi' : (i : Int) < (cs.length : Int) := by omega
      have hcell : wr.cell? ⟨b, i, none⟩ = some (.int .i64 (cs.getD i 0 : Int)) := by
        rw [← HC.out i hi]
        exact World.cell?_of_block (hbw.block _ hb)
      have hcc := HCS.out i hi
      have hsn := Lib.hid (textN_snoc cs i hi)
      have hlen : (textN (cs.take i)).length ≤ 40 := by
        have := textN_le (cs.take i)
        rw [List.length_take] at this
        omega
      generalize cs.getD i 0 = c at hcell hcc hsn
      have hU := utf_any c wr hcc
      have hul := utfN_le c
      go_wp2_with fail
      refine hU.mono ?_
      rintro e w2 ⟨cap2, rfl, hcells, hb2⟩
      have hown := owns_below hI hb2
      have hz2 := hb2.size
      have HCE := Lib.hid hcells
      clear hcells
      have hbl : (Lib.byteCells (utfN c)).length ≤ 4 := by simpa [Lib.byteCells] using hul
      go_wp2_with (at_builtin; refine wpList_append_own _ rfl (.tmp 12) (.tmp 17) 22 rfl w.heap.size 5 i5 (.int .u8 0) 1 1 Tryd.underlying22 HI5.out HZ5.out HS5.out HB5.out rfl (by decide) _ _ _ rfl hown ⟨wr.heap.size, 0, none⟩ _ _ (Lib.byteCells (utfN c)) rfl ?c0 ?c1 ?c2 ?c3 ?c4 ?c5 ?_)
      case c0 => simp
      case c1 =>
        intro j u hj
        rw [addr_add0]
        exact HCE.out j u hj
      case c2 =>
        intro u hu
        simp only [Lib.byteCells, List.mem_map] at hu
        obtain ⟨q, -, rfl⟩ := hu
        rfl
      case c3 => unfold maxLen; omega
      case c4 => omega
      case c5 => omega
      intro v' w3 hown' hgrow _
      go_wp2
      go_roundw
      case rel =>
        refine ⟨i + 1, by go_num, by omega, ?_, ?_⟩
        · rw [hsn.out, Lib.byteCells_append, List.length_append]
          have e2 : (Lib.byteCells (utfN c)).length = (utfN c).length := by simp [Lib.byteCells]
          rw [← e2]
          exact hown'
        · exact (hbw.trans (hb2.mono hsz)).grown hgrow (by omega) (fun k hk => (hown.lt k hk).1)
      case measure => simp [RowKit.intOf]; omega
    · have hi' : ¬ (i : Int) < (cs.length : Int) := by omega
      have hstr := string_own hI
      go_wp2
      go_ret
      refine ⟨ret_str ?_, hbw⟩
      rw [List.take_of_length_le (by omega)]
end Go.Proofs.YtfnecdifaodamaaDoor.En
