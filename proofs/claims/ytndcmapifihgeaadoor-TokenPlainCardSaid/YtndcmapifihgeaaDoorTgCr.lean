/- strings.ContainsRune of the characters at which a name stops. -/
import Derived.Test.YtndcmapifihgeaaDoorTgRd
import Derived.Test.YtndcmapifihgeaaDoorKlHex
import Derived.Shelf.Small.Strs
import Derived.WalkMore
import Derived.BigQuiet
import Derived.Deep.QuietTactic
namespace Go.Proofs
open Go.Shelf
def Tryd.lays137_ren : Go.Shelf.Ren := ⟨fun | 137 => 85 | 217 => 95 | 266 => 97 | n => n, fun | n => n, fun | n => n⟩
theorem Tryd.lays137 : Go.Proofs.Lays.n137 Tryd.prog Tryd.lays137_ren := {
  mixed := by kernel_rfl
  f137 := Tryd.func85.trans (congrArg some (by kernel_rfl))
  f217 := Tryd.func95.trans (congrArg some (by kernel_rfl))
  f266 := Tryd.func97.trans (congrArg some (by kernel_rfl))
  t3 := Tryd.underlying3
  a3 := Tryd.isAgg3
  z3 := Tryd.sizeOf3
  v3 := Tryd.zeroValue3
  t5 := Tryd.underlying5
  a5 := Tryd.isAgg5
  z5 := Tryd.sizeOf5
  v5 := Tryd.zeroValue5
  t9 := Tryd.underlying9
  a9 := Tryd.isAgg9
  z9 := Tryd.sizeOf9
  v9 := Tryd.zeroValue9 }
open Go.RowKit in
theorem Tryd.strings_IndexByte (s : ByteArray) (c : Int) (w : World) :
    Calls Tryd.prog 85 #[.string s, .int .u8 c] w fun e w' => e = .returned (.int .i64 (Lib.indexByte s.data.toList c.toNat.toUInt8)) ∧ w' = w := Any.strings_IndexByte Tryd.lays137 s c w
end Go.Proofs
namespace Go.Proofs.YtndcmapifihgeaaDoor.Tg
open Go.RowKit Go.Lib
open Ch (at0 good)

theorem ixB_none : ∀ (st : List UInt8) (b : UInt8), b ∉ st → Lib.indexByte st b = -1
  | [], _, _ => rfl
  | a :: r, b, h => by
    have h1 : (a == b) = false := by simp; exact fun e => h (by simp [e])
    have h2 := ixB_none r b (fun k => h (List.mem_cons_of_mem _ k))
    unfold Lib.indexByte
    rw [h1, h2]
    rfl
theorem ixB_some : ∀ (st : List UInt8) (b : UInt8), b ∈ st → 0 ≤ Lib.indexByte st b
  | [], _, h => by cases h
  | a :: r, b, h => by
    unfold Lib.indexByte
    cases h1 : (a == b) with
    | true => simp
    | false =>
      have : b ∈ r := by
        rcases List.mem_cons.1 h with e | e
        · exact absurd e (by simp at h1; exact fun k => h1 k.symm)
        · exact e
      have h2 := ixB_some r b this
      simp only [Bool.false_eq_true, if_false]
      split
      · rename_i k
        simp at k
        omega
      · omega

set_option maxHeartbeats 2000000 in
set_option maxRecDepth 100000 in
/-- a character below 128 -/
theorem cr_low (st : List UInt8) (c : Nat) (w : World) (hc : c < 128) :
    Calls Tryd.prog 68 #[.string ⟨st.toArray⟩, .int .i32 (c : Int)] w fun e w' => e = .returned (.bool (decide (c.toUInt8 ∈ st))) ∧ w' = w := by
  have h1 : (c : Int) < 128 := by omega
  have h0 : (0 : Int) ≤ (c : Int) := by omega
  have cI : Calls Tryd.prog 79 #[.string ⟨st.toArray⟩, .int .i32 (c : Int)] w fun e w' => e = .returned (.int .i64 (Lib.indexByte st c.toUInt8)) ∧ w' = w := by
    have cB := Tryd.strings_IndexByte ⟨st.toArray⟩ (c : Int) w
    simp only [Int.toNat_natCast] at cB
    go_enter Tryd.func79, Tryd.ntmps79
    go_wp2_with fail
    refine cB.mono ?_
    rintro e w' ⟨rfl, rfl⟩
    go_wp2
    go_ret
    exact ⟨rfl, rfl⟩
  by_cases hm : c.toUInt8 ∈ st
  · have hs := ixB_some st _ hm
    rw [decide_eq_true hm]
    generalize Lib.indexByte st c.toUInt8 = Z at cI hs
    clear hm
    go_enter Tryd.func68, Tryd.ntmps68
    go_wp2_with fail
    refine cI.mono ?_
    rintro e w' ⟨rfl, rfl⟩
    go_wp2
    go_ret
    exact ⟨by simp, rfl⟩
  · rw [ixB_none st _ hm] at cI
    rw [decide_eq_false hm]
    clear hm
    go_enter Tryd.func68, Tryd.ntmps68
    go_wp2_with fail
    refine cI.mono ?_
    rintro e w' ⟨rfl, rfl⟩
    go_wp2
    go_ret
    exact ⟨rfl, rfl⟩

def CrRel (st : List UInt8) (w : World) (gf : Nat) (wr : World) : Prop :=
  ∃ pos : Nat, wr.heap[w.heap.size]? = some (.stringIter ⟨st.toArray⟩ pos) ∧ Below w.heap.size w wr ∧ st.length ≤ pos + gf

set_option maxHeartbeats 2000000 in
set_option maxRecDepth 100000 in
theorem ir_bad (st : List UInt8) (w : World) (ha : ∀ j, Kl.at0 st j < 128) :
    Calls Tryd.prog 79 #[.string ⟨st.toArray⟩, .int .i32 65533] w fun e w' => e = .returned (.int .i64 (-1)) ∧ Below w.heap.size w w' := by
  go_enter Tryd.func79, Tryd.ntmps79
  go_wp2
  go_loopg [] st.length (fun gf wx => CrRel st w gf wx)
  case atStart => exact ⟨0, World.iter_heap w _ 0, (Below.refl _ w).alloc (Nat.le_refl _) _, by omega⟩
  case round =>
    obtain ⟨pos, hit, hbw, hfu⟩ := hrel
    by_cases hps : pos < st.length
    · obtain ⟨g', rfl⟩ : ∃ g', gk = g' + 1 := ⟨gk - 1, by omega⟩
      have hnx : ∀ ty, (Instr.next (.pointer (some ⟨w.heap.size, 0, none⟩)) true ty).run Tryd.prog wr = _ := fun ty => Lib.run_next_any_at wr w.heap.size ⟨st.toArray⟩ pos ty hit (by rw [Kl.str_size]; exact hps)
      rw [Kl.decode_dec, Kl.dec_ascii (ha pos)] at hnx
      simp only at hnx
      have hit2 := Lib.iterAt_heap wr w.heap.size ⟨st.toArray⟩ pos (pos + 1) hit
      have hbw2 := Lib.below_iterAt hbw (k := w.heap.size) (Nat.le_refl _) ⟨st.toArray⟩ (pos + 1)
      obtain ⟨V, hV⟩ : ∃ V, wr.iterAt w.heap.size ⟨st.toArray⟩ (pos + 1) = V := ⟨_, rfl⟩
      rw [hV] at hnx hit2 hbw2
      have hlt := ha pos
      have hne : (((Kl.at0 st pos : Nat) : Int) == 65533) = false := by simp; omega
      generalize Kl.at0 st pos = c at hnx hne
      clear hV hlt
      go_wp2
      go_roundg g'
      case measure => omega
      case rel => exact ⟨pos + 1, hit2, hbw2, by omega⟩
    · have hnx : ∀ ty, (Instr.next (.pointer (some ⟨w.heap.size, 0, none⟩)) true ty).run Tryd.prog wr = _ := fun ty => Lib.run_next_end_at wr w.heap.size _ pos ty hit (by rw [Kl.str_size]; exact hps)
      go_wp2
      go_ret
      exact ⟨rfl, hbw⟩

theorem enc_last {c : Nat} (h : good c) (h1 : 128 ≤ c) : 2 ≤ (encodeRune (c : Int)).length ∧ (encodeRune (c : Int)).length ≤ 4 ∧ 128 ≤ at0 (encodeRune (c : Int)) ((encodeRune (c : Int)).length - 1) := by
  rcases Ch.good_cases h with k | k | k | k
  · omega
  · rw [Ch.enc_two c k.1 k.2]
    refine ⟨by simp, by simp, ?_⟩
    have : at0 [(192 + (c : Int) / 64).toNat.toUInt8, (128 + (c : Int) % 64).toNat.toUInt8] 1 = 128 + c % 64 := Ch.z8 _ _ (by omega) (by omega)
    show 128 ≤ at0 _ 1
    omega
  · rw [Ch.enc_three c k]
    refine ⟨by simp, by simp, ?_⟩
    have : at0 [(224 + (c : Int) / 4096).toNat.toUInt8, (128 + (c : Int) / 64 % 64).toNat.toUInt8, (128 + (c : Int) % 64).toNat.toUInt8] 2 = 128 + c % 64 := Ch.z8 _ _ (by omega) (by omega)
    show 128 ≤ at0 _ 2
    omega
  · rw [Ch.enc_four c k.1 k.2]
    refine ⟨by simp, by simp, ?_⟩
    have : at0 [(240 + (c : Int) / 262144).toNat.toUInt8, (128 + (c : Int) / 4096 % 64).toNat.toUInt8, (128 + (c : Int) / 64 % 64).toNat.toUInt8, (128 + (c : Int) % 64).toNat.toUInt8] 3 = 128 + c % 64 := Ch.z8 _ _ (by omega) (by omega)
    show 128 ≤ at0 _ 3
    omega

set_option maxHeartbeats 1000000 in
theorem valid_any (c : Nat) (w : World) (hg : good c) : Calls Tryd.prog 86 #[.int .i32 (c : Int)] w fun e w' => e = .returned (.bool true) ∧ w = w' := by
  unfold good at hg
  by_cases h : c < 55296
  · have t1 : (c : Int) < 55296 := by omega
    go_enter Tryd.func86, Tryd.ntmps86
    go_wp2
    go_ret
    exact ⟨rfl, rfl⟩
  · have t1 : ¬ ((c : Int) < 55296) := by omega
    have t2 : (57343 : Int) < (c : Int) := by omega
    have t3 : (c : Int) ≤ 1114111 := by omega
    go_enter Tryd.func86, Tryd.ntmps86
    go_wp2
    go_ret
    exact ⟨rfl, rfl⟩

theorem idx_str (m : List UInt8) (i : Nat) (h : i < (⟨m.toArray⟩ : ByteArray).size) : ((⟨m.toArray⟩ : ByteArray)[i]'h).toNat = at0 m i := by
  have hs : (⟨m.toArray⟩ : ByteArray).size = m.length := by simp [ByteArray.size]
  unfold at0
  rw [List.getD_eq_getElem?_getD, List.getElem?_eq_getElem (by omega)]
  rfl

theorem sub_mem {st : List UInt8} {i j : Nat} {b : UInt8} (h : b ∈ ((⟨st.toArray⟩ : ByteArray).extract i j).data.toList) : b ∈ st := by
  rw [ByteArray.data_extract] at h
  simp only [Array.toList_extract] at h
  exact List.mem_of_mem_drop (List.mem_of_mem_take h)

theorem ixB_high (s : ByteArray) (d : Nat) (w : World) (hd : 128 ≤ d) (hd2 : d < 256) (h : ∀ b ∈ s.data.toList, b.toNat < 128) :
    Calls Tryd.prog 85 #[.string s, .int .u8 (d : Int)] w fun e w' => e = .returned (.int .i64 (-1)) ∧ w' = w := by
  have := Tryd.strings_IndexByte s (d : Int) w
  rw [ixB_none] at this
  · exact this
  · intro hm
    have h1 := h _ hm
    rw [Ch.z8 _ d rfl hd2] at h1
    omega


set_option maxHeartbeats 2000000 in
set_option maxRecDepth 100000 in
theorem ir2_1 (c : Nat) (q : List UInt8) (w : World) (hcv : ∀ w, (convert 21 9 (.int .i32 (c : Int))).run Tryd.prog w = .ok (.string ⟨q.toArray⟩) w) (hg : good c) (h1 : 128 ≤ c) (h2 : c ≠ 65533) (hn : q.length = 1 + 1) (_h3 : 128 ≤ at0 q 1) :
    Calls Tryd.prog 79 #[.string ⟨#[47, 62]⟩, .int .i32 (c : Int)] w fun e w' => e = .returned (.int .i64 (-1)) ∧ Below w.heap.size w w' := by
  have t1 : ¬ ((c : Int) < 128) := by omega
  have t2 : ((c : Int) == 65533) = false := by simp; omega
  have hlq : (⟨q.toArray⟩ : ByteArray).size = 1 + 1 := by simp [ByteArray.size, hn]
  have hz2 : 1 < (⟨q.toArray⟩ : ByteArray).size := by omega
  have i2 := idx_str q 1 hz2
  have hd2 : at0 q 1 < 256 := Ch.at0_lt _ _
  have HG := Lib.hid hg
  have h3 := _h3
  clear hn _h3
  generalize at0 q 1 = D at i2 h3 hd2
  go_enter Tryd.func79, Tryd.ntmps79
  go_wp2_with fail
  refine (valid_any c w HG.out).mono ?_
  rintro e w1 ⟨rfl, rfl⟩
  clear hg h2
  go_wp2
  go_step3
  go_wp2
  go_loop [9] (fun v => v = .int .i64 1) (fun _ => 0)
  case atStart => rfl
  case round =>
    subst hrel
    have hne : (((((⟨#[47, 62]⟩ : ByteArray)[1]'(by decide)).toNat : Nat) : Int) != (D : Int)) = true := by
      show (((62 : Nat) : Int) != (D : Int)) = true
      simp
      omega
    have hwr : IntKind.i64.wrap 2 = 2 := by decide
    have hsl : ∀ w : World, (Instr.slice 9 (.string ⟨#[47, 62]⟩) (some (.int .i64 2)) none none).run Tryd.prog w = .ok (.string ⟨#[]⟩) w := by
      intro w
      simp only [Instr.slice, go_sem]
      go_simp
      rfl
    have hcB := fun w => ixB_high ⟨#[]⟩ D w h3 hd2 (by decide)
    go_wp2_with fail
    go_step3
    go_wp2_with fail
    go_quiet (fail)
    go_wp2_with fail
    go_quiet (first | (go_at_call 85; refine (hcB _).mono ?_; rintro e w' ⟨rfl, rfl⟩; exact ⟨rfl, _, rfl⟩))
    go_wp2
    rw [Exit.noGoto_ret]
    go_wp2
    rw [Exit.noGoto_ret]
    go_wp2
    go_ret
    exact ⟨rfl, At.below_drewN (Below.refl _ _) _⟩

set_option maxHeartbeats 2000000 in
set_option maxRecDepth 100000 in
theorem ir2_2 (c : Nat) (q : List UInt8) (w : World) (hcv : ∀ w, (convert 21 9 (.int .i32 (c : Int))).run Tryd.prog w = .ok (.string ⟨q.toArray⟩) w) (hg : good c) (h1 : 128 ≤ c) (h2 : c ≠ 65533) (hn : q.length = 2 + 1) (_h3 : 128 ≤ at0 q 2) :
    Calls Tryd.prog 79 #[.string ⟨#[47, 62]⟩, .int .i32 (c : Int)] w fun e w' => e = .returned (.int .i64 (-1)) ∧ Below w.heap.size w w' := by
  have t1 : ¬ ((c : Int) < 128) := by omega
  have t2 : ((c : Int) == 65533) = false := by simp; omega
  have hlq : (⟨q.toArray⟩ : ByteArray).size = 2 + 1 := by simp [ByteArray.size, hn]
  have hz2 : 2 < (⟨q.toArray⟩ : ByteArray).size := by omega
  have i2 := idx_str q 2 hz2
  have hd2 : at0 q 2 < 256 := Ch.at0_lt _ _
  have HG := Lib.hid hg
  have h3 := _h3
  clear hn _h3
  generalize at0 q 2 = D at i2 h3 hd2
  go_enter Tryd.func79, Tryd.ntmps79
  go_wp2_with fail
  refine (valid_any c w HG.out).mono ?_
  rintro e w1 ⟨rfl, rfl⟩
  clear hg h2
  go_wp2
  go_step3
  go_wp2
  go_loop [9] (fun v => v = .int .i64 2) (fun _ => 0)
  case atStart => rfl
  case round =>
    subst hrel
    go_wp2
    go_ret
    exact ⟨rfl, Below.refl _ _⟩

set_option maxHeartbeats 2000000 in
set_option maxRecDepth 100000 in
theorem ir2_3 (c : Nat) (q : List UInt8) (w : World) (hcv : ∀ w, (convert 21 9 (.int .i32 (c : Int))).run Tryd.prog w = .ok (.string ⟨q.toArray⟩) w) (hg : good c) (h1 : 128 ≤ c) (h2 : c ≠ 65533) (hn : q.length = 3 + 1) (_h3 : 128 ≤ at0 q 3) :
    Calls Tryd.prog 79 #[.string ⟨#[47, 62]⟩, .int .i32 (c : Int)] w fun e w' => e = .returned (.int .i64 (-1)) ∧ Below w.heap.size w w' := by
  have t1 : ¬ ((c : Int) < 128) := by omega
  have t2 : ((c : Int) == 65533) = false := by simp; omega
  have hlq : (⟨q.toArray⟩ : ByteArray).size = 3 + 1 := by simp [ByteArray.size, hn]
  have hz2 : 3 < (⟨q.toArray⟩ : ByteArray).size := by omega
  have i2 := idx_str q 3 hz2
  have hd2 : at0 q 3 < 256 := Ch.at0_lt _ _
  have HG := Lib.hid hg
  have h3 := _h3
  clear hn _h3
  generalize at0 q 3 = D at i2 h3 hd2
  go_enter Tryd.func79, Tryd.ntmps79
  go_wp2_with fail
  refine (valid_any c w HG.out).mono ?_
  rintro e w1 ⟨rfl, rfl⟩
  clear hg h2
  go_wp2
  go_step3
  go_wp2
  go_loop [9] (fun v => v = .int .i64 3) (fun _ => 0)
  case atStart => rfl
  case round =>
    subst hrel
    go_wp2
    go_ret
    exact ⟨rfl, Below.refl _ _⟩

set_option maxHeartbeats 2000000 in
set_option maxRecDepth 100000 in
theorem ir3_1 (c : Nat) (q : List UInt8) (w : World) (hcv : ∀ w, (convert 21 9 (.int .i32 (c : Int))).run Tryd.prog w = .ok (.string ⟨q.toArray⟩) w) (hg : good c) (h1 : 128 ≤ c) (h2 : c ≠ 65533) (hn : q.length = 1 + 1) (_h3 : 128 ≤ at0 q 1) :
    Calls Tryd.prog 79 #[.string ⟨#[47, 62, 61]⟩, .int .i32 (c : Int)] w fun e w' => e = .returned (.int .i64 (-1)) ∧ Below w.heap.size w w' := by
  have t1 : ¬ ((c : Int) < 128) := by omega
  have t2 : ((c : Int) == 65533) = false := by simp; omega
  have hlq : (⟨q.toArray⟩ : ByteArray).size = 1 + 1 := by simp [ByteArray.size, hn]
  have hz2 : 1 < (⟨q.toArray⟩ : ByteArray).size := by omega
  have i2 := idx_str q 1 hz2
  have hd2 : at0 q 1 < 256 := Ch.at0_lt _ _
  have HG := Lib.hid hg
  have h3 := _h3
  clear hn _h3
  generalize at0 q 1 = D at i2 h3 hd2
  go_enter Tryd.func79, Tryd.ntmps79
  go_wp2_with fail
  refine (valid_any c w HG.out).mono ?_
  rintro e w1 ⟨rfl, rfl⟩
  clear hg h2
  go_wp2
  go_step3
  go_wp2
  go_loop [9] (fun v => v = .int .i64 1) (fun _ => 0)
  case atStart => rfl
  case round =>
    subst hrel
    have hne : (((((⟨#[47, 62, 61]⟩ : ByteArray)[1]'(by decide)).toNat : Nat) : Int) != (D : Int)) = true := by
      show (((62 : Nat) : Int) != (D : Int)) = true
      simp
      omega
    have hwr : IntKind.i64.wrap 2 = 2 := by decide
    have hsl : ∀ w : World, (Instr.slice 9 (.string ⟨#[47, 62, 61]⟩) (some (.int .i64 2)) none none).run Tryd.prog w = .ok (.string ⟨#[61]⟩) w := by
      intro w
      simp only [Instr.slice, go_sem]
      go_simp
      rfl
    have hcB := fun w => ixB_high ⟨#[61]⟩ D w h3 hd2 (by decide)
    go_wp2_with fail
    go_step3
    go_wp2_with fail
    go_quiet (fail)
    go_wp2_with fail
    go_quiet (first | (go_at_call 85; refine (hcB _).mono ?_; rintro e w' ⟨rfl, rfl⟩; exact ⟨rfl, _, rfl⟩))
    go_wp2
    rw [Exit.noGoto_ret]
    go_wp2
    rw [Exit.noGoto_ret]
    go_wp2
    go_ret
    exact ⟨rfl, At.below_drewN (Below.refl _ _) _⟩

set_option maxHeartbeats 2000000 in
set_option maxRecDepth 100000 in
theorem ir3_2 (c : Nat) (q : List UInt8) (w : World) (hcv : ∀ w, (convert 21 9 (.int .i32 (c : Int))).run Tryd.prog w = .ok (.string ⟨q.toArray⟩) w) (hg : good c) (h1 : 128 ≤ c) (h2 : c ≠ 65533) (hn : q.length = 2 + 1) (_h3 : 128 ≤ at0 q 2) :
    Calls Tryd.prog 79 #[.string ⟨#[47, 62, 61]⟩, .int .i32 (c : Int)] w fun e w' => e = .returned (.int .i64 (-1)) ∧ Below w.heap.size w w' := by
  have t1 : ¬ ((c : Int) < 128) := by omega
  have t2 : ((c : Int) == 65533) = false := by simp; omega
  have hlq : (⟨q.toArray⟩ : ByteArray).size = 2 + 1 := by simp [ByteArray.size, hn]
  have hz2 : 2 < (⟨q.toArray⟩ : ByteArray).size := by omega
  have i2 := idx_str q 2 hz2
  have hd2 : at0 q 2 < 256 := Ch.at0_lt _ _
  have HG := Lib.hid hg
  have h3 := _h3
  clear hn _h3
  generalize at0 q 2 = D at i2 h3 hd2
  go_enter Tryd.func79, Tryd.ntmps79
  go_wp2_with fail
  refine (valid_any c w HG.out).mono ?_
  rintro e w1 ⟨rfl, rfl⟩
  clear hg h2
  go_wp2
  go_step3
  go_wp2
  go_loop [9] (fun v => v = .int .i64 2) (fun _ => 0)
  case atStart => rfl
  case round =>
    subst hrel
    have hne : (((((⟨#[47, 62, 61]⟩ : ByteArray)[2]'(by decide)).toNat : Nat) : Int) != (D : Int)) = true := by
      show (((61 : Nat) : Int) != (D : Int)) = true
      simp
      omega
    have hwr : IntKind.i64.wrap 3 = 3 := by decide
    have hsl : ∀ w : World, (Instr.slice 9 (.string ⟨#[47, 62, 61]⟩) (some (.int .i64 3)) none none).run Tryd.prog w = .ok (.string ⟨#[]⟩) w := by
      intro w
      simp only [Instr.slice, go_sem]
      go_simp
      rfl
    have hcB := fun w => ixB_high ⟨#[]⟩ D w h3 hd2 (by decide)
    go_wp2_with fail
    go_step3
    go_wp2_with fail
    go_quiet (fail)
    go_wp2_with fail
    go_quiet (first | (go_at_call 85; refine (hcB _).mono ?_; rintro e w' ⟨rfl, rfl⟩; exact ⟨rfl, _, rfl⟩))
    go_wp2
    rw [Exit.noGoto_ret]
    go_wp2
    rw [Exit.noGoto_ret]
    go_wp2
    go_ret
    exact ⟨rfl, At.below_drewN (Below.refl _ _) _⟩

set_option maxHeartbeats 2000000 in
set_option maxRecDepth 100000 in
theorem ir3_3 (c : Nat) (q : List UInt8) (w : World) (hcv : ∀ w, (convert 21 9 (.int .i32 (c : Int))).run Tryd.prog w = .ok (.string ⟨q.toArray⟩) w) (hg : good c) (h1 : 128 ≤ c) (h2 : c ≠ 65533) (hn : q.length = 3 + 1) (_h3 : 128 ≤ at0 q 3) :
    Calls Tryd.prog 79 #[.string ⟨#[47, 62, 61]⟩, .int .i32 (c : Int)] w fun e w' => e = .returned (.int .i64 (-1)) ∧ Below w.heap.size w w' := by
  have t1 : ¬ ((c : Int) < 128) := by omega
  have t2 : ((c : Int) == 65533) = false := by simp; omega
  have hlq : (⟨q.toArray⟩ : ByteArray).size = 3 + 1 := by simp [ByteArray.size, hn]
  have hz2 : 3 < (⟨q.toArray⟩ : ByteArray).size := by omega
  have i2 := idx_str q 3 hz2
  have hd2 : at0 q 3 < 256 := Ch.at0_lt _ _
  have HG := Lib.hid hg
  have h3 := _h3
  clear hn _h3
  generalize at0 q 3 = D at i2 h3 hd2
  go_enter Tryd.func79, Tryd.ntmps79
  go_wp2_with fail
  refine (valid_any c w HG.out).mono ?_
  rintro e w1 ⟨rfl, rfl⟩
  clear hg h2
  go_wp2
  go_step3
  go_wp2
  go_loop [9] (fun v => v = .int .i64 3) (fun _ => 0)
  case atStart => rfl
  case round =>
    subst hrel
    go_wp2
    go_ret
    exact ⟨rfl, Below.refl _ _⟩

theorem ir2_high (c : Nat) (w : World) (hg : good c) (h1 : 128 ≤ c) :
    Calls Tryd.prog 79 #[.string ⟨#[47, 62]⟩, .int .i32 (c : Int)] w fun e w' => e = .returned (.int .i64 (-1)) ∧ Below w.heap.size w w' := by
  by_cases h2 : c = 65533
  · subst h2
    exact ir_bad [47, 62] w (fun j => by
      rcases Nat.lt_or_ge j ([47, 62] : List UInt8).length with k | k
      · exact (by decide : ∀ j, j < ([47, 62] : List UInt8).length → Kl.at0 [47, 62] j < 128) j k
      · unfold Kl.at0
        rw [List.getD_eq_getElem?_getD, List.getElem?_eq_none k]
        decide)
  · have hgg := hg
    unfold good at hgg
    have hcv := fun w => conv_rune c (by unfold ok; omega) w
    obtain ⟨e1, e2, e3⟩ := enc_last hg h1
    rcases (by omega : (encodeRune (c : Int)).length = 1 + 1 ∨ (encodeRune (c : Int)).length = 2 + 1 ∨ (encodeRune (c : Int)).length = 3 + 1) with k | k | k
    · rw [k] at e3; exact ir2_1 c _ w hcv hg h1 h2 k e3
    · rw [k] at e3; exact ir2_2 c _ w hcv hg h1 h2 k e3
    · rw [k] at e3; exact ir2_3 c _ w hcv hg h1 h2 k e3

theorem toU8_mem {st : List UInt8} {c : Nat} (hc : c < 256) : (c.toUInt8 ∈ st) ↔ st.any (fun b => b.toNat == c) = true := by
  rw [List.any_eq_true]
  constructor
  · intro h
    exact ⟨_, h, by simp [Ch.u8_small c hc]⟩
  · rintro ⟨b, hb, he⟩
    have : b = c.toUInt8 := by
      apply UInt8.toNat_inj.1
      simp at he
      rw [he]
      exact (Ch.u8_small c hc).symm
    rw [← this]
    exact hb

set_option maxHeartbeats 2000000 in
/-- is a character among these? -/
theorem cr2 (c : Nat) (w : World) (hg : good c) :
    Calls Tryd.prog 68 #[.string ⟨#[47, 62]⟩, .int .i32 (c : Int)] w fun e w' => e = .returned (.bool ([47, 62].any (fun b : UInt8 => b.toNat == c))) ∧ Below w.heap.size w w' := by
  by_cases h : c < 128
  · refine (cr_low [47, 62] c w h).mono ?_
    rintro e w' ⟨rfl, rfl⟩
    refine ⟨?_, Below.refl _ _⟩
    congr 2
    rw [Bool.eq_iff_iff, decide_eq_true_iff]
    exact toU8_mem (by omega)
  · have hb : [47, 62].any (fun b : UInt8 => b.toNat == c) = false := by
      simp
      omega
    rw [hb]
    have cI := ir2_high c w hg (by omega)
    go_enter Tryd.func68, Tryd.ntmps68
    go_wp2_with fail
    refine cI.mono ?_
    rintro e w' ⟨rfl, hb⟩
    go_wp2
    go_ret
    exact ⟨rfl, hb⟩

theorem ir3_high (c : Nat) (w : World) (hg : good c) (h1 : 128 ≤ c) :
    Calls Tryd.prog 79 #[.string ⟨#[47, 62, 61]⟩, .int .i32 (c : Int)] w fun e w' => e = .returned (.int .i64 (-1)) ∧ Below w.heap.size w w' := by
  by_cases h2 : c = 65533
  · subst h2
    exact ir_bad [47, 62, 61] w (fun j => by
      rcases Nat.lt_or_ge j ([47, 62, 61] : List UInt8).length with k | k
      · exact (by decide : ∀ j, j < ([47, 62, 61] : List UInt8).length → Kl.at0 [47, 62, 61] j < 128) j k
      · unfold Kl.at0
        rw [List.getD_eq_getElem?_getD, List.getElem?_eq_none k]
        decide)
  · have hgg := hg
    unfold good at hgg
    have hcv := fun w => conv_rune c (by unfold ok; omega) w
    obtain ⟨e1, e2, e3⟩ := enc_last hg h1
    rcases (by omega : (encodeRune (c : Int)).length = 1 + 1 ∨ (encodeRune (c : Int)).length = 2 + 1 ∨ (encodeRune (c : Int)).length = 3 + 1) with k | k | k
    · rw [k] at e3; exact ir3_1 c _ w hcv hg h1 h2 k e3
    · rw [k] at e3; exact ir3_2 c _ w hcv hg h1 h2 k e3
    · rw [k] at e3; exact ir3_3 c _ w hcv hg h1 h2 k e3

set_option maxHeartbeats 2000000 in
/-- is a character among these? -/
theorem cr3 (c : Nat) (w : World) (hg : good c) :
    Calls Tryd.prog 68 #[.string ⟨#[47, 62, 61]⟩, .int .i32 (c : Int)] w fun e w' => e = .returned (.bool ([47, 62, 61].any (fun b : UInt8 => b.toNat == c))) ∧ Below w.heap.size w w' := by
  by_cases h : c < 128
  · refine (cr_low [47, 62, 61] c w h).mono ?_
    rintro e w' ⟨rfl, rfl⟩
    refine ⟨?_, Below.refl _ _⟩
    congr 2
    rw [Bool.eq_iff_iff, decide_eq_true_iff]
    exact toU8_mem (by omega)
  · have hb : [47, 62, 61].any (fun b : UInt8 => b.toNat == c) = false := by
      simp
      omega
    rw [hb]
    have cI := ir3_high c w hg (by omega)
    go_enter Tryd.func68, Tryd.ntmps68
    go_wp2_with fail
    refine cI.mono ?_
    rintro e w' ⟨rfl, hb⟩
    go_wp2
    go_ret
    exact ⟨rfl, hb⟩
end Go.Proofs.YtndcmapifihgeaaDoor.Tg
