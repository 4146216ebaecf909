/- The law CharClean, walked. -/
import Derived.Test.YtfodfjjhlbpniaaDoorLAll
import Derived.Test.YtfodfjjhlbpniaaDoorValid
import Derived.Test.YtfodfjjhlbpniaaDoorShelfV
namespace Go.Proofs.YtfodfjjhlbpniaaDoor
open Go.RowKit Go.Lib

/-- what is known of what came of all bytes -/
structure Came (l S : List UInt8) : Prop where
  valid : validD S = true
  clean : (allFrom S 0 S.length == S) = true
  len : S.length ≤ 3 * l.length
  bytes : ∀ i, i < S.length → at0 S i ≠ 0 ∧ at0 S i ≠ 13
  plain : (S == l) = (validD l && noBad l)

theorem came (l : List UInt8) : Came l (allFrom l 0 l.length) := by
  have hg := whole_good l
  refine ⟨hg.valid, ?_, ?_, ?_, ?_⟩
  · rw [allFrom_whole (allFrom l 0 l.length), hg.own _ (Nat.le_refl _)]; simp
  · rw [allFrom_whole]; exact allN_len3 l.length l _ (Nat.le_refl _)
  · intro i hi
    have := hg.bytes ((allFrom l 0 l.length)[i]) (List.getElem_mem _)
    unfold at0
    rw [List.getD_eq_getElem?_getD, List.getElem?_eq_getElem hi]
    exact this
  · rw [Bool.eq_iff_iff, beq_iff_eq, own_iff, Bool.and_eq_true]

theorem noBad_snoc (l : List UInt8) (k : Nat) (h : k < l.length) : noBad (l.take (k + 1)) = (noBad (l.take k) && (at0 l k != 0 && at0 l k != 13)) := by
  rw [List.take_succ_eq_append_getElem h]
  unfold noBad
  rw [List.all_append]
  simp [at0, List.getD_eq_getElem?_getD, List.getElem?_eq_getElem h]

/-- what the law's variable plain holds behind so many bytes -/
def plainB (l : List UInt8) (k : Nat) : Bool := validD l && noBad (l.take k)
theorem plainB_zero (l : List UInt8) : plainB l 0 = validD l := by simp [plainB, noBad]
theorem plainB_stop (l : List UInt8) (k : Nat) (h : k < l.length) (hp : plainB l k = false) : plainB l (k + 1) = false := by
  unfold plainB at hp ⊢; rw [noBad_snoc l k h, ← Bool.and_assoc, hp]; rfl
theorem plainB_bad (l : List UInt8) (k : Nat) (h : k < l.length) (hb : at0 l k = 0 ∨ at0 l k = 13) : plainB l (k + 1) = false := by
  unfold plainB; rw [noBad_snoc l k h]; rcases hb with e | e <;> simp [e]
theorem plainB_on (l : List UInt8) (k : Nat) (h : k < l.length) (hp : plainB l k = true) (h0 : at0 l k ≠ 0) (h13 : at0 l k ≠ 13) : plainB l (k + 1) = true := by
  unfold plainB at hp ⊢; rw [noBad_snoc l k h, ← Bool.and_assoc, hp]; simp [h0, h13]
theorem plainB_end (l S : List UInt8) (h : Came l S) : plainB l l.length = (S == l) := by
  rw [h.plain]; unfold plainB; rw [List.take_length]

theorem validString_list (S : List UInt8) (w : World) (hT : Lib.Utf8Tabs 0 1 w) (hl : S.length ≤ 1000000) (hv : validD S = true) :
    Calls Tryd.prog 15 #[.string ⟨S.toArray⟩] w fun e w' => e = .returned (.bool true) ∧ Below w.heap.size w w' := by
  have := Tryd.utf8_ValidString ⟨S.toArray⟩ w (by rw [str_size]; omega) hT
  rw [hv] at this
  exact this

set_option maxHeartbeats 1000000 in
set_option maxRecDepth 100000 in
theorem charClean_long (n : Nat) (a : Option Addr) (cap : Nat) (w : World) (hT : Lib.Utf8Tabs 0 1 w) (h : 400 < n) :
    Calls Tryd.prog 5 #[.slice a n cap] w fun e w' => e = .returned (.bool true) ∧ Below w.heap.size w w' := by
  have h1 : (400 : Int) < (n : Int) := by omega
  go_enter Tryd.func5, Tryd.ntmps5
  go_wp2_with fail
  refine (speaks_any w hT).mono ?_
  rintro e w1 ⟨rfl, hb1⟩
  go_wp2_with fail
  refine (speaks_any w1 (Tabs_below hT hb1)).mono ?_
  rintro e w2 ⟨rfl, hb2⟩
  go_wp2
  go_ret
  exact ⟨rfl, hb1.trans (hb2.mono hb1.size)⟩

set_option maxHeartbeats 2000000 in
set_option maxRecDepth 100000 in
theorem charClean_walk (l : List UInt8) (a : Option Addr) (cap : Nat) (w : World) (hs : Sl l a cap w) (hT : Lib.Utf8Tabs 0 1 w) (h : l.length ≤ 400) :
    Calls Tryd.prog 5 #[.slice a l.length cap] w fun e w' => e = .returned (.bool true) ∧ Below w.heap.size w w' := by
  have h1 : ¬ ((400 : Int) < (l.length : Int)) := by omega
  have hA := fun w (hs : Sl l a cap w) (hT : Lib.Utf8Tabs 0 1 w) => all_any l a cap 0 l.length w hs hT (by omega)
  have hcame := came l
  have HCL := clean_bool l
  generalize allFrom l 0 l.length = S at hA hcame HCL
  have hlen := hcame.len
  go_enter Tryd.func5, Tryd.ntmps5
  go_wp2_with fail
  refine (speaks_any w hT).mono ?_
  rintro e w1 ⟨rfl, B1⟩
  go_wp2_with fail
  refine (hA w1 (hs.below B1) (Tabs_below hT B1)).mono ?_
  rintro e w2 ⟨rfl, b2⟩
  have B2 := B1.trans (b2.mono B1.size)
  clear hA
  go_wp2_with fail
  refine (validString_list S w2 (Tabs_below hT B2) (by omega) hcame.valid).mono ?_
  rintro e w3 ⟨rfl, b3⟩
  have B3 := B2.trans (b3.mono B2.size)
  have hC := clean_bool S w3 (Tabs_below hT B3) (by omega)
  rw [hcame.clean] at hC
  go_wp2_with fail
  refine hC.mono ?_
  rintro e w4 ⟨rfl, b4⟩
  have B4 := B3.trans (b4.mono B3.size)
  clear hC
  have q3 : ¬ (3 * (l.length : Int) < (S.length : Int)) := by omega
  obtain ⟨cap5, w5, hconv, s5, b5⟩ := bytes_of S w4
  have B5 := B4.trans (b5.mono B4.size)
  have hA5 := all_any S _ cap5 0 S.length w5 s5 (Tabs_below hT B5) (by omega)
  have hcl := hcame.clean
  generalize allFrom S 0 S.length = S2 at hA5 hcl
  go_wp2_with fail
  refine hA5.mono ?_
  rintro e w6 ⟨rfl, b6⟩
  have B6 := B5.trans (b6.mono B5.size)
  clear hA5 hconv s5
  go_wp2
  go_loop [47] (fun v => ∃ k : Nat, k ≤ S.length ∧ v = .int .i64 k) (fun v => S.length - (RowKit.intOf v).toNat)
  case atStart => exact ⟨0, by omega, rfl⟩
  case round =>
    obtain ⟨k, hk, rfl⟩ := hrel
    by_cases hlt : k < S.length
    · have hlt' : (k : Int) < (S.length : Int) := by omega
      have hby := hcame.bytes k hlt
      obtain ⟨x, hx⟩ : ∃ x, (⟨S.toArray⟩ : ByteArray)[k]'(by rw [str_size]; exact hlt) = x := ⟨_, rfl⟩
      have hxa : x.toNat = at0 S k := by
        rw [← hx]
        unfold at0
        rw [List.getD_eq_getElem?_getD, List.getElem?_eq_getElem hlt]
        rfl
      rw [← hxa] at hby
      have d0 : ((x.toNat : Int) == 0) = false := by simp; omega
      have d13 : ((x.toNat : Int) == 13) = false := by simp; omega
      clear hxa hby
      go_wp2
      go_round
      case rel => exact ⟨k + 1, by omega, by go_num⟩
      case measure => simp [RowKit.intOf]; omega
    · have hlt' : ¬ ((k : Int) < (S.length : Int)) := by omega
      have s6 := hs.below B6
      go_wp2_with fail
      refine (valid_any l a cap w6 s6 (Tabs_below hT B6) (by omega)).mono ?_
      rintro e w7 ⟨rfl, b7⟩
      have B7 := B6.trans (b7.mono B6.size)
      have s7 := hs.below B7
      go_wp2
      go_loop [5, 65] (fun v5 v => ∃ k : Nat, k ≤ l.length ∧ v = .int .i64 k ∧ v5 = .bool (plainB l k)) (fun _ v => l.length - (RowKit.intOf v).toNat)
      case atStart => exact ⟨0, by omega, rfl, by rw [plainB_zero]⟩
      case round =>
        obtain ⟨j, hj, rfl, rfl⟩ := hrel
        by_cases hjl : j < l.length
        · have hjl' : (j : Int) < (l.length : Int) := by omega
          have hex : ∃ b off, a = some ⟨b, off, none⟩ ∧ w7.cell? ⟨b, off + j, none⟩ = some (.int .u8 ((at0 l j : Nat) : Int)) := by
            obtain ⟨_, rfl | ⟨b, off, rfl, hc⟩⟩ := s7
            · simp at hjl
            · exact ⟨b, off, rfl, hc j hjl⟩
          obtain ⟨b, off, rfl, hcell⟩ := hex
          cases hp : plainB l j with
          | false =>
            have hn := Lib.hid (plainB_stop l j hjl hp)
            clear hp
            go_wp2
            go_round
            case rel => exact ⟨j + 1, by omega, by go_num, by rw [hn.out]⟩
            case measure => simp [RowKit.intOf]; omega
          | true =>
            by_cases z0 : at0 l j = 0
            · have y0 : (((at0 l j : Nat) : Int) != 0) = false := by simp [z0]
              have hn := Lib.hid (plainB_bad l j hjl (Or.inl z0))
              clear hp z0
              go_wp2
              go_round
              case rel => exact ⟨j + 1, by omega, by go_num, by rw [hn.out]⟩
              case measure => simp [RowKit.intOf]; omega
            · have y0 : (((at0 l j : Nat) : Int) != 0) = true := by simp; omega
              by_cases z13 : at0 l j = 13
              · have y13 : (((at0 l j : Nat) : Int) != 13) = false := by simp [z13]
                have hn := Lib.hid (plainB_bad l j hjl (Or.inr z13))
                clear hp z13 z0
                go_wp2
                go_round
                case rel => exact ⟨j + 1, by omega, by go_num, by rw [hn.out]⟩
                case measure => simp [RowKit.intOf]; omega
              · have y13 : (((at0 l j : Nat) : Int) != 13) = true := by simp; omega
                have hn := Lib.hid (plainB_on l j hjl hp z0 z13)
                clear hp z13 z0
                go_wp2
                go_round
                case rel => exact ⟨j + 1, by omega, by go_num, by rw [hn.out]⟩
                case measure => simp [RowKit.intOf]; omega
        · obtain rfl : j = l.length := by omega
          have hjl' : ¬ ((l.length : Int) < (l.length : Int)) := by omega
          have hpe := plainB_end l S hcame
          have hconv7 := string_sl s7
          have hC7 := HCL w7 (Tabs_below hT B7) (by omega)
          rw [hpe]
          cases hSl : (S == l) with
          | false =>
            rw [hSl] at hC7
            clear hpe
            go_wp2_with fail
            refine hC7.mono ?_
            rintro e w8 ⟨rfl, b8⟩
            have B8 := B7.trans (b8.mono B7.size)
            go_wp2
            go_ret
            exact ⟨rfl, B8⟩
          | true =>
            rw [hSl] at hC7
            clear hpe
            go_wp2_with fail
            refine hC7.mono ?_
            rintro e w8 ⟨rfl, b8⟩
            have B8 := B7.trans (b8.mono B7.size)
            have hconv8 := string_sl (hs.below B8)
            go_wp2
            go_ret
            exact ⟨rfl, B8⟩
end Go.Proofs.YtfodfjjhlbpniaaDoor
