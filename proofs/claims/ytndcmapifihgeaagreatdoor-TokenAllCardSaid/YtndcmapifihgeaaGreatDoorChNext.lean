/- char.Next, and the reference's Next: the character at a byte of whatever bytes. -/
import Derived.Test.YtndcmapifihgeaaGreatDoorChNx
import Derived.Test.YtndcmapifihgeaaGreatDoorChBld
import Derived.WalkLawsBesides
namespace Go.Proofs.YtndcmapifihgeaaGreatDoor.Ch
open Go.RowKit Go.Lib

theorem cell_lt {w : World} {a : Addr} {v : Value} (hc : w.cell? a = some v) : a.block < w.heap.size := by
  rcases Nat.lt_or_ge a.block w.heap.size with h' | h'
  · exact h'
  · simp [World.cell?, Array.getElem?_eq_none h'] at hc

theorem Cells.below {l : List UInt8} {b off : Nat} {w w' : World} (h : Cells l b off w) (hb : Below w.heap.size w w') : Cells l b off w' :=
  fun j hj => (hb.cell (cell_lt (h j hj))).trans (h j hj)

theorem Cells.drop {l : List UInt8} {b off : Nat} {w : World} (h : Cells l b off w) (i : Nat) : Cells (l.drop i) b (off + i) w := by
  intro j hj
  simp only [List.length_drop] at hj
  rw [Nat.add_assoc, at0_drop]
  exact h (i + j) (by omega)

/-- how many bytes a line's end has -/
def lend (l : List UInt8) : Int := if 1 < l.length ∧ at0 l 1 = 10 then 2 else 1

theorem ret_int {k : IntKind} {a b : Int} (h : a = b) : Ending.returned (.int k a) = .returned (.int k b) := by rw [h]

set_option maxHeartbeats 400000 in
theorem lineEnd_any (l : List UInt8) (b off n cap : Nat) (w : World) (hn : l.length = n) (hc : Cells l b off w) :
    Calls Tryz.prog 69 #[.slice (some ⟨b, off, none⟩) n cap] w fun e w' => e = .returned (.int .i64 (lend l)) ∧ w = w' := by
  have HN := Lib.hid hn
  by_cases h : 1 < n
  · have hcell := hc 1 (by omega)
    clear hn
    have h1 : (1 : Int) < (n : Int) := by omega
    by_cases h2 : at0 l 1 = 10
    · have h3 : (((at0 l 1 : Nat) : Int) == 10) = true := by rw [h2]; rfl
      have e : lend l = 2 := if_pos ⟨by rw [HN.out]; exact h, h2⟩
      rw [e]
      clear h2 e
      go_enter Tryz.func69, Tryz.ntmps69
      go_wp2
      go_ret
      exact ⟨rfl, rfl⟩
    · have h3 : (((at0 l 1 : Nat) : Int) == 10) = false := by simp; omega
      have e : lend l = 1 := if_neg fun x => h2 x.2
      rw [e]
      clear h2 e
      go_enter Tryz.func69, Tryz.ntmps69
      go_wp2
      go_ret
      exact ⟨rfl, rfl⟩
  · have h1 : decide ((1 : Int) < (n : Int)) = false := by simp; omega
    have e : lend l = 1 := if_neg fun x => h (by rw [← hn]; exact x.1)
    rw [e]
    clear hn e
    go_enter Tryz.func69, Tryz.ntmps69
    go_wp2
    go_ret
    exact ⟨rfl, rfl⟩

/-- the program's answer -/
def nxAt (l : List UInt8) (x : Int) : Nat × Nat := if 0 ≤ x ∧ x < l.length then nx (l.drop x.toNat) else (0, 0)

set_option maxHeartbeats 400000 in
theorem next_out (a : Option Addr) (n cap : Nat) (x : Int) (w : World) (h : ¬ (0 ≤ x ∧ x < (n : Int))) :
    Calls Tryz.prog 49 #[.slice a n cap, .int .i64 x] w fun e w' => e = .returned (.tuple #[.int .i32 0, .int .i64 0]) ∧ w = w' := by
  by_cases h0 : x < 0
  · go_enter Tryz.func49, Tryz.ntmps49
    go_wp2
    go_ret2
    exact ⟨rfl, rfl⟩
  · have h1 : (n : Int) ≤ x := by omega
    have h0' : (0 : Int) ≤ x := by omega
    clear h h0
    go_enter Tryz.func49, Tryz.ntmps49
    go_wp2
    go_ret2
    exact ⟨rfl, rfl⟩

theorem list_bytes_get! (l : List UInt8) (j : Nat) : (((⟨l.toArray⟩ : ByteArray).get! j).toNat) = at0 l j := by
  simp [ByteArray.get!, at0, List.getD_eq_getElem?_getD]
  rfl

/-- Go's decoder at the bytes of a list -/
theorem decodeGo_list (l : List UInt8) (hl : l ≠ []) : Lib.decodeGo ⟨l.toArray⟩ = decodeN l.length (at0 l 0) (at0 l 1) (at0 l 2) (at0 l 3) := by
  have hs : (⟨l.toArray⟩ : ByteArray).size = l.length := by simp [ByteArray.size]
  unfold Lib.decodeGo
  rw [if_neg (by rw [hs]; cases l with | nil => exact absurd rfl hl | cons => simp), Lib.decode_at]
  simp only [list_bytes_get!, hs, Nat.sub_zero, Nat.zero_add]

theorem decodeRune_list (l : List UInt8) (b off n cap : Nat) (w : World) (hn : l.length = n) (hl : l ≠ []) (hc : Cells l b off w) (hT : Lib.Utf8Tabs 0 1 w) :
    Calls Tryz.prog 70 #[.slice (some ⟨b, off, none⟩) n cap] w fun e w' => e = .returned (.tuple #[.int .i32 (decodeN l.length (at0 l 0) (at0 l 1) (at0 l 2) (at0 l 3)).1, .int .i64 (decodeN l.length (at0 l 0) (at0 l 1) (at0 l 2) (at0 l 3)).2]) ∧ Below w.heap.size w w' := by
  have hs : (⟨l.toArray⟩ : ByteArray).size = l.length := by simp [ByteArray.size]
  have h := Tryz.utf8_DecodeRune ⟨l.toArray⟩ b off cap w hT (fun j hj => by rw [list_bytes_get!]; exact hc j (by rw [hs] at hj; exact hj))
  rw [decodeGo_list l hl, hs, hn] at h
  rw [hn]
  exact h

set_option maxHeartbeats 1000000 in
set_option maxRecDepth 100000 in
theorem next_in (l : List UInt8) (b off cap i : Nat) (w : World) (hc : Cells l b off w) (hi : i < l.length) (hcap : l.length ≤ cap) (hT : Lib.Utf8Tabs 0 1 w) :
    Calls Tryz.prog 49 #[.slice (some ⟨b, off, none⟩) l.length cap, .int .i64 (i : Int)] w fun e w' => e = .returned (.tuple #[.int .i32 ((nx (l.drop i)).1 : Nat), .int .i64 ((nx (l.drop i)).2 : Nat)]) ∧ Below w.heap.size w w' := by
  have hcell := hc i hi
  have h0 : ¬ ((i : Int) < 0) := by omega
  have h1 : (i : Int) < (l.length : Int) := by omega
  have hne : l.drop i ≠ [] := by
    intro e; have := congrArg List.length e; simp at this; omega
  have e0 : at0 (l.drop i) 0 = at0 l i := by rw [at0_drop]; rfl
  by_cases c0 : at0 l i = 0
  · have d0 : (((at0 l i : Nat) : Int) == 0) = true := by rw [c0]; rfl
    have e : nx (l.drop i) = (65533, 1) := by unfold nx; rw [e0, if_pos c0]
    rw [e]
    clear c0 e e0 hne
    go_enter Tryz.func49, Tryz.ntmps49
    go_wp2
    go_ret2
    exact ⟨rfl, Below.refl _ _⟩
  · have d0 : (((at0 l i : Nat) : Int) == 0) = false := by simp; omega
    by_cases c1 : at0 l i = 13
    · have d1 : (((at0 l i : Nat) : Int) == 13) = true := by rw [c1]; rfl
      have e : nx (l.drop i) = (10, if 1 < (l.drop i).length ∧ at0 (l.drop i) 1 = 10 then 2 else 1) := by unfold nx; rw [e0, if_neg c0, if_pos c1]
      have e' : ((nx (l.drop i)).2 : Int) = lend (l.drop i) := by
        rw [e]; unfold lend; simp only; split <;> rfl
      have e'' : (nx (l.drop i)).1 = 10 := by rw [e]
      rw [e', e'']
      clear c0 c1 e e' e'' e0 hne
      go_enter Tryz.func49, Tryz.ntmps49
      go_wp2_with fail
      refine (lineEnd_any (l.drop i) b (off + i) (l.length - i) (cap - i) w (by simp) (hc.drop i)).mono ?_
      rintro e w' ⟨rfl, rfl⟩
      go_wp2
      go_ret2
      exact ⟨rfl, Below.refl _ _⟩
    · have d1 : (((at0 l i : Nat) : Int) == 13) = false := by simp; omega
      have e : nx (l.drop i) = decodeN (l.drop i).length (at0 (l.drop i) 0) (at0 (l.drop i) 1) (at0 (l.drop i) 2) (at0 (l.drop i) 3) := by unfold nx; rw [e0, if_neg c0, if_neg c1]
      have hD := decodeRune_list (l.drop i) b (off + i) (l.length - i) (cap - i) w (by simp) hne (hc.drop i) hT
      rw [← e] at hD
      generalize nx (l.drop i) = R at hD ⊢
      clear c0 c1 e e0 hne
      go_enter Tryz.func49, Tryz.ntmps49
      go_wp2_with fail
      refine hD.mono ?_
      rintro e w' ⟨rfl, hb⟩
      go_wp2
      go_ret2
      exact ⟨rfl, hb⟩

/-- a slice of bytes, nil or not: its bytes are the list's -/
def Sl (l : List UInt8) (a : Option Addr) (cap : Nat) (w : World) : Prop := l.length ≤ cap ∧ (l = [] ∨ ∃ b off, a = some ⟨b, off, none⟩ ∧ Cells l b off w)

theorem Sl.below {l : List UInt8} {a : Option Addr} {cap : Nat} {w w' : World} (h : Sl l a cap w) (hb : Below w.heap.size w w') : Sl l a cap w' := by
  obtain ⟨h1, h2 | ⟨b, off, rfl, hc⟩⟩ := h
  · exact ⟨h1, Or.inl h2⟩
  · exact ⟨h1, Or.inr ⟨b, off, rfl, hc.below hb⟩⟩

/-- char.Next at any integer, of any slice of bytes. -/
theorem next_any (l : List UInt8) (a : Option Addr) (cap : Nat) (x : Int) (w : World) (hs : Sl l a cap w) (hT : Lib.Utf8Tabs 0 1 w) :
    Calls Tryz.prog 49 #[.slice a l.length cap, .int .i64 x] w fun e w' => e = .returned (.tuple #[.int .i32 ((nxAt l x).1 : Nat), .int .i64 ((nxAt l x).2 : Nat)]) ∧ Below w.heap.size w w' := by
  by_cases h : 0 ≤ x ∧ x < (l.length : Int)
  · have e : nxAt l x = nx (l.drop x.toNat) := if_pos h
    obtain ⟨hcap, h2 | ⟨b, off, rfl, hc⟩⟩ := hs
    · subst h2; simp at h; omega
    · obtain ⟨i, rfl⟩ : ∃ i : Nat, x = i := ⟨x.toNat, by omega⟩
      rw [e]
      exact next_in l b off cap i w hc (by omega) hcap hT
  · have e : nxAt l x = (0, 0) := if_neg h
    rw [e]
    refine (next_out a l.length cap x w h).mono ?_
    rintro e w' ⟨rfl, rfl⟩
    exact ⟨rfl, Below.refl _ _⟩



set_option maxHeartbeats 400000 in
theorem refNext_out (a : Option Addr) (n cap : Nat) (x : Int) (w : World) (h : ¬ (0 ≤ x ∧ x < (n : Int))) :
    Calls Tryz.prog 35 #[.slice a n cap, .int .i64 x] w fun e w' => e = .returned (.tuple #[.int .i64 0, .int .i64 0]) ∧ w = w' := by
  by_cases h0 : x < 0
  · go_enter Tryz.func35, Tryz.ntmps35
    go_wp2
    go_ret2
    exact ⟨rfl, rfl⟩
  · have h1 : (n : Int) ≤ x := by omega
    have h0' : (0 : Int) ≤ x := by omega
    clear h h0
    go_enter Tryz.func35, Tryz.ntmps35
    go_wp2
    go_ret2
    exact ⟨rfl, rfl⟩

set_option maxHeartbeats 1000000 in
set_option maxRecDepth 100000 in
theorem refNext_in (l : List UInt8) (b off cap i : Nat) (w : World) (hc : Cells l b off w) (hi : i < l.length) (hl : l.length ≤ 9223372036854775000) :
    Calls Tryz.prog 35 #[.slice (some ⟨b, off, none⟩) l.length cap, .int .i64 (i : Int)] w fun e w' => e = .returned (.tuple #[.int .i64 ((nx (l.drop i)).1 : Nat), .int .i64 ((nx (l.drop i)).2 : Nat)]) ∧ w = w' := by
  have hcell := hc i hi
  have h0 : ¬ ((i : Int) < 0) := by omega
  have h1 : (i : Int) < (l.length : Int) := by omega
  have e0 : at0 (l.drop i) 0 = at0 l i := by rw [at0_drop]; rfl
  by_cases c1 : at0 l i = 13
  · have d1 : (((at0 l i : Nat) : Int) == 13) = true := by rw [c1]; rfl
    have e : nx (l.drop i) = (10, if 1 < l.length - i ∧ at0 l (i + 1) = 10 then 2 else 1) := by
      unfold nx; rw [e0, if_neg (by omega), if_pos c1, at0_drop, List.length_drop]
    by_cases c2 : i + 1 < l.length
    · have hcell2 := hc (i + 1) c2
      have d2 : (i : Int) + 1 < (l.length : Int) := by omega
      by_cases c3 : at0 l (i + 1) = 10
      · have d3 : (((at0 l (i + 1) : Nat) : Int) == 10) = true := by rw [c3]; rfl
        rw [e, if_pos (by omega)]
        clear c1 c3 e e0
        go_enter Tryz.func35, Tryz.ntmps35
        go_wp2
        go_ret2
        exact ⟨rfl, rfl⟩
      · have d3 : (((at0 l (i + 1) : Nat) : Int) == 10) = false := by simp; omega
        rw [e, if_neg (by omega)]
        clear c1 c3 e e0
        go_enter Tryz.func35, Tryz.ntmps35
        go_wp2
        go_ret2
        exact ⟨rfl, rfl⟩
    · have d2 : decide ((i : Int) + 1 < (l.length : Int)) = false := by simp; omega
      rw [e, if_neg (by omega)]
      clear c1 e e0
      go_enter Tryz.func35, Tryz.ntmps35
      go_wp2
      go_ret2
      exact ⟨rfl, rfl⟩
  · have d1 : (((at0 l i : Nat) : Int) == 13) = false := by simp; omega
    have hm := utf_nx l i c1
    have hU := utf_any l b off cap i w hc hl hi
    generalize utfR l i = R at hm hU
    generalize nx (l.drop i) = N at hm ⊢
    obtain ⟨r1, r2⟩ := R
    clear c1 e0
    unfold mend at hm
    by_cases z2 : r2 = 0
    · have k2 : ((r2 : Int) == 0) = true := by simp [z2]
      rw [if_pos (Or.inl z2)] at hm
      have HM := Lib.hid hm
      clear hm z2
      go_enter Tryz.func35, Tryz.ntmps35
      go_wp2_with fail
      refine hU.mono ?_
      rintro e w' ⟨rfl, rfl⟩
      go_wp2
      go_ret2
      exact ⟨ret_two (congrArg Prod.fst HM.out) (congrArg Prod.snd HM.out), rfl⟩
    · have k2 : ((r2 : Int) == 0) = false := by simpa using z2
      by_cases z1 : r1 = 0
      · have k1 : ((r1 : Int) == 0) = true := by simp [z1]
        rw [if_pos (Or.inr z1)] at hm
        have HM := Lib.hid hm
        clear hm z2 z1
        go_enter Tryz.func35, Tryz.ntmps35
        go_wp2_with fail
        refine hU.mono ?_
        rintro e w' ⟨rfl, rfl⟩
        go_wp2
        go_ret2
        exact ⟨ret_two (congrArg Prod.fst HM.out) (congrArg Prod.snd HM.out), rfl⟩
      · have k1 : ((r1 : Int) == 0) = false := by simpa using z1
        rw [if_neg (by simp [z1, z2])] at hm
        have HM := Lib.hid hm
        clear hm z2 z1
        go_enter Tryz.func35, Tryz.ntmps35
        go_wp2_with fail
        refine hU.mono ?_
        rintro e w' ⟨rfl, rfl⟩
        go_wp2
        go_ret2
        exact ⟨ret_two (congrArg Prod.fst HM.out) (congrArg Prod.snd HM.out), rfl⟩

theorem refNext_any (l : List UInt8) (a : Option Addr) (cap : Nat) (x : Int) (w : World) (hs : Sl l a cap w) (hl : l.length ≤ 9223372036854775000) :
    Calls Tryz.prog 35 #[.slice a l.length cap, .int .i64 x] w fun e w' => e = .returned (.tuple #[.int .i64 ((nxAt l x).1 : Nat), .int .i64 ((nxAt l x).2 : Nat)]) ∧ w = w' := by
  by_cases h : 0 ≤ x ∧ x < (l.length : Int)
  · have e : nxAt l x = nx (l.drop x.toNat) := if_pos h
    obtain ⟨hcap, h2 | ⟨b, off, rfl, hc⟩⟩ := hs
    · subst h2; simp at h; omega
    · obtain ⟨i, rfl⟩ : ∃ i : Nat, x = i := ⟨x.toNat, by omega⟩
      rw [e]
      exact refNext_in l b off cap i w hc (by omega) hl
  · have e : nxAt l x = (0, 0) := if_neg h
    rw [e]
    exact refNext_out a l.length cap x w h
end Go.Proofs.YtndcmapifihgeaaGreatDoor.Ch
