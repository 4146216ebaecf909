/- bytes.Equal, bytes.HasPrefix and the program's has, walked. -/
import Derived.Test.YtplngoikjfimaaaTg
namespace Go.Proofs.Ytplngoikjfimaaa
open Go.RowKit Go.Lib

variable {l : List UInt8} {a : Option Addr} {cap i : Nat} {w w' : World}

set_option maxHeartbeats 1000000 in
set_option maxRecDepth 100000 in
theorem equal_any (x y : Value) (t p : List UInt8) (w : World) (hx : (convert 22 9 x).run Try.prog w = .ok (.string ⟨t.toArray⟩) w) (hy : (convert 22 9 y).run Try.prog w = .ok (.string ⟨p.toArray⟩) w) :
    Calls Try.prog 22 #[x, y] w fun e w' => e = .returned (.bool (decide (t = p))) ∧ w = w' := by
  go_enter Try.func22, Try.ntmps22
  go_wp2
  go_ret
  exact ⟨ret_bool (by rw [Bool.eq_iff_iff]; simp), rfl⟩

set_option maxHeartbeats 1000000 in
set_option maxRecDepth 100000 in
theorem prefix_short (n k cap c2 : Nat) (a b : Option Addr) (w : World) (h : n < k) :
    Calls Try.prog 20 #[.slice a n cap, .slice b k c2] w fun e w' => e = .returned (.bool false) ∧ w = w' := by
  have h1 : ¬ ((k : Int) ≤ (n : Int)) := by omega
  go_enter Try.func20, Try.ntmps20
  go_wp2
  go_ret
  exact ⟨rfl, rfl⟩

set_option maxHeartbeats 1000000 in
set_option maxRecDepth 100000 in
theorem prefix_long (m p : List UInt8) (b off cap g c2 n k : Nat) (w : World) (hc : Cells m b off w) (hn : m.length = n) (hk : p.length = k) (hcap : n ≤ cap) (h : k ≤ n) (hr : Row p g w) :
    Calls Try.prog 20 #[.slice (some ⟨b, off, none⟩) n cap, .slice (some ⟨g, 0, none⟩) k c2] w fun e w' => e = .returned (.bool (fits p m)) ∧ w = w' := by
  have hx := string_cells (cap := cap) (hc.take k) (n := k) (by rw [List.length_take]; omega)
  have hy := string_row (cap := c2) hr
  rw [hk] at hy
  have cE := equal_any _ _ _ _ w hx hy
  rw [← show fits p m = decide (m.take k = p) by rw [← hk]; exact fits_take (by omega)] at cE
  have h1 : (k : Int) ≤ (n : Int) := by omega
  have h2 : (k : Int) ≤ (cap : Int) := by omega
  clear hx hy hn hk hr hc
  generalize fits p m = F at cE ⊢
  go_enter Try.func20, Try.ntmps20
  go_wp2_with fail
  refine cE.mono ?_
  rintro e w' ⟨rfl, rfl⟩
  go_wp2
  go_ret
  exact ⟨rfl, rfl⟩

set_option maxHeartbeats 1000000 in
set_option maxRecDepth 100000 in
theorem has_long (p : List UInt8) (b off i : Nat) (w : World) (hc : Cells l b off w) (hcap : l.length ≤ cap) (hi : i + p.length ≤ l.length) (hp : 0 < p.length) :
    Calls Try.prog 13 #[.slice (some ⟨b, off, none⟩) l.length cap, .int .i64 (i : Int), .string ⟨p.toArray⟩] w fun e w' => e = .returned (.bool (fits p (l.drop i))) ∧ Below w.heap.size w w' := by
  obtain ⟨c2, W, hconv, hrow, hWs, hbW⟩ := bytes_row p w
  have cP := prefix_long (l.drop i) p b (off + i) (cap - i) w.heap.size c2 (l.length - i) p.length W ((hc.drop i).below hbW) (by rw [List.length_drop]) rfl (by omega) (by omega) hrow
  have HB := Lib.hid hbW
  generalize fits p (l.drop i) = F at cP ⊢
  have h1 : i < cap := by omega
  have h2 : i ≤ l.length := by omega
  generalize l.length = n at *
  clear hrow hbW hc hi hp hcap
  go_enter Try.func13, Try.ntmps13
  go_wp2_with fail
  refine cP.mono ?_
  rintro e w' ⟨rfl, rfl⟩
  go_wp2
  go_ret
  exact ⟨rfl, HB.out⟩

set_option maxHeartbeats 1000000 in
set_option maxRecDepth 100000 in
theorem has_short (p : List UInt8) (n i : Nat) (a : Option Addr) (w : World) (hcap : n ≤ cap) (hi : i ≤ n) (hp : n < i + p.length) :
    Calls Try.prog 13 #[.slice a n cap, .int .i64 (i : Int), .string ⟨p.toArray⟩] w fun e w' => e = .returned (.bool false) ∧ Below w.heap.size w w' := by
  obtain ⟨c2, W, hconv, hrow, hWs, hbW⟩ := bytes_row p w
  have HB := Lib.hid hbW
  have cP := fun a' c' => prefix_short (n - i) p.length c' c2 a' (some ⟨w.heap.size, 0, none⟩) W (by omega)
  have hic : i ≤ cap := by omega
  clear hrow hbW hcap hp
  by_cases hce : cap = i
  · subst hce
    go_enter Try.func13, Try.ntmps13
    go_wp2_with fail
    refine (cP _ _).mono ?_
    rintro e w' ⟨rfl, rfl⟩
    go_wp2
    go_ret
    exact ⟨rfl, HB.out⟩
  · go_enter Try.func13, Try.ntmps13
    go_wp2_with fail
    refine (cP _ _).mono ?_
    rintro e w' ⟨rfl, rfl⟩
    go_wp2
    go_ret
    exact ⟨rfl, HB.out⟩

/-- has: whether a word stands at a byte -/
theorem has_any (p : List UInt8) (i : Nat) (w : World) (hs : Sl l a cap w) (hi : i ≤ l.length) (hp : 0 < p.length) :
    Calls Try.prog 13 #[.slice a l.length cap, .int .i64 (i : Int), .string ⟨p.toArray⟩] w fun e w' => e = .returned (.bool (fits p (l.drop i))) ∧ Below w.heap.size w w' := by
  by_cases h : i + p.length ≤ l.length
  · obtain ⟨hcap, h2 | ⟨b, off, rfl, hc⟩⟩ := hs
    · subst h2; simp only [List.length_nil] at h; omega
    · exact has_long p b off i w hc hcap h hp
  · rw [fits_short (by rw [List.length_drop]; omega)]
    exact has_short p l.length i a w hs.1 hi (by omega)
end Go.Proofs.Ytplngoikjfimaaa
