/- The law AttrGets, walked. -/
import Derived.Test.YtfnecdifaodamaaDoorAtSpk
namespace Go.Proofs.YtfnecdifaodamaaDoor.At
open Go.RowKit Go.Lib

theorem get_hit {a : At} {r : List At} {n : Str} (h : a.1 = n) : get (a :: r) n = some a.2 := if_pos h
theorem get_miss {a : At} {r : List At} {n : Str} (h : a.1 ≠ n) : get (a :: r) n = get r n := if_neg h
theorem get_append : ∀ (L M : List At) (n : Str), get (L ++ M) n = (match get L n with | some v => some v | none => get M n)
  | [], _, _ => rfl
  | a :: r, M, n => by
    rw [List.cons_append]
    by_cases h : a.1 = n
    · rw [get_hit h, get_hit h]
    · rw [get_miss h, get_miss h]; exact get_append r M n
theorem get_add_some {L : List At} {x : At} {u : Str} (h : get L x.1 = some u) : get (add L x) x.1 = some u := by rw [add_some h, h]
theorem get_add_none {L : List At} {x : At} (h : get L x.1 = none) : get (add L x) x.1 = some x.2 := by
  rw [add_none h, get_append, h]
  show get [x] x.1 = _
  unfold get
  rw [if_pos rfl]
theorem get_add_other {L : List At} {x : At} {n : Str} (h : x.1 ≠ n) : get (add L x) n = get L n := by
  cases hg : get L x.1 with
  | some u => rw [add_some hg]
  | none =>
    rw [add_none hg, get_append]
    cases get L n with
    | some v => rfl
    | none =>
      show get [x] n = none
      unfold get
      rw [if_neg h]
      rfl

/-- what the boxed attribute holds, in a later world -/
theorem box_at {w w2 : World} {x y : Value} {t : TypeId} (hb : Below (w.alloc (.cells #[x, y] t)).heap.size (w.alloc (.cells #[x, y] t)) w2) :
    w2.cell? ⟨w.heap.size, 0, none⟩ = some x ∧ w2.cell? ⟨w.heap.size, 1, none⟩ = some y := two_kept hb

theorem below_trans {w w1 w2 : World} (h : Below w.heap.size w w1) (h2 : Below w1.heap.size w1 w2) : Below w.heap.size w w2 := h.trans (h2.mono h.size)

end Go.Proofs.YtfnecdifaodamaaDoor.At
