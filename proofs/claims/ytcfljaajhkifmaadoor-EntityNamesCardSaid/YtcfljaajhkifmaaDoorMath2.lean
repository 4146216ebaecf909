/- The names, as lists of bytes: as the program's two constants tell them, and sorted. Nothing here is of the program. -/
import Derived.Test.YtcfljaajhkifmaaDoorMath
import Derived.Lib.Fields
namespace Go.Proofs.YtcfljaajhkifmaaDoor

def mkT : List UInt8 := [
  65, 77, 80, 32, 71, 84, 32, 76, 84, 32, 81, 85, 79, 84, 32, 97, 109, 112, 32, 99, 111, 112, 121, 32, 100, 101, 103, 32, 100, 105,
  118, 105, 100, 101, 32, 103, 116, 32, 108, 116, 32, 110, 98, 115, 112, 32, 110, 111, 116, 32, 112, 97, 114, 97, 32, 113, 117, 111, 116, 32,
  114, 101, 103, 32, 115, 101, 99, 116, 32, 116, 105, 109, 101, 115, 32, 121, 101, 110]
def allT : List UInt8 := [
  65, 77, 80, 32, 71, 84, 32, 76, 84, 32, 81, 85, 79, 84, 32, 97, 109, 112, 32, 99, 111, 112, 121, 32, 100, 101, 103, 32, 100, 105,
  118, 105, 100, 101, 32, 103, 116, 32, 108, 116, 32, 110, 98, 115, 112, 32, 110, 111, 116, 32, 112, 97, 114, 97, 32, 113, 117, 111, 116, 32,
  114, 101, 103, 32, 115, 101, 99, 116, 32, 116, 105, 109, 101, 115, 32, 121, 101, 110, 32, 78, 101, 119, 76, 105, 110, 101, 32, 84, 97, 98,
  32, 97, 99, 69, 32, 97, 108, 112, 104, 97, 32, 97, 112, 111, 115, 32, 98, 101, 116, 97, 32, 98, 117, 108, 108, 32, 99, 111, 108, 111,
  110, 32, 101, 117, 114, 111, 32, 103, 101, 32, 104, 101, 108, 108, 105, 112, 32, 105, 110, 102, 105, 110, 32, 108, 100, 113, 117, 111, 32, 108,
  101, 32, 108, 112, 97, 114, 32, 108, 115, 113, 117, 111, 32, 109, 100, 97, 115, 104, 32, 110, 100, 97, 115, 104, 32, 110, 111, 116, 105, 110,
  32, 110, 118, 108, 116, 32, 114, 100, 113, 117, 111, 32, 114, 112, 97, 114, 32, 114, 115, 113, 117, 111, 32, 115, 111, 108, 32, 116, 114, 97,
  100, 101]
def mkN : List (List UInt8) := [
  [65, 77, 80],
  [71, 84],
  [76, 84],
  [81, 85, 79, 84],
  [97, 109, 112],
  [99, 111, 112, 121],
  [100, 101, 103],
  [100, 105, 118, 105, 100, 101],
  [103, 116],
  [108, 116],
  [110, 98, 115, 112],
  [110, 111, 116],
  [112, 97, 114, 97],
  [113, 117, 111, 116],
  [114, 101, 103],
  [115, 101, 99, 116],
  [116, 105, 109, 101, 115],
  [121, 101, 110]]
def allN : List (List UInt8) := [
  [65, 77, 80],
  [71, 84],
  [76, 84],
  [81, 85, 79, 84],
  [97, 109, 112],
  [99, 111, 112, 121],
  [100, 101, 103],
  [100, 105, 118, 105, 100, 101],
  [103, 116],
  [108, 116],
  [110, 98, 115, 112],
  [110, 111, 116],
  [112, 97, 114, 97],
  [113, 117, 111, 116],
  [114, 101, 103],
  [115, 101, 99, 116],
  [116, 105, 109, 101, 115],
  [121, 101, 110],
  [78, 101, 119, 76, 105, 110, 101],
  [84, 97, 98],
  [97, 99, 69],
  [97, 108, 112, 104, 97],
  [97, 112, 111, 115],
  [98, 101, 116, 97],
  [98, 117, 108, 108],
  [99, 111, 108, 111, 110],
  [101, 117, 114, 111],
  [103, 101],
  [104, 101, 108, 108, 105, 112],
  [105, 110, 102, 105, 110],
  [108, 100, 113, 117, 111],
  [108, 101],
  [108, 112, 97, 114],
  [108, 115, 113, 117, 111],
  [109, 100, 97, 115, 104],
  [110, 100, 97, 115, 104],
  [110, 111, 116, 105, 110],
  [110, 118, 108, 116],
  [114, 100, 113, 117, 111],
  [114, 112, 97, 114],
  [114, 115, 113, 117, 111],
  [115, 111, 108],
  [116, 114, 97, 100, 101]]
def rowN : List (List UInt8) := mkN ++ allN.map (· ++ [59])
def nameL : List (List UInt8) := [
  [65, 77, 80],
  [65, 77, 80, 59],
  [71, 84],
  [71, 84, 59],
  [76, 84],
  [76, 84, 59],
  [78, 101, 119, 76, 105, 110, 101, 59],
  [81, 85, 79, 84],
  [81, 85, 79, 84, 59],
  [84, 97, 98, 59],
  [97, 99, 69, 59],
  [97, 108, 112, 104, 97, 59],
  [97, 109, 112],
  [97, 109, 112, 59],
  [97, 112, 111, 115, 59],
  [98, 101, 116, 97, 59],
  [98, 117, 108, 108, 59],
  [99, 111, 108, 111, 110, 59],
  [99, 111, 112, 121],
  [99, 111, 112, 121, 59],
  [100, 101, 103],
  [100, 101, 103, 59],
  [100, 105, 118, 105, 100, 101],
  [100, 105, 118, 105, 100, 101, 59],
  [101, 117, 114, 111, 59],
  [103, 101, 59],
  [103, 116],
  [103, 116, 59],
  [104, 101, 108, 108, 105, 112, 59],
  [105, 110, 102, 105, 110, 59],
  [108, 100, 113, 117, 111, 59],
  [108, 101, 59],
  [108, 112, 97, 114, 59],
  [108, 115, 113, 117, 111, 59],
  [108, 116],
  [108, 116, 59],
  [109, 100, 97, 115, 104, 59],
  [110, 98, 115, 112],
  [110, 98, 115, 112, 59],
  [110, 100, 97, 115, 104, 59],
  [110, 111, 116],
  [110, 111, 116, 59],
  [110, 111, 116, 105, 110, 59],
  [110, 118, 108, 116, 59],
  [112, 97, 114, 97],
  [112, 97, 114, 97, 59],
  [113, 117, 111, 116],
  [113, 117, 111, 116, 59],
  [114, 100, 113, 117, 111, 59],
  [114, 101, 103],
  [114, 101, 103, 59],
  [114, 112, 97, 114, 59],
  [114, 115, 113, 117, 111, 59],
  [115, 101, 99, 116],
  [115, 101, 99, 116, 59],
  [115, 111, 108, 59],
  [116, 105, 109, 101, 115],
  [116, 105, 109, 101, 115, 59],
  [116, 114, 97, 100, 101, 59],
  [121, 101, 110],
  [121, 101, 110, 59]]

set_option maxRecDepth 100000 in
theorem fields_mk : Go.Lib.fields mkT = mkN := by decide
set_option maxRecDepth 100000 in
theorem fields_all : Go.Lib.fields allT = allN := by decide

/-- rising, each once -/
def rises : List (List UInt8) → Bool
  | a :: b :: r => decide (a < b) && rises (b :: r)
  | _ => true

theorem rises_pairwise : ∀ l : List (List UInt8), rises l = true → l.Pairwise fun a b => a < b
  | [], _ => List.Pairwise.nil
  | [a], _ => by simp
  | a :: b :: r, h => by
    unfold rises at h
    simp only [Bool.and_eq_true, decide_eq_true_eq] at h
    have ih := rises_pairwise (b :: r) h.2
    refine List.pairwise_cons.2 ⟨fun x hx => ?_, ih⟩
    rcases List.mem_cons.1 hx with rfl | hx
    · exact h.1
    · exact List.lt_trans h.1 ((List.pairwise_cons.1 ih).1 x hx)

set_option maxRecDepth 100000 in
theorem name_rises : rises nameL = true := by decide

set_option maxRecDepth 100000 in
theorem name_perm : rowN.Perm nameL := by decide

theorem sort_names : (rowN.mergeSort fun x y => decide (x ≤ y)) = nameL := by
  have tr : ∀ a b c : List UInt8, decide (a ≤ b) = true → decide (b ≤ c) = true → decide (a ≤ c) = true := by
    intro a b c h1 h2
    simp only [decide_eq_true_eq] at *
    exact List.le_trans h1 h2
  have to : ∀ a b : List UInt8, (decide (a ≤ b) || decide (b ≤ a)) = true := by
    intro a b
    simp only [Bool.or_eq_true, decide_eq_true_eq]
    exact List.le_total a b
  refine List.Perm.eq_of_pairwise (le := fun a b => decide (a ≤ b) = true) (fun a b _ _ h1 h2 => ?_) (List.pairwise_mergeSort tr to rowN) ?_ ((List.mergeSort_perm _ _).trans name_perm)
  · simp only [decide_eq_true_eq] at h1 h2
    exact List.le_antisymm h1 h2
  · refine (rises_pairwise nameL name_rises).imp fun {a b} h => ?_
    simp only [decide_eq_true_eq]
    exact List.le_of_lt h

/-- a name's facts: it is found, whole; at most eight bytes; the next one is above it -/
def tellsName (l : List UInt8) : Bool := (findL l).1 == l.length && decide (l.length ≤ 8) && decide (2 ≤ l.length)

set_option maxRecDepth 100000 in
theorem names_tell : nameL.all tellsName = true := by decide

theorem name_len : nameL.length = 61 := rfl

end Go.Proofs.YtcfljaajhkifmaaDoor
