/- What a name stands for: the program's two switches, walked. -/
import Derived.Test.YtndcmapifihgeaaGreatDoorEnMath
import Derived.Test.YtndcmapifihgeaaGreatDoorProg
import Derived.WalkKit
import Derived.LoopTactic
import Derived.Below
import Derived.Lib.Hide
import Derived.Shelf.Small.Wraps
namespace Go.Proofs.YtndcmapifihgeaaGreatDoor.En
open Go.RowKit Go.Lib

set_option maxHeartbeats 4000000 in
set_option maxRecDepth 100000 in
theorem ofMarked_any (l : List UInt8) (w : World) :
    Calls Tryz.prog 129 #[.string ⟨l.toArray⟩] w fun e w' => e = .returned (.string ⟨(look mkL l).toArray⟩) ∧ w = w' := by
  by_cases h0 : l = [65, 77, 80]
  · subst h0
    rw [show look mkL [65, 77, 80] = [38] from by decide]
    go_enter Tryz.func129, Tryz.ntmps129
    go_wp2
    go_ret
    exact ⟨rfl, rfl⟩
  by_cases h1 : l = [97, 109, 112]
  · subst h1
    rw [show look mkL [97, 109, 112] = [38] from by decide]
    go_enter Tryz.func129, Tryz.ntmps129
    go_wp2
    go_ret
    exact ⟨rfl, rfl⟩
  by_cases h2 : l = [71, 84]
  · subst h2
    rw [show look mkL [71, 84] = [62] from by decide]
    go_enter Tryz.func129, Tryz.ntmps129
    go_wp2
    go_ret
    exact ⟨rfl, rfl⟩
  by_cases h3 : l = [103, 116]
  · subst h3
    rw [show look mkL [103, 116] = [62] from by decide]
    go_enter Tryz.func129, Tryz.ntmps129
    go_wp2
    go_ret
    exact ⟨rfl, rfl⟩
  by_cases h4 : l = [76, 84]
  · subst h4
    rw [show look mkL [76, 84] = [60] from by decide]
    go_enter Tryz.func129, Tryz.ntmps129
    go_wp2
    go_ret
    exact ⟨rfl, rfl⟩
  by_cases h5 : l = [108, 116]
  · subst h5
    rw [show look mkL [108, 116] = [60] from by decide]
    go_enter Tryz.func129, Tryz.ntmps129
    go_wp2
    go_ret
    exact ⟨rfl, rfl⟩
  by_cases h6 : l = [81, 85, 79, 84]
  · subst h6
    rw [show look mkL [81, 85, 79, 84] = [34] from by decide]
    go_enter Tryz.func129, Tryz.ntmps129
    go_wp2
    go_ret
    exact ⟨rfl, rfl⟩
  by_cases h7 : l = [113, 117, 111, 116]
  · subst h7
    rw [show look mkL [113, 117, 111, 116] = [34] from by decide]
    go_enter Tryz.func129, Tryz.ntmps129
    go_wp2
    go_ret
    exact ⟨rfl, rfl⟩
  by_cases h8 : l = [99, 111, 112, 121]
  · subst h8
    rw [show look mkL [99, 111, 112, 121] = [194, 169] from by decide]
    go_enter Tryz.func129, Tryz.ntmps129
    go_wp2
    go_ret
    exact ⟨rfl, rfl⟩
  by_cases h9 : l = [100, 101, 103]
  · subst h9
    rw [show look mkL [100, 101, 103] = [194, 176] from by decide]
    go_enter Tryz.func129, Tryz.ntmps129
    go_wp2
    go_ret
    exact ⟨rfl, rfl⟩
  by_cases h10 : l = [100, 105, 118, 105, 100, 101]
  · subst h10
    rw [show look mkL [100, 105, 118, 105, 100, 101] = [195, 183] from by decide]
    go_enter Tryz.func129, Tryz.ntmps129
    go_wp2
    go_ret
    exact ⟨rfl, rfl⟩
  by_cases h11 : l = [110, 98, 115, 112]
  · subst h11
    rw [show look mkL [110, 98, 115, 112] = [194, 160] from by decide]
    go_enter Tryz.func129, Tryz.ntmps129
    go_wp2
    go_ret
    exact ⟨rfl, rfl⟩
  by_cases h12 : l = [110, 111, 116]
  · subst h12
    rw [show look mkL [110, 111, 116] = [194, 172] from by decide]
    go_enter Tryz.func129, Tryz.ntmps129
    go_wp2
    go_ret
    exact ⟨rfl, rfl⟩
  by_cases h13 : l = [112, 97, 114, 97]
  · subst h13
    rw [show look mkL [112, 97, 114, 97] = [194, 182] from by decide]
    go_enter Tryz.func129, Tryz.ntmps129
    go_wp2
    go_ret
    exact ⟨rfl, rfl⟩
  by_cases h14 : l = [114, 101, 103]
  · subst h14
    rw [show look mkL [114, 101, 103] = [194, 174] from by decide]
    go_enter Tryz.func129, Tryz.ntmps129
    go_wp2
    go_ret
    exact ⟨rfl, rfl⟩
  by_cases h15 : l = [115, 101, 99, 116]
  · subst h15
    rw [show look mkL [115, 101, 99, 116] = [194, 167] from by decide]
    go_enter Tryz.func129, Tryz.ntmps129
    go_wp2
    go_ret
    exact ⟨rfl, rfl⟩
  by_cases h16 : l = [116, 105, 109, 101, 115]
  · subst h16
    rw [show look mkL [116, 105, 109, 101, 115] = [195, 151] from by decide]
    go_enter Tryz.func129, Tryz.ntmps129
    go_wp2
    go_ret
    exact ⟨rfl, rfl⟩
  by_cases h17 : l = [121, 101, 110]
  · subst h17
    rw [show look mkL [121, 101, 110] = [194, 165] from by decide]
    go_enter Tryz.func129, Tryz.ntmps129
    go_wp2
    go_ret
    exact ⟨rfl, rfl⟩
  rw [show look mkL l = [] from by simp only [look, mkL, h0, h1, h2, h3, h4, h5, h6, h7, h8, h9, h10, h11, h12, h13, h14, h15, h16, h17, if_false]]
  replace h0 : (l == [65, 77, 80]) = false := beq_eq_false_iff_ne.2 h0
  replace h1 : (l == [97, 109, 112]) = false := beq_eq_false_iff_ne.2 h1
  replace h2 : (l == [71, 84]) = false := beq_eq_false_iff_ne.2 h2
  replace h3 : (l == [103, 116]) = false := beq_eq_false_iff_ne.2 h3
  replace h4 : (l == [76, 84]) = false := beq_eq_false_iff_ne.2 h4
  replace h5 : (l == [108, 116]) = false := beq_eq_false_iff_ne.2 h5
  replace h6 : (l == [81, 85, 79, 84]) = false := beq_eq_false_iff_ne.2 h6
  replace h7 : (l == [113, 117, 111, 116]) = false := beq_eq_false_iff_ne.2 h7
  replace h8 : (l == [99, 111, 112, 121]) = false := beq_eq_false_iff_ne.2 h8
  replace h9 : (l == [100, 101, 103]) = false := beq_eq_false_iff_ne.2 h9
  replace h10 : (l == [100, 105, 118, 105, 100, 101]) = false := beq_eq_false_iff_ne.2 h10
  replace h11 : (l == [110, 98, 115, 112]) = false := beq_eq_false_iff_ne.2 h11
  replace h12 : (l == [110, 111, 116]) = false := beq_eq_false_iff_ne.2 h12
  replace h13 : (l == [112, 97, 114, 97]) = false := beq_eq_false_iff_ne.2 h13
  replace h14 : (l == [114, 101, 103]) = false := beq_eq_false_iff_ne.2 h14
  replace h15 : (l == [115, 101, 99, 116]) = false := beq_eq_false_iff_ne.2 h15
  replace h16 : (l == [116, 105, 109, 101, 115]) = false := beq_eq_false_iff_ne.2 h16
  replace h17 : (l == [121, 101, 110]) = false := beq_eq_false_iff_ne.2 h17
  go_enter Tryz.func129, Tryz.ntmps129
  go_wp2
  go_ret
  exact ⟨rfl, rfl⟩

set_option maxHeartbeats 4000000 in
set_option maxRecDepth 100000 in
theorem ofOthers_any (l : List UInt8) (w : World) :
    Calls Tryz.prog 130 #[.string ⟨l.toArray⟩] w fun e w' => e = .returned (.string ⟨(look otL l).toArray⟩) ∧ w = w' := by
  by_cases h0 : l = [78, 101, 119, 76, 105, 110, 101]
  · subst h0
    rw [show look otL [78, 101, 119, 76, 105, 110, 101] = [10] from by decide]
    go_enter Tryz.func130, Tryz.ntmps130
    go_wp2
    go_ret
    exact ⟨rfl, rfl⟩
  by_cases h1 : l = [84, 97, 98]
  · subst h1
    rw [show look otL [84, 97, 98] = [9] from by decide]
    go_enter Tryz.func130, Tryz.ntmps130
    go_wp2
    go_ret
    exact ⟨rfl, rfl⟩
  by_cases h2 : l = [97, 99, 69]
  · subst h2
    rw [show look otL [97, 99, 69] = [226, 136, 190, 204, 179] from by decide]
    go_enter Tryz.func130, Tryz.ntmps130
    go_wp2
    go_ret
    exact ⟨rfl, rfl⟩
  by_cases h3 : l = [97, 108, 112, 104, 97]
  · subst h3
    rw [show look otL [97, 108, 112, 104, 97] = [206, 177] from by decide]
    go_enter Tryz.func130, Tryz.ntmps130
    go_wp2
    go_ret
    exact ⟨rfl, rfl⟩
  by_cases h4 : l = [97, 112, 111, 115]
  · subst h4
    rw [show look otL [97, 112, 111, 115] = [39] from by decide]
    go_enter Tryz.func130, Tryz.ntmps130
    go_wp2
    go_ret
    exact ⟨rfl, rfl⟩
  by_cases h5 : l = [98, 101, 116, 97]
  · subst h5
    rw [show look otL [98, 101, 116, 97] = [206, 178] from by decide]
    go_enter Tryz.func130, Tryz.ntmps130
    go_wp2
    go_ret
    exact ⟨rfl, rfl⟩
  by_cases h6 : l = [98, 117, 108, 108]
  · subst h6
    rw [show look otL [98, 117, 108, 108] = [226, 128, 162] from by decide]
    go_enter Tryz.func130, Tryz.ntmps130
    go_wp2
    go_ret
    exact ⟨rfl, rfl⟩
  by_cases h7 : l = [99, 111, 108, 111, 110]
  · subst h7
    rw [show look otL [99, 111, 108, 111, 110] = [58] from by decide]
    go_enter Tryz.func130, Tryz.ntmps130
    go_wp2
    go_ret
    exact ⟨rfl, rfl⟩
  by_cases h8 : l = [101, 117, 114, 111]
  · subst h8
    rw [show look otL [101, 117, 114, 111] = [226, 130, 172] from by decide]
    go_enter Tryz.func130, Tryz.ntmps130
    go_wp2
    go_ret
    exact ⟨rfl, rfl⟩
  by_cases h9 : l = [103, 101]
  · subst h9
    rw [show look otL [103, 101] = [226, 137, 165] from by decide]
    go_enter Tryz.func130, Tryz.ntmps130
    go_wp2
    go_ret
    exact ⟨rfl, rfl⟩
  by_cases h10 : l = [104, 101, 108, 108, 105, 112]
  · subst h10
    rw [show look otL [104, 101, 108, 108, 105, 112] = [226, 128, 166] from by decide]
    go_enter Tryz.func130, Tryz.ntmps130
    go_wp2
    go_ret
    exact ⟨rfl, rfl⟩
  by_cases h11 : l = [105, 110, 102, 105, 110]
  · subst h11
    rw [show look otL [105, 110, 102, 105, 110] = [226, 136, 158] from by decide]
    go_enter Tryz.func130, Tryz.ntmps130
    go_wp2
    go_ret
    exact ⟨rfl, rfl⟩
  by_cases h12 : l = [108, 100, 113, 117, 111]
  · subst h12
    rw [show look otL [108, 100, 113, 117, 111] = [226, 128, 156] from by decide]
    go_enter Tryz.func130, Tryz.ntmps130
    go_wp2
    go_ret
    exact ⟨rfl, rfl⟩
  by_cases h13 : l = [108, 101]
  · subst h13
    rw [show look otL [108, 101] = [226, 137, 164] from by decide]
    go_enter Tryz.func130, Tryz.ntmps130
    go_wp2
    go_ret
    exact ⟨rfl, rfl⟩
  by_cases h14 : l = [108, 112, 97, 114]
  · subst h14
    rw [show look otL [108, 112, 97, 114] = [40] from by decide]
    go_enter Tryz.func130, Tryz.ntmps130
    go_wp2
    go_ret
    exact ⟨rfl, rfl⟩
  by_cases h15 : l = [108, 115, 113, 117, 111]
  · subst h15
    rw [show look otL [108, 115, 113, 117, 111] = [226, 128, 152] from by decide]
    go_enter Tryz.func130, Tryz.ntmps130
    go_wp2
    go_ret
    exact ⟨rfl, rfl⟩
  by_cases h16 : l = [109, 100, 97, 115, 104]
  · subst h16
    rw [show look otL [109, 100, 97, 115, 104] = [226, 128, 148] from by decide]
    go_enter Tryz.func130, Tryz.ntmps130
    go_wp2
    go_ret
    exact ⟨rfl, rfl⟩
  by_cases h17 : l = [110, 100, 97, 115, 104]
  · subst h17
    rw [show look otL [110, 100, 97, 115, 104] = [226, 128, 147] from by decide]
    go_enter Tryz.func130, Tryz.ntmps130
    go_wp2
    go_ret
    exact ⟨rfl, rfl⟩
  by_cases h18 : l = [110, 111, 116, 105, 110]
  · subst h18
    rw [show look otL [110, 111, 116, 105, 110] = [226, 136, 137] from by decide]
    go_enter Tryz.func130, Tryz.ntmps130
    go_wp2
    go_ret
    exact ⟨rfl, rfl⟩
  by_cases h19 : l = [110, 118, 108, 116]
  · subst h19
    rw [show look otL [110, 118, 108, 116] = [60, 226, 131, 146] from by decide]
    go_enter Tryz.func130, Tryz.ntmps130
    go_wp2
    go_ret
    exact ⟨rfl, rfl⟩
  by_cases h20 : l = [114, 100, 113, 117, 111]
  · subst h20
    rw [show look otL [114, 100, 113, 117, 111] = [226, 128, 157] from by decide]
    go_enter Tryz.func130, Tryz.ntmps130
    go_wp2
    go_ret
    exact ⟨rfl, rfl⟩
  by_cases h21 : l = [114, 112, 97, 114]
  · subst h21
    rw [show look otL [114, 112, 97, 114] = [41] from by decide]
    go_enter Tryz.func130, Tryz.ntmps130
    go_wp2
    go_ret
    exact ⟨rfl, rfl⟩
  by_cases h22 : l = [114, 115, 113, 117, 111]
  · subst h22
    rw [show look otL [114, 115, 113, 117, 111] = [226, 128, 153] from by decide]
    go_enter Tryz.func130, Tryz.ntmps130
    go_wp2
    go_ret
    exact ⟨rfl, rfl⟩
  by_cases h23 : l = [115, 111, 108]
  · subst h23
    rw [show look otL [115, 111, 108] = [47] from by decide]
    go_enter Tryz.func130, Tryz.ntmps130
    go_wp2
    go_ret
    exact ⟨rfl, rfl⟩
  by_cases h24 : l = [116, 114, 97, 100, 101]
  · subst h24
    rw [show look otL [116, 114, 97, 100, 101] = [226, 132, 162] from by decide]
    go_enter Tryz.func130, Tryz.ntmps130
    go_wp2
    go_ret
    exact ⟨rfl, rfl⟩
  rw [show look otL l = [] from by simp only [look, otL, h0, h1, h2, h3, h4, h5, h6, h7, h8, h9, h10, h11, h12, h13, h14, h15, h16, h17, h18, h19, h20, h21, h22, h23, h24, if_false]]
  replace h0 : (l == [78, 101, 119, 76, 105, 110, 101]) = false := beq_eq_false_iff_ne.2 h0
  replace h1 : (l == [84, 97, 98]) = false := beq_eq_false_iff_ne.2 h1
  replace h2 : (l == [97, 99, 69]) = false := beq_eq_false_iff_ne.2 h2
  replace h3 : (l == [97, 108, 112, 104, 97]) = false := beq_eq_false_iff_ne.2 h3
  replace h4 : (l == [97, 112, 111, 115]) = false := beq_eq_false_iff_ne.2 h4
  replace h5 : (l == [98, 101, 116, 97]) = false := beq_eq_false_iff_ne.2 h5
  replace h6 : (l == [98, 117, 108, 108]) = false := beq_eq_false_iff_ne.2 h6
  replace h7 : (l == [99, 111, 108, 111, 110]) = false := beq_eq_false_iff_ne.2 h7
  replace h8 : (l == [101, 117, 114, 111]) = false := beq_eq_false_iff_ne.2 h8
  replace h9 : (l == [103, 101]) = false := beq_eq_false_iff_ne.2 h9
  replace h10 : (l == [104, 101, 108, 108, 105, 112]) = false := beq_eq_false_iff_ne.2 h10
  replace h11 : (l == [105, 110, 102, 105, 110]) = false := beq_eq_false_iff_ne.2 h11
  replace h12 : (l == [108, 100, 113, 117, 111]) = false := beq_eq_false_iff_ne.2 h12
  replace h13 : (l == [108, 101]) = false := beq_eq_false_iff_ne.2 h13
  replace h14 : (l == [108, 112, 97, 114]) = false := beq_eq_false_iff_ne.2 h14
  replace h15 : (l == [108, 115, 113, 117, 111]) = false := beq_eq_false_iff_ne.2 h15
  replace h16 : (l == [109, 100, 97, 115, 104]) = false := beq_eq_false_iff_ne.2 h16
  replace h17 : (l == [110, 100, 97, 115, 104]) = false := beq_eq_false_iff_ne.2 h17
  replace h18 : (l == [110, 111, 116, 105, 110]) = false := beq_eq_false_iff_ne.2 h18
  replace h19 : (l == [110, 118, 108, 116]) = false := beq_eq_false_iff_ne.2 h19
  replace h20 : (l == [114, 100, 113, 117, 111]) = false := beq_eq_false_iff_ne.2 h20
  replace h21 : (l == [114, 112, 97, 114]) = false := beq_eq_false_iff_ne.2 h21
  replace h22 : (l == [114, 115, 113, 117, 111]) = false := beq_eq_false_iff_ne.2 h22
  replace h23 : (l == [115, 111, 108]) = false := beq_eq_false_iff_ne.2 h23
  replace h24 : (l == [116, 114, 97, 100, 101]) = false := beq_eq_false_iff_ne.2 h24
  go_enter Tryz.func130, Tryz.ntmps130
  go_wp2
  go_ret
  exact ⟨rfl, rfl⟩

end Go.Proofs.YtndcmapifihgeaaGreatDoor.En

/- The library's contracts at this program's numbers: strings.CutSuffix, strings.Fields and slices.Sort of texts, each one application of the library's own. -/
namespace Go.Proofs
open Go.Shelf
def Tryz.lays104_ren : Go.Shelf.Ren := ⟨fun | 104 => 128 | 211 => 132 | 207 => 134 | n => n, fun | 9 => 9 | 4 => 4 | 24 => 93 | 3 => 3 | n => n, fun | n => n⟩
theorem Tryz.lays104 : Go.Proofs.Lays.n104 Tryz.prog Tryz.lays104_ren := {
  mixed := by kernel_rfl
  f104 := Tryz.func128.trans (congrArg some (by kernel_rfl))
  f207 := Tryz.func134.trans (congrArg some (by kernel_rfl))
  f211 := Tryz.func132.trans (congrArg some (by kernel_rfl))
  t3 := Tryz.underlying3
  a3 := Tryz.isAgg3
  z3 := Tryz.sizeOf3
  v3 := Tryz.zeroValue3
  t4 := Tryz.underlying4
  a4 := Tryz.isAgg4
  z4 := Tryz.sizeOf4
  v4 := Tryz.zeroValue4
  t9 := Tryz.underlying9
  a9 := Tryz.isAgg9
  z9 := Tryz.sizeOf9
  v9 := Tryz.zeroValue9
  t24 := Tryz.underlying93
  a24 := Tryz.isAgg93
  z24 := Tryz.sizeOf93
  v24 := Tryz.zeroValue93 }
open Go.RowKit in
theorem Tryz.strings_CutSuffix (s p : ByteArray) (w : World) (hs : s.size ≤ 9223372036854775807) :
    Calls Tryz.prog 128 #[.string s, .string p] w fun e w' => e = .returned (.tuple #[.string ⟨(Lib.trimSuffix s.data.toList p.data.toList).toArray⟩, .bool (Lib.hasSuffix s.data.toList p.data.toList)]) ∧ w' = w := Any.strings_CutSuffix Tryz.lays104 s p w hs
end Go.Proofs

/- The program's Find, walked: the longest front of a text that is a name. -/
namespace Go.Proofs.YtndcmapifihgeaaGreatDoor.En
open Go.RowKit Go.Lib

theorem ret_bool {a b : Bool} (h : a = b) : Ending.returned (.bool a) = .returned (.bool b) := by rw [h]
theorem ret_find {a b : Int} {s t : List UInt8} (h : a = b) (h' : s = t) : Ending.returned (.tuple #[.int .i64 a, .string ⟨s.toArray⟩]) = .returned (.tuple #[.int .i64 b, .string ⟨t.toArray⟩]) := by rw [h, h']
theorem str_size (l : List UInt8) : (⟨l.toArray⟩ : ByteArray).size = l.length := by simp [ByteArray.size]

theorem cut_any (l : List UInt8) (w : World) (hl : l.length ≤ 9223372036854775807) :
    Calls Tryz.prog 128 #[.string ⟨l.toArray⟩, .string ⟨#[59]⟩] w fun e w' => e = .returned (.tuple #[.string ⟨(bare l).toArray⟩, .bool (semi l)]) ∧ w = w' := by
  refine (Tryz.strings_CutSuffix ⟨l.toArray⟩ ⟨#[59]⟩ w (by simpa [ByteArray.size] using hl)).mono ?_
  rintro e w' ⟨rfl, rfl⟩
  exact ⟨rfl, rfl⟩

theorem mean_mk {l c : List UInt8} (h : look mkL (bare l) = c) (hc : c ≠ []) : mean l = c := by
  unfold mean; rw [if_pos (Or.inl (by rw [h]; exact hc)), h]
theorem mean_no {l : List UInt8} (h : look mkL (bare l) = []) (hs : semi l = false) : mean l = [] := by
  unfold mean; rw [if_pos (Or.inr hs), h]
theorem mean_ot {l : List UInt8} (h : look mkL (bare l) = []) (hs : semi l = true) : mean l = look otL (bare l) := by
  unfold mean; rw [if_neg (by simp [h, hs])]

set_option maxHeartbeats 4000000 in
set_option maxRecDepth 100000 in
theorem meaning_any (l : List UInt8) (w : World) (hl : l.length ≤ 9223372036854775807) :
    Calls Tryz.prog 119 #[.string ⟨l.toArray⟩] w fun e w' => e = .returned (.string ⟨(mean l).toArray⟩) ∧ w = w' := by
  have c1 := cut_any l w hl
  have c2 := ofMarked_any (bare l) w
  have c3 := ofOthers_any (bare l) w
  cases hM : look mkL (bare l) with
  | cons c r =>
    rw [mean_mk hM (by simp)]
    rw [hM] at c2
    clear hM c3
    have ht : ((c :: r) == ([] : List UInt8)) = false := rfl
    generalize bare l = b at c1 c2
    generalize semi l = s at c1
    generalize c :: r = q at c2 ht ⊢
    go_enter Tryz.func119, Tryz.ntmps119
    go_wp2_with fail
    refine c1.mono ?_
    rintro e w' ⟨rfl, rfl⟩
    go_wp2_with fail
    refine c2.mono ?_
    rintro e w' ⟨rfl, rfl⟩
    go_wp2
    go_ret
    exact ⟨rfl, rfl⟩
  | nil =>
    rw [hM] at c2
    cases hs : semi l with
    | false =>
      rw [mean_no hM hs]
      rw [hs] at c1
      clear hM hs c3
      generalize bare l = b at c1 c2
      go_enter Tryz.func119, Tryz.ntmps119
      go_wp2_with fail
      refine c1.mono ?_
      rintro e w' ⟨rfl, rfl⟩
      go_wp2_with fail
      refine c2.mono ?_
      rintro e w' ⟨rfl, rfl⟩
      go_wp2
      go_ret
      exact ⟨rfl, rfl⟩
    | true =>
      rw [mean_ot hM hs]
      rw [hs] at c1
      clear hM hs
      generalize look otL (bare l) = q at c3
      generalize bare l = b at c1 c2 c3
      go_enter Tryz.func119, Tryz.ntmps119
      go_wp2_with fail
      refine c1.mono ?_
      rintro e w' ⟨rfl, rfl⟩
      go_wp2_with fail
      refine c2.mono ?_
      rintro e w' ⟨rfl, rfl⟩
      go_wp2_with fail
      refine c3.mono ?_
      rintro e w' ⟨rfl, rfl⟩
      go_wp2
      go_ret
      exact ⟨rfl, rfl⟩

/-- where the loop stands: so many bytes are still to be tried -/
def FindRel (l : List UInt8) (w : World) (v4 : Value) (wr : World) : Prop :=
  ∃ n : Nat, v4 = .int .i64 n ∧ n ≤ l.length ∧ n ≤ 8 ∧ findGo l n = findL l ∧ wr = w

theorem ext_front (l : List UInt8) (n : Nat) : (⟨l.toArray⟩ : ByteArray).extract 0 n = ⟨(l.take n).toArray⟩ := by
  apply ByteArray.ext
  rw [ByteArray.data_extract]
  simp

set_option maxHeartbeats 4000000 in
set_option maxRecDepth 100000 in
theorem find_any (l : List UInt8) (w : World) (hl : l.length ≤ 9223372036854775807) :
    Calls Tryz.prog 113 #[.string ⟨l.toArray⟩] w fun e w' => e = .returned (.tuple #[.int .i64 (findL l).1, .string ⟨(findL l).2.toArray⟩]) ∧ w = w' := by
  have hm : (min (l.length : Int) 8) = ((min l.length 8 : Nat) : Int) := by omega
  go_enter Tryz.func113, Tryz.ntmps113
  go_wp2
  clear hm
  go_loopw [4] (fun v4 wr => FindRel l w v4 wr) (fun v4 _ => (RowKit.intOf v4).toNat)
  case atStart => exact ⟨min l.length 8, rfl, by omega, by omega, rfl, rfl⟩
  case round =>
    obtain ⟨n, rfl, hn, hn8, hf, rfl⟩ := hrel
    have HF := Lib.hid hf
    clear hf
    cases n with
    | zero =>
      go_wp2
      go_ret2
      refine ⟨?_, rfl⟩
      rw [← HF.out]
      rfl
    | succ k =>
      have h0 : ((k + 1 : Nat) : Int) > 0 := by omega
      have h1 : ((k + 1 : Nat) : Int) ≤ (l.length : Int) := by omega
      have c := meaning_any (l.take (k + 1)) wr (by rw [List.length_take]; omega)
      rw [← ext_front] at c
      have HG := Lib.hid (show findGo l (k + 1) = if mean (l.take (k + 1)) ≠ [] then (k + 1, mean (l.take (k + 1))) else findGo l k from rfl)
      cases hm : mean (l.take (k + 1)) with
      | nil =>
        rw [hm] at c
        have HH := Lib.hid (show findGo l k = findL l by rw [← HF.out, HG.out, hm]; rfl)
        clear hm
        go_wp2_with fail
        refine c.mono ?_
        rintro e w' ⟨rfl, rfl⟩
        go_wp2
        go_roundw
        case rel => exact ⟨k, by go_num, by omega, by omega, HH.out, rfl⟩
        case measure => simp [RowKit.intOf]
      | cons x r =>
        rw [hm] at c
        have HH := Lib.hid (show findL l = (k + 1, x :: r) by rw [← HF.out, HG.out, hm]; rfl)
        have ht : ((x :: r) == ([] : List UInt8)) = false := rfl
        clear hm HG HF
        generalize x :: r = q at c ht HH
        go_wp2_with fail
        refine c.mono ?_
        rintro e w' ⟨rfl, rfl⟩
        go_wp2
        go_ret2
        rw [HH.out]
        exact ⟨rfl, rfl⟩

set_option maxRecDepth 100000 in
theorem find_one : findL [110, 111, 116, 105, 116] = (3, [194, 172]) ∧ findL [110, 111, 116, 105, 110, 59] = (6, [226, 136, 137]) := by decide

end Go.Proofs.YtndcmapifihgeaaGreatDoor.En
