/- The example, walked. -/
import Derived.Test.YtpnjjpbgbdicoaaNodes
namespace Go.Proofs.Ytpnjjpbgbdicoaa
open Go.RowKit Go.Lib
open At (Str cellsA cellsA_len Sl)

set_option maxHeartbeats 4000000 in
set_option maxRecDepth 100000 in
theorem speaks_any (w : World) : Calls Try.prog 8 #[] w fun e w' => e = .returned (.bool true) ∧ Below w.heap.size w w' := by
  go_enter Try.func8, Try.ntmps8
  go_wp2_with fail
  refine (new_any w).mono ?_
  rintro e w1 ⟨R, vn, rfl, h1, hb1⟩
  have t1 := text_any h1 0 _ (show rootL[0]? = some ⟨[], [], .slice none 0 0, -1, [], .slice none 0 0⟩ from rfl) [97] (by decide) (by decide) (fun p hp => by cases hp)
  have HB1 := Lib.hid hb1
  clear hb1 h1
  go_wp2_with fail
  refine t1.mono ?_
  rintro e w2 ⟨rfl, inn, vi, h2, hg2, hi2⟩
  have hn2 : (rootL.set 0 { (⟨[], [], .slice none 0 0, -1, [], .slice none 0 0⟩ : QN) with inn := inn, vi := vi })[0]? = some ⟨[], [], .slice none 0 0, -1, inn, vi⟩ := rfl
  have hi2' : inn.map abp = [(0, [97])] := hi2
  have hl2 : inn.length = 1 := by have := congrArg List.length hi2'; simpa using this
  have t2 := text_any h2 0 _ hn2 [98] (by show inn.length + 1 ≤ _; omega) (by decide) (fun p hp => by
    have : abp p ∈ inn.map abp := List.mem_map.2 ⟨p, hp, rfl⟩
    rw [hi2'] at this
    simp only [List.mem_singleton] at this
    have e2 : p.tx = [97] := congrArg Prod.snd this
    rw [e2]
    decide)
  have HB2 := Lib.hid (HB1.out.trans hg2.below)
  clear h2 hg2 t1
  go_wp2_with fail
  refine t2.mono ?_
  rintro e w3 ⟨rfl, inn3, vi3, h3, hg3, hi3⟩
  have hn3 : ((rootL.set 0 { (⟨[], [], .slice none 0 0, -1, [], .slice none 0 0⟩ : QN) with inn := inn, vi := vi }).set 0 { (⟨[], [], .slice none 0 0, -1, inn, vi⟩ : QN) with inn := inn3, vi := vi3 })[0]? = some ⟨[], [], .slice none 0 0, -1, inn3, vi3⟩ := rfl
  have hi3' : inn3.map abp = [(0, [97, 98])] := by
    rw [hi3]
    show mtext (inn.map abp) [98] = _
    rw [hi2']
    rfl
  have t3 := nodes_any (.cons [] [] [97, 98] .nil .nil) h3 0 _ hn3 (by
      show T _ (inn3.map abp) _
      rw [hi3']
      exact ⟨_, [], rfl, rfl, Or.inl ⟨rfl, rfl, rfl, rfl, rfl⟩⟩) ⟨Nat.zero_le _, Nat.zero_le _, trivial, trivial⟩ (by decide) (fun k m hk => by
      rcases Nat.eq_zero_or_pos k with rfl | hk0
      · right
        rw [hn3] at hk
        cases hk
        exact ⟨rfl, rfl⟩
      · left; omega)
  have HB3 := Lib.hid (HB2.out.trans hg3.below)
  clear h3 hg3 t2
  go_wp2_with fail
  refine t3.mono ?_
  rintro e w4 ⟨v, rfl, ho, hb4⟩
  obtain ⟨a, c, rfl, hsl⟩ := ho.sl
  rcases hsl.at4 with h0 | ⟨b, off, rfl, h4⟩
  · cases h0
  · obtain ⟨aa, ca, a', c', c0, c1, c2, c3, -, -, -⟩ := h4.cons
    have HB4 := Lib.hid (HB3.out.trans (hb4.mono HB3.out.size))
    have hlen : (F.cons [] [] [97, 98] .nil .nil).len = 1 := rfl
    rw [hlen]
    clear hb4 h4 hsl ho t3
    go_wp2
    go_ret
    exact ⟨rfl, HB4.out⟩
end Go.Proofs.Ytpnjjpbgbdicoaa
