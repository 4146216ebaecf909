/- The law AttrSames, walked. -/
import Derived.Test.YtmdpkolncfnfbaaKeep
import Derived.Test.YtmdpkolncfnfbaaLGets
namespace Go.Proofs.Ytmdpkolncfnfbaa
open Go.RowKit Go.Lib

theorem below_of_grown {w w' : World} (h : w.grownBy w' none) : Below w.heap.size w w' := ⟨h.os, h.tape, h.output, h.size, fun k hk => h.block k hk (by simp)⟩

theorem rows34_alloc (w : World) (o : Obj) : Rows34 w (w.alloc o) := ⟨by simp, fun g cur f h => by
  rw [(World.grownBy_alloc w o none).block g (Array.getElem?_eq_some_iff.1 h).1 (by simp)]; exact h⟩

theorem no_any (x1 x2 : Str) (w : World) : Calls Try.prog 20 #[.agg #[.string ⟨x1.toArray⟩, .string ⟨x2.toArray⟩]] w fun e w' => e = .returned (.bool false) ∧ ∃ o, w' = w.alloc o := by
  go_enter Try.func20, Try.ntmps20
  go_wp2
  go_ret
  exact ⟨rfl, _, rfl⟩
theorem yes_any (x1 x2 : Str) (w : World) : Calls Try.prog 21 #[.agg #[.string ⟨x1.toArray⟩, .string ⟨x2.toArray⟩]] w fun e w' => e = .returned (.bool true) ∧ ∃ o, w' = w.alloc o := by
  go_enter Try.func21, Try.ntmps21
  go_wp2
  go_ret
  exact ⟨rfl, _, rfl⟩

theorem kept_none (L : List At) : ∀ k, kept L (fun _ => false) k = []
  | 0 => rfl
  | k + 1 => by rw [kept_no rfl]; exact kept_none L k
theorem kept_all (L : List At) : ∀ k, k ≤ L.length → kept L (fun _ => true) k = L.take k
  | 0, _ => rfl
  | k + 1, h => by rw [kept_yes rfl, kept_all L k (by omega), take_snoc (by omega)]

theorem keep_no (L : List At) (v : Value) (B0 : Nat) (w : World) (hown : w.ownsRow B0 34 2 v L.length (cellsA L)) (hl : L.length ≤ 1000) :
    Calls Try.prog 18 #[v, .func (.func 20) #[] #[]] w fun e w' => ∃ v', e = .returned v' ∧ w'.ownsRow w.heap.size 34 2 v' ([] : List At).length (cellsA []) ∧ Below w.heap.size w w' := by
  refine (keep_any L v B0 20 #[] (fun _ => false) (fun _ _ => True) none w (Go.Proofs.enters_of Try.func20 (by kernel_rfl) rfl) hown hl ?_ trivial (fun _ _ _ _ _ => trivial) ?_).mono ?_
  · cases v.ownBlock with
    | none => exact Or.inl rfl
    | some g => exact Or.inr (by simp)
  · intro i w1 _ _ hg
    refine (no_any _ _ w1).mono ?_
    rintro e w2 ⟨rfl, o, rfl⟩
    exact ⟨rfl, trivial, hg.trans (World.grownBy_alloc w1 o none), rows34_alloc w1 o⟩
  · rintro e w' ⟨v', rfl, ho, -, hg⟩
    rw [kept_none] at ho
    exact ⟨v', rfl, ho, below_of_grown hg⟩

theorem keep_yes (L : List At) (v : Value) (B0 : Nat) (w : World) (hown : w.ownsRow B0 34 2 v L.length (cellsA L)) (hl : L.length ≤ 1000) :
    Calls Try.prog 18 #[v, .func (.func 21) #[] #[]] w fun e w' => ∃ v', e = .returned v' ∧ w'.ownsRow w.heap.size 34 2 v' L.length (cellsA L) ∧ Below w.heap.size w w' := by
  refine (keep_any L v B0 21 #[] (fun _ => true) (fun _ _ => True) none w (Go.Proofs.enters_of Try.func21 (by kernel_rfl) rfl) hown hl ?_ trivial (fun _ _ _ _ _ => trivial) ?_).mono ?_
  · cases v.ownBlock with
    | none => exact Or.inl rfl
    | some g => exact Or.inr (by simp)
  · intro i w1 _ _ hg
    refine (yes_any _ _ w1).mono ?_
    rintro e w2 ⟨rfl, o, rfl⟩
    exact ⟨rfl, trivial, hg.trans (World.grownBy_alloc w1 o none), rows34_alloc w1 o⟩
  · rintro e w' ⟨v', rfl, ho, -, hg⟩
    rw [kept_all L _ (Nat.le_refl _), List.take_length] at ho
    exact ⟨v', rfl, ho, below_of_grown hg⟩

theorem sl_of {w : World} {B : Nat} {e : TypeId} {a : Option Addr} {cap : Nat} {L : List At} (h : w.ownsRow B e 2 (.slice a L.length cap) L.length (cellsA L)) : Sl L a cap w := by
  obtain ⟨a', cap', hv, hs⟩ := sl_own h
  cases hv
  exact hs

theorem alike_refl (L : List At) : alike L L = true := decide_eq_true rfl

set_option maxHeartbeats 1000000 in
set_option maxRecDepth 100000 in
theorem attrSames_long (N : Nat) (a : Option Addr) (cap : Nat) (M : Nat) (b : Option Addr) (capB : Nat) (x1 x2 : Str) (w : World) (h : 30 < N ∨ 30 < M) :
    Calls Try.prog 7 #[.slice a N cap, .slice b M capB, .agg #[.string ⟨x1.toArray⟩, .string ⟨x2.toArray⟩]] w fun e w' => e = .returned (.bool true) ∧ Below w.heap.size w w' := by
  have hb0 : Below w.heap.size w (w.alloc (.cells #[.string ⟨x1.toArray⟩, .string ⟨x2.toArray⟩] 24)) := below_alloc _
  by_cases h0 : 30 < N
  · have h1 : (30 : Int) < (N : Int) := by omega
    clear h
    go_enter Try.func7, Try.ntmps7
    go_wp2_with fail
    refine (speaks_any _).mono ?_
    rintro e w1 ⟨rfl, hb1⟩
    go_wp2_with fail
    refine (speaks_any w1).mono ?_
    rintro e w2 ⟨rfl, hb2⟩
    go_wp2
    go_ret
    exact ⟨rfl, below_trans (below_trans hb0 hb1) hb2⟩
  · have h1 : ¬ (30 : Int) < (N : Int) := by omega
    have h2 : (30 : Int) < (M : Int) := by omega
    clear h
    go_enter Try.func7, Try.ntmps7
    go_wp2_with fail
    refine (speaks_any _).mono ?_
    rintro e w1 ⟨rfl, hb1⟩
    go_wp2_with fail
    refine (speaks_any w1).mono ?_
    rintro e w2 ⟨rfl, hb2⟩
    go_wp2
    go_ret
    exact ⟨rfl, below_trans (below_trans hb0 hb1) hb2⟩

set_option maxHeartbeats 8000000 in
set_option maxRecDepth 100000 in
theorem attrSames_walk (L : List At) (a : Option Addr) (cap : Nat) (M : List At) (b : Option Addr) (capB : Nat) (x1 x2 : Str) (w : World) (hs : Sl L a cap w) (ht : Sl M b capB w) (hl : L.length ≤ 30) (hm : M.length ≤ 30) :
    Calls Try.prog 7 #[.slice a L.length cap, .slice b M.length capB, .agg #[.string ⟨x1.toArray⟩, .string ⟨x2.toArray⟩]] w fun e w' => e = .returned (.bool true) ∧ Below w.heap.size w w' := by
  have h1 : ¬ (30 : Int) < (L.length : Int) := by omega
  have h2 : ¬ (30 : Int) < (M.length : Int) := by omega
  have hb0 : Below w.heap.size w (w.alloc (.cells #[.string ⟨x1.toArray⟩, .string ⟨x2.toArray⟩] 24)) := below_alloc _
  have HS := Lib.hid (hs.below hb0)
  have HT := Lib.hid (ht.below hb0)
  have HB0 := Lib.hid hb0
  clear hs ht hb0
  go_enter Try.func7, Try.ntmps7
  go_wp2_with fail
  refine (speaks_any _).mono ?_
  rintro e w1 ⟨rfl, hb1⟩
  have cO := of_any L a cap w1 (HS.out.below hb1) (by omega)
  have HB1 := Lib.hid hb1
  clear hb1
  go_wp2_with fail
  refine cO.mono ?_
  rintro e w2 ⟨v, rfl, hown, hb2⟩
  have HB2 := Lib.hid (below_trans HB1.out hb2)
  have cO2 := of_any M b capB w2 (HT.out.below HB2.out) (by omega)
  have HL2 := Lib.hid hown
  clear hb2 cO HB1 hown
  go_wp2_with fail
  refine cO2.mono ?_
  rintro e w3 ⟨vm, rfl, hownm, hb3⟩
  have HB3 := Lib.hid (below_trans HB2.out hb3)
  have hl3 := ownsRow_below HL2.out hb3
  obtain ⟨al, capl, rfl, hsl⟩ := sl_own hl3
  obtain ⟨am, capm, rfl, hsm⟩ := sl_own hownm
  obtain ⟨d1, d2⟩ := box_at HB3.out
  have cA := add_any L al capl (x1, x2) w3 hsl (by omega)
  have HL3 := Lib.hid hl3
  have HM3 := Lib.hid hownm
  clear hb3 cO2 HB2 HL2 hl3 hsl hsm hownm
  go_wp2_with fail
  refine cA.mono ?_
  rintro e w4 ⟨v4, rfl, hown4, hb4⟩
  have HB4 := Lib.hid (below_trans HB3.out hb4)
  obtain ⟨an, capn, rfl, -⟩ := sl_own hown4
  have HL4 := Lib.hid (ownsRow_below HL3.out hb4)
  have HM4 := Lib.hid (ownsRow_below HM3.out hb4)
  have HN4 := Lib.hid hown4
  clear hb4 cA HB3 HL3 HM3 hown4 d1 d2
  obtain ⟨m1, m2⟩ := add_len L (x1, x2)
  have cA := same_any L al capl M am capm w4 (sl_of HL4.out) (sl_of HM4.out) (by omega) (by omega)
  obtain ⟨s1, hs1⟩ : ∃ s1, same L M = s1 := ⟨_, rfl⟩
  rw [hs1] at cA
  cases hg : get L x1 with
  | none =>
    have HG := Lib.hid hg
    clear hg
    go_wp2_with fail
    refine cA.mono ?_
    rintro e w5 ⟨rfl, hb5⟩
    have HB5 := Lib.hid (below_trans HB4.out hb5)
    have HL5 := Lib.hid (ownsRow_below HL4.out hb5)
    have HN5 := Lib.hid (ownsRow_below HN4.out hb5)
    have cB := same_any M am capm L al capl w5 (sl_of (ownsRow_below HM4.out hb5)) (sl_of HL5.out) (by omega) (by omega)
    rw [same_comm M L, hs1] at cB
    have t0 : (s1 != s1) = false := by simp
    have HSS := Lib.hid hs1
    clear hb5 cA HB4 HL4 HM4 HN4 hs1
    go_wp2_with fail
    refine cB.mono ?_
    rintro e w6 ⟨rfl, hb6⟩
    have HB6 := Lib.hid (below_trans HB5.out hb6)
    have HL6 := Lib.hid (ownsRow_below HL5.out hb6)
    have HN6 := Lib.hid (ownsRow_below HN5.out hb6)
    clear hb6 cB HB5 HL5 HN5
    have t1 : (L.length : Int) < ((add L (x1, x2)).length : Int) := by rw [add_none (x := (x1, x2)) HG.out]; simp; omega
    have t2 : (((add L (x1, x2)).length : Int) == (L.length : Int)) = false := by rw [add_none (x := (x1, x2)) HG.out]; simp; omega
    have cT := same_any (add L (x1, x2)) an capn L al capl w6 (sl_of HN6.out) (sl_of HL6.out) (by omega) (by omega)
    rw [same_len (by omega)] at cT
    go_wp2_with fail
    refine cT.mono ?_
    rintro e w8 ⟨rfl, hb8⟩
    have HB8 := Lib.hid (below_trans HB6.out hb8)
    have HL8 := Lib.hid (ownsRow_below HL6.out hb8)
    clear hb8 cT HB6 HL6
    have c9 := keep_no L _ _ w8 HL8.out (by omega)
    go_wp2_with fail
    refine c9.mono ?_
    rintro e w9 ⟨v9, rfl, hown9, hb9⟩
    obtain ⟨a9, cap9, rfl, -⟩ := sl_own hown9
    have HB9 := Lib.hid (below_trans HB8.out hb9)
    have HL9 := Lib.hid (ownsRow_below HL8.out hb9)
    have c10 := keep_yes L _ _ w9 HL9.out (by omega)
    clear hb9 c9 HB8 HL8 hown9
    simp only [List.length_nil]
    go_wp2_with fail
    refine c10.mono ?_
    rintro e w10 ⟨v10, rfl, hown10, hb10⟩
    obtain ⟨a10, cap10, rfl, hs10⟩ := sl_own hown10
    have HB10 := Lib.hid (below_trans HB9.out hb10)
    have c11 := to_any L a10 cap10 w10 hs10 (by omega)
    clear hb10 c10 HB9 HL9 hown10 hs10
    go_wp2_with fail
    refine c11.mono ?_
    rintro e w11 ⟨v11, rfl, hown11, hb11⟩
    obtain ⟨a11, cap11, rfl, hs11⟩ := sl_own hown11
    have HB11 := Lib.hid (below_trans HB10.out hb11)
    have c12 := alike_any L a11 cap11 L a cap w11 hs11 (HS.out.below HB11.out) (by omega)
    rw [alike_refl] at c12
    clear hb11 c11 HB10 hown11 hs11
    go_wp2_with fail
    refine c12.mono ?_
    rintro e w12 ⟨rfl, hb12⟩
    have HB12 := Lib.hid (below_trans HB11.out hb12)
    clear hb12
    go_wp2
    go_ret
    exact ⟨rfl, below_trans HB0.out HB12.out⟩
  | some u =>
    have HG := Lib.hid hg
    clear hg
    go_wp2_with fail
    refine cA.mono ?_
    rintro e w5 ⟨rfl, hb5⟩
    have HB5 := Lib.hid (below_trans HB4.out hb5)
    have HL5 := Lib.hid (ownsRow_below HL4.out hb5)
    have HN5 := Lib.hid (ownsRow_below HN4.out hb5)
    have cB := same_any M am capm L al capl w5 (sl_of (ownsRow_below HM4.out hb5)) (sl_of HL5.out) (by omega) (by omega)
    rw [same_comm M L, hs1] at cB
    have t0 : (s1 != s1) = false := by simp
    have HSS := Lib.hid hs1
    clear hb5 cA HB4 HL4 HM4 HN4 hs1
    go_wp2_with fail
    refine cB.mono ?_
    rintro e w6 ⟨rfl, hb6⟩
    have HB6 := Lib.hid (below_trans HB5.out hb6)
    have HL6 := Lib.hid (ownsRow_below HL5.out hb6)
    have HN6 := Lib.hid (ownsRow_below HN5.out hb6)
    clear hb6 cB HB5 HL5 HN5
    have t1 : ¬ ((L.length : Int) < ((add L (x1, x2)).length : Int)) := by rw [add_some (x := (x1, x2)) HG.out]; omega
    have t2 : (((add L (x1, x2)).length : Int) == (L.length : Int)) = true := by rw [add_some (x := (x1, x2)) HG.out]; simp
    have cT := to_any (add L (x1, x2)) an capn w6 (sl_of HN6.out) (by omega)
    go_wp2_with fail
    refine cT.mono ?_
    rintro e w7 ⟨vt, rfl, hownt, hb7⟩
    obtain ⟨at7, capt, rfl, hst⟩ := sl_own hownt
    have HB7 := Lib.hid (below_trans HB6.out hb7)
    have HL7 := Lib.hid (ownsRow_below HL6.out hb7)
    have cK := alike_any (add L (x1, x2)) at7 capt L a cap w7 hst (HS.out.below HB7.out) (by omega)
    rw [add_some (x := (x1, x2)) HG.out, alike_refl] at cK
    rw [add_some (x := (x1, x2)) HG.out]
    clear hb7 cT HB6 HL6 hst hownt
    go_wp2_with fail
    refine cK.mono ?_
    rintro e w8 ⟨rfl, hb8⟩
    have HB8 := Lib.hid (below_trans HB7.out hb8)
    have HL8 := Lib.hid (ownsRow_below HL7.out hb8)
    clear hb8 cK HB7 HL7
    have c9 := keep_no L _ _ w8 HL8.out (by omega)
    go_wp2_with fail
    refine c9.mono ?_
    rintro e w9 ⟨v9, rfl, hown9, hb9⟩
    obtain ⟨a9, cap9, rfl, -⟩ := sl_own hown9
    have HB9 := Lib.hid (below_trans HB8.out hb9)
    have HL9 := Lib.hid (ownsRow_below HL8.out hb9)
    have c10 := keep_yes L _ _ w9 HL9.out (by omega)
    clear hb9 c9 HB8 HL8 hown9
    simp only [List.length_nil]
    go_wp2_with fail
    refine c10.mono ?_
    rintro e w10 ⟨v10, rfl, hown10, hb10⟩
    obtain ⟨a10, cap10, rfl, hs10⟩ := sl_own hown10
    have HB10 := Lib.hid (below_trans HB9.out hb10)
    have c11 := to_any L a10 cap10 w10 hs10 (by omega)
    clear hb10 c10 HB9 HL9 hown10 hs10
    go_wp2_with fail
    refine c11.mono ?_
    rintro e w11 ⟨v11, rfl, hown11, hb11⟩
    obtain ⟨a11, cap11, rfl, hs11⟩ := sl_own hown11
    have HB11 := Lib.hid (below_trans HB10.out hb11)
    have c12 := alike_any L a11 cap11 L a cap w11 hs11 (HS.out.below HB11.out) (by omega)
    rw [alike_refl] at c12
    clear hb11 c11 HB10 hown11 hs11
    go_wp2_with fail
    refine c12.mono ?_
    rintro e w12 ⟨rfl, hb12⟩
    have HB12 := Lib.hid (below_trans HB11.out hb12)
    clear hb12
    go_wp2
    go_ret
    exact ⟨rfl, below_trans HB0.out HB12.out⟩
end Go.Proofs.Ytmdpkolncfnfbaa
