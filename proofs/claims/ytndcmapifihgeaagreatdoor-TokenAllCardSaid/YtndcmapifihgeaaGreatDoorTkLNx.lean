/- The law TokenNext, walked. -/
import Derived.Test.YtndcmapifihgeaaGreatDoorTkRT
import Derived.Test.YtndcmapifihgeaaGreatDoorTkTo
import Derived.Test.YtndcmapifihgeaaGreatDoorTkSpk
import Derived.Test.YtndcmapifihgeaaGreatDoorTgLRd
import Derived.Deep.RegionHeld3
namespace Go.Proofs.YtndcmapifihgeaaGreatDoor.Tk
open Go.RowKit Go.Lib
open Ch (at0 nx nx_width at0_lt at0_drop Sl Sl.below Cells allN allFrom ret_bool)
open Tg (bg tr tn Bk bk_new below_set6 own_set6 bgAt tkAt tkIn tokV)
open At (cellsA ads)

variable {l : List UInt8} {a : Option Addr} {cap i : Nat} {w w' : World}

/-- attributes as a slice -/
theorem slA_of {B : Nat} {e : TypeId} {a : Option Addr} {cap : Nat} {L : List At.At} (h : w.ownsRow B e 2 (.slice a L.length cap) L.length (cellsA L)) : At.Sl L a cap w := by
  obtain ⟨a', cap', hv, hs⟩ := At.sl_own h
  cases hv
  exact hs
theorem nxT_attrs (l n : List UInt8) (i : Nat) : (nxT l n i).attrs.length ≤ l.length := by
  unfold nxT
  split
  · simp [rwT]
  · unfold tdT
    split
    · unfold tgT
      cases h : tr (l.drop i) with
      | none => simp
      | some p =>
        obtain ⟨L, e⟩ := p
        have h1 := Tg.tr_bd h
        have h2 := Tg.ads_len L
        rw [List.length_drop] at h1
        show (if bg (l.drop i) = 1 then ads L else []).length ≤ _
        split
        · omega
        · simp
    · split
      · simp
      · simp

/-- the token at any place, and whether there is one -/
def nxA (l n : List UInt8) (x : Int) : Tok × Bool := if 0 ≤ x ∧ x < (l.length : Int) then (nxT l n x.toNat, true) else (⟨0, [], [], [], 0, 0⟩, false)
theorem nxA_attrs (l n : List UInt8) (x : Int) : (nxA l n x).1.attrs.length ≤ l.length := by
  unfold nxA
  split
  · exact nxT_attrs l n _
  · simp
def NAPost (l n : List UInt8) (x : Int) (w : World) (r : Ending) (w' : World) : Prop :=
  ∃ s, r = .returned (.tuple #[tkV (nxA l n x).1 s, .bool (nxA l n x).2]) ∧ w'.ownsRow w.heap.size 75 2 s (nxA l n x).1.attrs.length (cellsA (nxA l n x).1.attrs) ∧ Below w.heap.size w w'
def RAPost (l n : List UInt8) (x : Int) (w : World) (r : Ending) (w' : World) : Prop :=
  ∃ s, r = .returned (.tuple #[tkV (nxA l n x).1 s, .bool (nxA l n x).2]) ∧ w'.ownsRow w.heap.size 69 2 s (nxA l n x).1.attrs.length (cellsA (nxA l n x).1.attrs) ∧ Below w.heap.size w w'
theorem nextA (n : List UInt8) (x : Int) (w : World) (hs : Sl l a cap w) (hT : Tb w) (hl : l.length ≤ 100000 - 1) (hln : n.length ≤ 100000) :
    Calls Tryz.prog 6 #[.slice a l.length cap, .int .i64 x, .string ⟨n.toArray⟩] w (NAPost l n x w) := by
  unfold NAPost nxA
  by_cases h : 0 ≤ x ∧ x < (l.length : Int)
  · rw [if_pos h]
    obtain ⟨i, rfl⟩ : ∃ i : Nat, x = i := ⟨x.toNat, by omega⟩
    exact next_in n i w hs hT hl hln (by omega)
  · rw [if_neg h]
    exact (next_out n x l.length w h).mono (by
      rintro r w' ⟨rfl, hb⟩
      exact ⟨.slice none 0 0, rfl, World.ownsRow_nil _ _ _ _, hb⟩)
theorem rnextA (n : List UInt8) (x : Int) (w : World) (hs : Sl l a cap w) (hl : l.length ≤ 100000 - 1) (hln : n.length ≤ 100000) :
    Calls Tryz.prog 7 #[.slice a l.length cap, .int .i64 x, .string ⟨n.toArray⟩] w (RAPost l n x w) := by
  unfold RAPost nxA
  by_cases h : 0 ≤ x ∧ x < (l.length : Int)
  · rw [if_pos h]
    obtain ⟨i, rfl⟩ : ∃ i : Nat, x = i := ⟨x.toNat, by omega⟩
    exact rnext_in n i w hs hl hln (by omega)
  · rw [if_neg h]
    exact (rnext_out n x l.length w h).mono (by
      rintro r w' ⟨rfl, hb⟩
      exact ⟨.slice none 0 0, rfl, World.ownsRow_nil _ _ _ _, hb⟩)

set_option maxHeartbeats 1000000 in
set_option maxRecDepth 100000 in
theorem tokenNext_long (m : Nat) (n : List UInt8) (a : Option Addr) (cap : Nat) (x : Int) (w : World) (hT : Tb w) (h : 200 < m ∨ 40 < n.length) :
    Calls Tryz.prog 3 #[.slice a m cap, .int .i64 x, .string ⟨n.toArray⟩] w fun e w' => e = .returned (.bool true) ∧ Below w.heap.size w w' := by
  have hsz : (⟨n.toArray⟩ : ByteArray).size = n.length := Mk.str_size n
  by_cases hm : 200 < m
  · have h1 : (200 : Int) < (m : Int) := by omega
    clear h hm
    go_enter Tryz.func3, Tryz.ntmps3
    go_wp2_with fail
    refine (kspeaks_any w hT).mono ?_
    rintro e w1 ⟨rfl, hb1⟩
    go_wp2_with fail
    refine (kspeaks_any w1 (hT.below hb1)).mono ?_
    rintro e w2 ⟨rfl, hb2⟩
    go_wp2
    go_ret
    exact ⟨rfl, At.below_trans hb1 hb2⟩
  · have h1 : ¬ (200 : Int) < (m : Int) := by omega
    have h2 : (40 : Int) < (n.length : Int) := by omega
    clear h hm
    go_enter Tryz.func3, Tryz.ntmps3
    go_wp2_with fail
    refine (kspeaks_any w hT).mono ?_
    rintro e w1 ⟨rfl, hb1⟩
    go_wp2_with fail
    refine (kspeaks_any w1 (hT.below hb1)).mono ?_
    rintro e w2 ⟨rfl, hb2⟩
    go_wp2
    go_ret
    exact ⟨rfl, At.below_trans hb1 hb2⟩

def LRl (m : Nat) (w : World) (v : Value) (wr : World) : Prop := ∃ k : Nat, v = .int .i64 (k : Int) ∧ k ≤ m + 1 ∧ Below w.heap.size w wr

set_option maxHeartbeats 8000000 in
set_option maxRecDepth 100000 in
theorem tokenNext_walk (l : List UInt8) (a : Option Addr) (cap : Nat) (x : Int) (n : List UInt8) (w : World) (hs : Sl l a cap w) (hT : Tb w) (hl : l.length ≤ 200) (hn : n.length ≤ 40) :
    Calls Tryz.prog 3 #[.slice a l.length cap, .int .i64 x, .string ⟨n.toArray⟩] w fun e w' => e = .returned (.bool true) ∧ Below w.heap.size w w' := by
  have hsz : (⟨n.toArray⟩ : ByteArray).size = n.length := Mk.str_size n
  have h1 : ¬ ((200 : Int) < (l.length : Int)) := by omega
  have h2 : ¬ ((40 : Int) < (n.length : Int)) := by omega
  go_enter Tryz.func3, Tryz.ntmps3
  go_wp2_with fail
  refine (kspeaks_any w hT).mono ?_
  rintro e w1 ⟨rfl, hb1⟩
  have HB1 := Lib.hid hb1
  have HS := Lib.hid hs
  have HT := Lib.hid hT
  clear hb1 hs hT
  go_wp2
  go_loopw [28] (fun v wr => LRl l.length w v wr) (fun v _ => l.length + 1 - (RowKit.intOf v).toNat)
  case atStart => exact ⟨0, rfl, by omega, HB1.out⟩
  case round =>
    obtain ⟨k, rfl, hk, hbw⟩ := hrel
    have hszz := hbw.size
    by_cases hk1 : k < l.length + 1
    · have hk2 : (k : Int) < (l.length : Int) + 1 := by omega
      by_cases hk3 : k = l.length
      · subst hk3
        obtain ⟨T, hT2⟩ : ∃ T, nxA l n x = T := ⟨_, rfl⟩
        have hLl := nxA_attrs l n x
        have cN := nextA (l := l) (a := a) (cap := cap) n x wr (HS.out.below hbw) (HT.out.below hbw) (by omega) (by omega)
        have hRR := fun (wz : World) (hz : Below w.heap.size w wz) => rnextA (l := l) (a := a) (cap := cap) n x wz (HS.out.below hz) (by omega) (by omega)
        unfold NAPost at cN
        unfold RAPost at hRR
        rw [hT2] at hLl cN
        simp only [hT2] at hRR
        have hLl : T.1.attrs.length ≤ l.length := hLl
        obtain ⟨t, ok⟩ := T
        simp only at hLl cN hRR
        unfold tkV at cN
        have HBW := Lib.hid hbw
        have HRR := Lib.hid hRR
        clear hbw hRR hT2
        cases ok with
        | true =>
          go_wp2_with fail
          refine cN.mono ?_
          rintro e w2 ⟨s2, rfl, ho2, hb2⟩
          obtain ⟨a5, c5, rfl, -⟩ := At.sl_own ho2
          have hbw2 := HBW.out.trans (hb2.mono HBW.out.size)
          obtain ⟨WD, hWD⟩ : ∃ W, w2.alloc (.cells #[.int .i64 (t.kind : Int), .string ⟨t.name.toArray⟩, .slice a5 t.attrs.length c5, .string ⟨t.text.toArray⟩, .int .i64 (t.frm : Int), .int .i64 (t.upto : Int)] 26) = W := ⟨_, rfl⟩
          have hbD : Below w2.heap.size w2 WD := by rw [← hWD]; exact (Below.refl _ w2).alloc (Nat.le_refl _) _
          have hbwD := hbw2.trans (hbD.mono hbw2.size)
          have bD : Bk w2.heap.size #[.int .i64 (t.kind : Int), .string ⟨t.name.toArray⟩, .slice a5 t.attrs.length c5, .string ⟨t.text.toArray⟩, .int .i64 (t.frm : Int), .int .i64 (t.upto : Int)] 26 WD := by rw [← hWD]; exact bk_new w2 _ 26
          have hsD := (slA_of ho2).below hbD
          have cQ := HRR.out WD hbwD
          unfold tkV at cQ
          have HSD := Lib.hid hsD
          have HBD := Lib.hid hbwD
          have HKD := Lib.hid bD
          clear ho2 hb2 hbw2 hbD hbwD bD hsD
          go_wp2_with fail
          refine cQ.mono ?_
          rintro e w3 ⟨s3, rfl, ho3, hb3⟩
          obtain ⟨a6, c6, rfl, -⟩ := At.sl_own ho3
          have hbw3 := HBD.out.trans (hb3.mono HBD.out.size)
          obtain ⟨WE, hWE⟩ : ∃ W, w3.alloc (.cells #[.int .i64 (t.kind : Int), .string ⟨t.name.toArray⟩, .slice a6 t.attrs.length c6, .string ⟨t.text.toArray⟩, .int .i64 (t.frm : Int), .int .i64 (t.upto : Int)] 31) = W := ⟨_, rfl⟩
          have hbE : Below w3.heap.size w3 WE := by rw [← hWE]; exact (Below.refl _ w3).alloc (Nat.le_refl _) _
          have hbwE := hbw3.trans (hbE.mono hbw3.size)
          have bE : Bk w3.heap.size #[.int .i64 (t.kind : Int), .string ⟨t.name.toArray⟩, .slice a6 t.attrs.length c6, .string ⟨t.text.toArray⟩, .int .i64 (t.frm : Int), .int .i64 (t.upto : Int)] 31 WE := by rw [← hWE]; exact bk_new w3 _ 31
          have bDE := (HKD.out.below hb3).below hbE
          have hsE := (slA_of ho3).below hbE
          have hsDE := (HSD.out.below hb3).below hbE
          have dr : Below WE.heap.size WE WE.drew := ⟨rfl, rfl, rfl, Nat.le_refl _, fun _ _ => rfl⟩
          have cTo := to_tx (t.kind : Int) t.name t.text t.attrs (t.frm : Int) (t.upto : Int) a5 c5 WE.drew (hsDE.below dr) (by omega)
          have SA := Tg.six2 bDE bE
          have SD := Tg.six2 bDE.drew bE.drew
          have HKE := Lib.hid bE
          have HKD2 := Lib.hid bDE
          have HSE := Lib.hid hsE
          have HBE := Lib.hid hbwE
          clear ho3 hb3 hbw3 hbE hbwE bE bDE hsE hsDE dr
          go_wp2_with fail
          go_region_held3 (fun w' => (w'.cell? ⟨w2.heap.size, 0, none⟩ = some (.int .i64 (t.kind : Int)) ∧ w'.cell? ⟨w2.heap.size, 1, none⟩ = some (.string ⟨t.name.toArray⟩) ∧ w'.cell? ⟨w2.heap.size, 2, none⟩ = some (.slice a5 t.attrs.length c5) ∧ w'.cell? ⟨w2.heap.size, 3, none⟩ = some (.string ⟨t.text.toArray⟩) ∧ w'.cell? ⟨w2.heap.size, 4, none⟩ = some (.int .i64 (t.frm : Int)) ∧ w'.cell? ⟨w2.heap.size, 5, none⟩ = some (.int .i64 (t.upto : Int))) ∧ w'.cell? ⟨w3.heap.size, 0, none⟩ = some (.int .i64 (t.kind : Int)) ∧ w'.cell? ⟨w3.heap.size, 1, none⟩ = some (.string ⟨t.name.toArray⟩) ∧ w'.cell? ⟨w3.heap.size, 2, none⟩ = some (.slice a6 t.attrs.length c6) ∧ w'.cell? ⟨w3.heap.size, 3, none⟩ = some (.string ⟨t.text.toArray⟩) ∧ w'.cell? ⟨w3.heap.size, 4, none⟩ = some (.int .i64 (t.frm : Int)) ∧ w'.cell? ⟨w3.heap.size, 5, none⟩ = some (.int .i64 (t.upto : Int))) (first | with_reducible exact S10 | with_reducible exact S7 | with_reducible exact SA | with_reducible exact SD)
            (first
            | (go_at_call 9; with_reducible refine cTo.mono ?_; rintro e w7 ⟨a8, c8, rfl, ho8, hb8⟩; have hb8 := Tg.below_of_drew hb8; have S7 := Tg.six2 (HKD2.out.below hb8) (HKE.out.below hb8); have HK7 := Lib.hid (HKD2.out.below hb8); have HE7 := Lib.hid (HKE.out.below hb8); have cSm := same_tx (t.kind : Int) t.name t.text t.attrs (t.frm : Int) (t.upto : Int) a8 c8 a6 c6 w7 (slA_of ho8) (HSE.out.below hb8) (by omega); have HB8 := Lib.hid (HBE.out.trans (hb8.mono HBE.out.size)); clear ho8 hb8)
            | (go_at_call 8; refine cSm.mono ?_; rintro e w10 ⟨rfl, hb10⟩; have S10 := Tg.six2 (HK7.out.below hb10) (HE7.out.below hb10); have HB10 := Lib.hid (HB8.out.trans (hb10.mono HB8.out.size)); clear hb10))
          all_goals (try go_wp2)
          all_goals go_roundw
          case rel => exact ⟨l.length + 1, by go_num, by omega, HB10.out⟩
          case measure => first | (simp [RowKit.intOf]; done) | (simp [RowKit.intOf]; omega)
        | false =>
          go_wp2_with fail
          refine cN.mono ?_
          rintro e w2 ⟨s2, rfl, ho2, hb2⟩
          obtain ⟨a5, c5, rfl, -⟩ := At.sl_own ho2
          have hbw2 := HBW.out.trans (hb2.mono HBW.out.size)
          obtain ⟨WD, hWD⟩ : ∃ W, w2.alloc (.cells #[.int .i64 (t.kind : Int), .string ⟨t.name.toArray⟩, .slice a5 t.attrs.length c5, .string ⟨t.text.toArray⟩, .int .i64 (t.frm : Int), .int .i64 (t.upto : Int)] 26) = W := ⟨_, rfl⟩
          have hbD : Below w2.heap.size w2 WD := by rw [← hWD]; exact (Below.refl _ w2).alloc (Nat.le_refl _) _
          have hbwD := hbw2.trans (hbD.mono hbw2.size)
          have bD : Bk w2.heap.size #[.int .i64 (t.kind : Int), .string ⟨t.name.toArray⟩, .slice a5 t.attrs.length c5, .string ⟨t.text.toArray⟩, .int .i64 (t.frm : Int), .int .i64 (t.upto : Int)] 26 WD := by rw [← hWD]; exact bk_new w2 _ 26
          have hsD := (slA_of ho2).below hbD
          have cQ := HRR.out WD hbwD
          unfold tkV at cQ
          have HSD := Lib.hid hsD
          have HBD := Lib.hid hbwD
          have HKD := Lib.hid bD
          clear ho2 hb2 hbw2 hbD hbwD bD hsD
          go_wp2_with fail
          refine cQ.mono ?_
          rintro e w3 ⟨s3, rfl, ho3, hb3⟩
          obtain ⟨a6, c6, rfl, -⟩ := At.sl_own ho3
          have hbw3 := HBD.out.trans (hb3.mono HBD.out.size)
          obtain ⟨WE, hWE⟩ : ∃ W, w3.alloc (.cells #[.int .i64 (t.kind : Int), .string ⟨t.name.toArray⟩, .slice a6 t.attrs.length c6, .string ⟨t.text.toArray⟩, .int .i64 (t.frm : Int), .int .i64 (t.upto : Int)] 31) = W := ⟨_, rfl⟩
          have hbE : Below w3.heap.size w3 WE := by rw [← hWE]; exact (Below.refl _ w3).alloc (Nat.le_refl _) _
          have hbwE := hbw3.trans (hbE.mono hbw3.size)
          have bE : Bk w3.heap.size #[.int .i64 (t.kind : Int), .string ⟨t.name.toArray⟩, .slice a6 t.attrs.length c6, .string ⟨t.text.toArray⟩, .int .i64 (t.frm : Int), .int .i64 (t.upto : Int)] 31 WE := by rw [← hWE]; exact bk_new w3 _ 31
          have bDE := (HKD.out.below hb3).below hbE
          have hsE := (slA_of ho3).below hbE
          have hsDE := (HSD.out.below hb3).below hbE
          have dr : Below WE.heap.size WE WE.drew := ⟨rfl, rfl, rfl, Nat.le_refl _, fun _ _ => rfl⟩
          have cTo := to_tx (t.kind : Int) t.name t.text t.attrs (t.frm : Int) (t.upto : Int) a5 c5 WE.drew (hsDE.below dr) (by omega)
          have SA := Tg.six2 bDE bE
          have SD := Tg.six2 bDE.drew bE.drew
          have HKE := Lib.hid bE
          have HKD2 := Lib.hid bDE
          have HSE := Lib.hid hsE
          have HBE := Lib.hid hbwE
          clear ho3 hb3 hbw3 hbE hbwE bE bDE hsE hsDE dr
          go_wp2_with fail
          go_region_held3 (fun w' => (w'.cell? ⟨w2.heap.size, 0, none⟩ = some (.int .i64 (t.kind : Int)) ∧ w'.cell? ⟨w2.heap.size, 1, none⟩ = some (.string ⟨t.name.toArray⟩) ∧ w'.cell? ⟨w2.heap.size, 2, none⟩ = some (.slice a5 t.attrs.length c5) ∧ w'.cell? ⟨w2.heap.size, 3, none⟩ = some (.string ⟨t.text.toArray⟩) ∧ w'.cell? ⟨w2.heap.size, 4, none⟩ = some (.int .i64 (t.frm : Int)) ∧ w'.cell? ⟨w2.heap.size, 5, none⟩ = some (.int .i64 (t.upto : Int))) ∧ w'.cell? ⟨w3.heap.size, 0, none⟩ = some (.int .i64 (t.kind : Int)) ∧ w'.cell? ⟨w3.heap.size, 1, none⟩ = some (.string ⟨t.name.toArray⟩) ∧ w'.cell? ⟨w3.heap.size, 2, none⟩ = some (.slice a6 t.attrs.length c6) ∧ w'.cell? ⟨w3.heap.size, 3, none⟩ = some (.string ⟨t.text.toArray⟩) ∧ w'.cell? ⟨w3.heap.size, 4, none⟩ = some (.int .i64 (t.frm : Int)) ∧ w'.cell? ⟨w3.heap.size, 5, none⟩ = some (.int .i64 (t.upto : Int))) (first | with_reducible exact S10 | with_reducible exact S7 | with_reducible exact SA | with_reducible exact SD)
            (first
            | (go_at_call 9; with_reducible refine cTo.mono ?_; rintro e w7 ⟨a8, c8, rfl, ho8, hb8⟩; have hb8 := Tg.below_of_drew hb8; have S7 := Tg.six2 (HKD2.out.below hb8) (HKE.out.below hb8); have HK7 := Lib.hid (HKD2.out.below hb8); have HE7 := Lib.hid (HKE.out.below hb8); have cSm := same_tx (t.kind : Int) t.name t.text t.attrs (t.frm : Int) (t.upto : Int) a8 c8 a6 c6 w7 (slA_of ho8) (HSE.out.below hb8) (by omega); have HB8 := Lib.hid (HBE.out.trans (hb8.mono HBE.out.size)); clear ho8 hb8)
            | (go_at_call 8; refine cSm.mono ?_; rintro e w10 ⟨rfl, hb10⟩; have S10 := Tg.six2 (HK7.out.below hb10) (HE7.out.below hb10); have HB10 := Lib.hid (HB8.out.trans (hb10.mono HB8.out.size)); clear hb10))
          all_goals (try go_wp2)
          all_goals go_roundw
          case rel => exact ⟨l.length + 1, by go_num, by omega, HB10.out⟩
          case measure => first | (simp [RowKit.intOf]; done) | (simp [RowKit.intOf]; omega)
      · have hk4 : ¬ ((k : Int) = (l.length : Int)) := by omega
        obtain ⟨T, hT2⟩ : ∃ T, nxA l n (k : Int) = T := ⟨_, rfl⟩
        have hLl := nxA_attrs l n (k : Int)
        have cN := nextA (l := l) (a := a) (cap := cap) n (k : Int) wr (HS.out.below hbw) (HT.out.below hbw) (by omega) (by omega)
        have hRR := fun (wz : World) (hz : Below w.heap.size w wz) => rnextA (l := l) (a := a) (cap := cap) n (k : Int) wz (HS.out.below hz) (by omega) (by omega)
        unfold NAPost at cN
        unfold RAPost at hRR
        rw [hT2] at hLl cN
        simp only [hT2] at hRR
        have hLl : T.1.attrs.length ≤ l.length := hLl
        obtain ⟨t, ok⟩ := T
        simp only at hLl cN hRR
        unfold tkV at cN
        have HBW := Lib.hid hbw
        have HRR := Lib.hid hRR
        clear hbw hRR hT2
        cases ok with
        | true =>
          go_wp2_with fail
          refine cN.mono ?_
          rintro e w2 ⟨s2, rfl, ho2, hb2⟩
          obtain ⟨a5, c5, rfl, -⟩ := At.sl_own ho2
          have hbw2 := HBW.out.trans (hb2.mono HBW.out.size)
          obtain ⟨WD, hWD⟩ : ∃ W, w2.alloc (.cells #[.int .i64 (t.kind : Int), .string ⟨t.name.toArray⟩, .slice a5 t.attrs.length c5, .string ⟨t.text.toArray⟩, .int .i64 (t.frm : Int), .int .i64 (t.upto : Int)] 26) = W := ⟨_, rfl⟩
          have hbD : Below w2.heap.size w2 WD := by rw [← hWD]; exact (Below.refl _ w2).alloc (Nat.le_refl _) _
          have hbwD := hbw2.trans (hbD.mono hbw2.size)
          have bD : Bk w2.heap.size #[.int .i64 (t.kind : Int), .string ⟨t.name.toArray⟩, .slice a5 t.attrs.length c5, .string ⟨t.text.toArray⟩, .int .i64 (t.frm : Int), .int .i64 (t.upto : Int)] 26 WD := by rw [← hWD]; exact bk_new w2 _ 26
          have hsD := (slA_of ho2).below hbD
          have cQ := HRR.out WD hbwD
          unfold tkV at cQ
          have HSD := Lib.hid hsD
          have HBD := Lib.hid hbwD
          have HKD := Lib.hid bD
          clear ho2 hb2 hbw2 hbD hbwD bD hsD
          go_wp2_with fail
          refine cQ.mono ?_
          rintro e w3 ⟨s3, rfl, ho3, hb3⟩
          obtain ⟨a6, c6, rfl, -⟩ := At.sl_own ho3
          have hbw3 := HBD.out.trans (hb3.mono HBD.out.size)
          obtain ⟨WE, hWE⟩ : ∃ W, w3.alloc (.cells #[.int .i64 (t.kind : Int), .string ⟨t.name.toArray⟩, .slice a6 t.attrs.length c6, .string ⟨t.text.toArray⟩, .int .i64 (t.frm : Int), .int .i64 (t.upto : Int)] 31) = W := ⟨_, rfl⟩
          have hbE : Below w3.heap.size w3 WE := by rw [← hWE]; exact (Below.refl _ w3).alloc (Nat.le_refl _) _
          have hbwE := hbw3.trans (hbE.mono hbw3.size)
          have bE : Bk w3.heap.size #[.int .i64 (t.kind : Int), .string ⟨t.name.toArray⟩, .slice a6 t.attrs.length c6, .string ⟨t.text.toArray⟩, .int .i64 (t.frm : Int), .int .i64 (t.upto : Int)] 31 WE := by rw [← hWE]; exact bk_new w3 _ 31
          have bDE := (HKD.out.below hb3).below hbE
          have hsE := (slA_of ho3).below hbE
          have hsDE := (HSD.out.below hb3).below hbE
          have dr : Below WE.heap.size WE WE.drew := ⟨rfl, rfl, rfl, Nat.le_refl _, fun _ _ => rfl⟩
          have cTo := to_tx (t.kind : Int) t.name t.text t.attrs (t.frm : Int) (t.upto : Int) a5 c5 WE.drew (hsDE.below dr) (by omega)
          have SA := Tg.six2 bDE bE
          have SD := Tg.six2 bDE.drew bE.drew
          have HKE := Lib.hid bE
          have HKD2 := Lib.hid bDE
          have HSE := Lib.hid hsE
          have HBE := Lib.hid hbwE
          clear ho3 hb3 hbw3 hbE hbwE bE bDE hsE hsDE dr
          go_wp2_with fail
          go_region_held3 (fun w' => (w'.cell? ⟨w2.heap.size, 0, none⟩ = some (.int .i64 (t.kind : Int)) ∧ w'.cell? ⟨w2.heap.size, 1, none⟩ = some (.string ⟨t.name.toArray⟩) ∧ w'.cell? ⟨w2.heap.size, 2, none⟩ = some (.slice a5 t.attrs.length c5) ∧ w'.cell? ⟨w2.heap.size, 3, none⟩ = some (.string ⟨t.text.toArray⟩) ∧ w'.cell? ⟨w2.heap.size, 4, none⟩ = some (.int .i64 (t.frm : Int)) ∧ w'.cell? ⟨w2.heap.size, 5, none⟩ = some (.int .i64 (t.upto : Int))) ∧ w'.cell? ⟨w3.heap.size, 0, none⟩ = some (.int .i64 (t.kind : Int)) ∧ w'.cell? ⟨w3.heap.size, 1, none⟩ = some (.string ⟨t.name.toArray⟩) ∧ w'.cell? ⟨w3.heap.size, 2, none⟩ = some (.slice a6 t.attrs.length c6) ∧ w'.cell? ⟨w3.heap.size, 3, none⟩ = some (.string ⟨t.text.toArray⟩) ∧ w'.cell? ⟨w3.heap.size, 4, none⟩ = some (.int .i64 (t.frm : Int)) ∧ w'.cell? ⟨w3.heap.size, 5, none⟩ = some (.int .i64 (t.upto : Int))) (first | with_reducible exact S10 | with_reducible exact S7 | with_reducible exact SA | with_reducible exact SD)
            (first
            | (go_at_call 9; with_reducible refine cTo.mono ?_; rintro e w7 ⟨a8, c8, rfl, ho8, hb8⟩; have hb8 := Tg.below_of_drew hb8; have S7 := Tg.six2 (HKD2.out.below hb8) (HKE.out.below hb8); have HK7 := Lib.hid (HKD2.out.below hb8); have HE7 := Lib.hid (HKE.out.below hb8); have cSm := same_tx (t.kind : Int) t.name t.text t.attrs (t.frm : Int) (t.upto : Int) a8 c8 a6 c6 w7 (slA_of ho8) (HSE.out.below hb8) (by omega); have HB8 := Lib.hid (HBE.out.trans (hb8.mono HBE.out.size)); clear ho8 hb8)
            | (go_at_call 8; refine cSm.mono ?_; rintro e w10 ⟨rfl, hb10⟩; have S10 := Tg.six2 (HK7.out.below hb10) (HE7.out.below hb10); have HB10 := Lib.hid (HB8.out.trans (hb10.mono HB8.out.size)); clear hb10))
          all_goals (try go_wp2)
          all_goals go_roundw
          case rel => exact ⟨k + 1, by go_num, by omega, HB10.out⟩
          case measure => first | (simp [RowKit.intOf]; done) | (simp [RowKit.intOf]; omega)
        | false =>
          go_wp2_with fail
          refine cN.mono ?_
          rintro e w2 ⟨s2, rfl, ho2, hb2⟩
          obtain ⟨a5, c5, rfl, -⟩ := At.sl_own ho2
          have hbw2 := HBW.out.trans (hb2.mono HBW.out.size)
          obtain ⟨WD, hWD⟩ : ∃ W, w2.alloc (.cells #[.int .i64 (t.kind : Int), .string ⟨t.name.toArray⟩, .slice a5 t.attrs.length c5, .string ⟨t.text.toArray⟩, .int .i64 (t.frm : Int), .int .i64 (t.upto : Int)] 26) = W := ⟨_, rfl⟩
          have hbD : Below w2.heap.size w2 WD := by rw [← hWD]; exact (Below.refl _ w2).alloc (Nat.le_refl _) _
          have hbwD := hbw2.trans (hbD.mono hbw2.size)
          have bD : Bk w2.heap.size #[.int .i64 (t.kind : Int), .string ⟨t.name.toArray⟩, .slice a5 t.attrs.length c5, .string ⟨t.text.toArray⟩, .int .i64 (t.frm : Int), .int .i64 (t.upto : Int)] 26 WD := by rw [← hWD]; exact bk_new w2 _ 26
          have hsD := (slA_of ho2).below hbD
          have cQ := HRR.out WD hbwD
          unfold tkV at cQ
          have HSD := Lib.hid hsD
          have HBD := Lib.hid hbwD
          have HKD := Lib.hid bD
          clear ho2 hb2 hbw2 hbD hbwD bD hsD
          go_wp2_with fail
          refine cQ.mono ?_
          rintro e w3 ⟨s3, rfl, ho3, hb3⟩
          obtain ⟨a6, c6, rfl, -⟩ := At.sl_own ho3
          have hbw3 := HBD.out.trans (hb3.mono HBD.out.size)
          obtain ⟨WE, hWE⟩ : ∃ W, w3.alloc (.cells #[.int .i64 (t.kind : Int), .string ⟨t.name.toArray⟩, .slice a6 t.attrs.length c6, .string ⟨t.text.toArray⟩, .int .i64 (t.frm : Int), .int .i64 (t.upto : Int)] 31) = W := ⟨_, rfl⟩
          have hbE : Below w3.heap.size w3 WE := by rw [← hWE]; exact (Below.refl _ w3).alloc (Nat.le_refl _) _
          have hbwE := hbw3.trans (hbE.mono hbw3.size)
          have bE : Bk w3.heap.size #[.int .i64 (t.kind : Int), .string ⟨t.name.toArray⟩, .slice a6 t.attrs.length c6, .string ⟨t.text.toArray⟩, .int .i64 (t.frm : Int), .int .i64 (t.upto : Int)] 31 WE := by rw [← hWE]; exact bk_new w3 _ 31
          have bDE := (HKD.out.below hb3).below hbE
          have hsE := (slA_of ho3).below hbE
          have hsDE := (HSD.out.below hb3).below hbE
          have dr : Below WE.heap.size WE WE.drew := ⟨rfl, rfl, rfl, Nat.le_refl _, fun _ _ => rfl⟩
          have cTo := to_tx (t.kind : Int) t.name t.text t.attrs (t.frm : Int) (t.upto : Int) a5 c5 WE.drew (hsDE.below dr) (by omega)
          have SA := Tg.six2 bDE bE
          have SD := Tg.six2 bDE.drew bE.drew
          have HKE := Lib.hid bE
          have HKD2 := Lib.hid bDE
          have HSE := Lib.hid hsE
          have HBE := Lib.hid hbwE
          clear ho3 hb3 hbw3 hbE hbwE bE bDE hsE hsDE dr
          go_wp2_with fail
          go_region_held3 (fun w' => (w'.cell? ⟨w2.heap.size, 0, none⟩ = some (.int .i64 (t.kind : Int)) ∧ w'.cell? ⟨w2.heap.size, 1, none⟩ = some (.string ⟨t.name.toArray⟩) ∧ w'.cell? ⟨w2.heap.size, 2, none⟩ = some (.slice a5 t.attrs.length c5) ∧ w'.cell? ⟨w2.heap.size, 3, none⟩ = some (.string ⟨t.text.toArray⟩) ∧ w'.cell? ⟨w2.heap.size, 4, none⟩ = some (.int .i64 (t.frm : Int)) ∧ w'.cell? ⟨w2.heap.size, 5, none⟩ = some (.int .i64 (t.upto : Int))) ∧ w'.cell? ⟨w3.heap.size, 0, none⟩ = some (.int .i64 (t.kind : Int)) ∧ w'.cell? ⟨w3.heap.size, 1, none⟩ = some (.string ⟨t.name.toArray⟩) ∧ w'.cell? ⟨w3.heap.size, 2, none⟩ = some (.slice a6 t.attrs.length c6) ∧ w'.cell? ⟨w3.heap.size, 3, none⟩ = some (.string ⟨t.text.toArray⟩) ∧ w'.cell? ⟨w3.heap.size, 4, none⟩ = some (.int .i64 (t.frm : Int)) ∧ w'.cell? ⟨w3.heap.size, 5, none⟩ = some (.int .i64 (t.upto : Int))) (first | with_reducible exact S10 | with_reducible exact S7 | with_reducible exact SA | with_reducible exact SD)
            (first
            | (go_at_call 9; with_reducible refine cTo.mono ?_; rintro e w7 ⟨a8, c8, rfl, ho8, hb8⟩; have hb8 := Tg.below_of_drew hb8; have S7 := Tg.six2 (HKD2.out.below hb8) (HKE.out.below hb8); have HK7 := Lib.hid (HKD2.out.below hb8); have HE7 := Lib.hid (HKE.out.below hb8); have cSm := same_tx (t.kind : Int) t.name t.text t.attrs (t.frm : Int) (t.upto : Int) a8 c8 a6 c6 w7 (slA_of ho8) (HSE.out.below hb8) (by omega); have HB8 := Lib.hid (HBE.out.trans (hb8.mono HBE.out.size)); clear ho8 hb8)
            | (go_at_call 8; refine cSm.mono ?_; rintro e w10 ⟨rfl, hb10⟩; have S10 := Tg.six2 (HK7.out.below hb10) (HE7.out.below hb10); have HB10 := Lib.hid (HB8.out.trans (hb10.mono HB8.out.size)); clear hb10))
          all_goals (try go_wp2)
          all_goals go_roundw
          case rel => exact ⟨k + 1, by go_num, by omega, HB10.out⟩
          case measure => first | (simp [RowKit.intOf]; done) | (simp [RowKit.intOf]; omega)
    · have hk2 : ¬ ((k : Int) < (l.length : Int) + 1) := by omega
      have HBW := Lib.hid hbw
      clear hbw
      go_wp2
      go_ret
      exact ⟨rfl, HBW.out⟩

theorem tokenNext_any (l : List UInt8) (a : Option Addr) (cap : Nat) (x : Int) (n : List UInt8) (w : World) (hs : Sl l a cap w) (hT : Tb w) :
    Calls Tryz.prog 3 #[.slice a l.length cap, .int .i64 x, .string ⟨n.toArray⟩] w fun e w' => e = .returned (.bool true) ∧ Below w.heap.size w w' := by
  by_cases h : 200 < l.length ∨ 40 < n.length
  · exact tokenNext_long l.length n a cap x w hT h
  · exact tokenNext_walk l a cap x n w hs hT (by omega) (by omega)
end Go.Proofs.YtndcmapifihgeaaGreatDoor.Tk
