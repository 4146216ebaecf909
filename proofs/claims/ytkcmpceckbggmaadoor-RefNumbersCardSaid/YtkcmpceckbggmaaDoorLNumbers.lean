/- The law RefNumbers, walked. -/
import Derived.Test.YtkcmpceckbggmaaDoorSpk
import Derived.Test.YtkcmpceckbggmaaDoorMath3
import Derived.Test.YtkcmpceckbggmaaDoorEnRFind
namespace Go.Proofs.YtkcmpceckbggmaaDoor
open Go.RowKit Go.Lib
open Ch (at0 nx nx_width nx_range at0_lt at0_drop enc_len Sl Sl.below Cells ret_bool bytes_of)
open En (join_one)

def NmRel (base c : Nat) (q : Bool) (v8 v11 : Value) : Prop :=
  ∃ (ds : List UInt8) (k : Nat), v8 = .string ⟨ds.toArray⟩ ∧ v11 = .int .i64 (k : Int) ∧ k ≤ c ∧ ds.length + k ≤ c + 1 ∧ numR base (ds ++ tailL q) k = (c, ds.length)

/-- is the text still empty? -/
def emp : Value → Nat
  | .string s => if s.size = 0 then 1 else 0
  | _ => 0
theorem emp_nil : emp (.string ⟨([] : List UInt8).toArray⟩) = 1 := rfl
theorem emp_cons (b : UInt8) (t : List UInt8) : emp (.string ⟨(b :: t).toArray⟩) = 0 := by
  simp [emp, ByteArray.size]
theorem emp_le (v : Value) : emp v ≤ 1 := by unfold emp; split <;> (try split) <;> omega

theorem digit_str : ∀ D : Nat, D < 16 → ((⟨#[48, 49, 50, 51, 52, 53, 54, 55, 56, 57, 97, 66, 99, 68, 101, 70]⟩ : ByteArray).extract D 16).extract 0 1 = ⟨#[digs.getD D 0]⟩ := by decide
theorem digit_join (D : Nat) (h : D < 16) (ds : List UInt8) : ((⟨#[48, 49, 50, 51, 52, 53, 54, 55, 56, 57, 97, 66, 99, 68, 101, 70]⟩ : ByteArray).extract D 16).extract 0 1 ++ ⟨ds.toArray⟩ = ⟨(digs.getD D 0 :: ds).toArray⟩ := by
  rw [digit_str D h]
  exact join_one [digs.getD D 0] ds

theorem join_wr (p q : Bool) (ds : List UInt8) (h : List UInt8) (hh : h = if p then [38, 35, 120] else [38, 35]) (t : List UInt8) (ht : t = tailL q) :
    ((⟨h.toArray⟩ : ByteArray) ++ ((⟨#[48, 48]⟩ : ByteArray) ++ ⟨ds.toArray⟩)) ++ ⟨t.toArray⟩ = ⟨(wrL p q ds).toArray⟩ := by
  have e1 : ((⟨#[48, 48]⟩ : ByteArray) ++ ⟨ds.toArray⟩) = ⟨([48, 48] ++ ds).toArray⟩ := join_one [48, 48] ds
  rw [e1, join_one h, join_one]
  unfold wrL
  rw [hh, ht]

theorem wr_len (p q : Bool) (ds : List UInt8) : (wrL p q ds).length = (if p then 3 else 2) + (2 + ds.length) + (if q then 1 else 0) := by
  unfold wrL tailL
  cases p <;> cases q <;> simp <;> omega

theorem read_whole {L s : List UInt8} {attr : Bool} (h : rd L attr = some (s, L.length)) : rdAt L 0 attr = some (s, L.length) := by
  have hb := rd_bd h
  have : rdAt L ((0 : Nat) : Int) attr = sh 0 (rd (L.drop 0) attr) := rdAt_in (by omega)
  rw [List.drop_zero, h] at this
  rw [show (0 : Int) = ((0 : Nat) : Int) from rfl, this]
  simp [sh]

set_option maxHeartbeats 8000000 in
set_option maxRecDepth 100000 in
theorem refNumbers_10 (x : Int) (c : Nat) (q : Bool) (w : World) (hT : Tb w) (hx0 : 0 ≤ x) (hx1 : x ≤ 4294967295) (hc : x % 1114112 = c) :
    Calls Tryd.prog 7 #[.int .u32 x, .bool false, .bool q] w fun e w' => e = .returned (.bool true) ∧ Below w.heap.size w w' := by
  have hcb : c < 1114112 := by omega
  go_enter Tryd.func7, Tryd.ntmps7
  go_wp2_with fail
  refine (speaks_any w hT).mono ?_
  rintro e w1 ⟨rfl, hb1⟩
  have hz1 := hb1.size
  have HB1 := Lib.hid hb1
  clear hb1
  go_wp2
  go_loop [8, 11] (fun v8 v11 => NmRel 10 c q v8 v11) (fun v8 v11 => 2 * (RowKit.intOf v11).toNat + emp v8)
  case atStart => exact ⟨[], c, rfl, rfl, Nat.le_refl _, by simp, numR_tail 10 c q (by decide)⟩
  case round =>
    obtain ⟨ds, k, rfl, rfl, hk, hlen, hN⟩ := hrel
    have HN := Lib.hid hN
    clear hN
    by_cases h0 : 0 < k
    · have h0' : (0 : Int) < (k : Int) := by omega
      obtain ⟨D, hD, hD9⟩ : ∃ D : Nat, (k : Int) % 10 = (D : Int) ∧ D < 10 := ⟨k % 10, by omega, by omega⟩
      have hD' := Lib.hid (show D = k % 10 by omega)
      go_wp2
      go_round
      case rel =>
        have := numR_more (by decide) (by decide) (by omega) HN.out
        rw [digit_join D (by omega)]
        refine ⟨digs.getD D 0 :: ds, k / 10, rfl, by go_num, by omega, by simp; omega, by rw [hD'.out]; exact this⟩
      case measure =>
        rw [digit_join D (by omega), emp_cons]
        simp [RowKit.intOf]; omega
    · obtain rfl : k = 0 := by omega
      cases ds with
      | nil =>
        go_wp2
        go_round
        case rel =>
          have := numR_more (by decide) (by decide) (by omega) HN.out
          refine ⟨[48], 0, rfl, rfl, by omega, by simp, this⟩
        case measure => decide
      | cons d t =>
        have ht : ((d :: t) == ([] : List UInt8)) = false := rfl
        generalize d :: t = ds at HN hlen ht ⊢
        cases q with
        | false =>
          have hRd := rd_wr false false ds c HN.out
          have hJ : ((⟨#[38, 35]⟩ : ByteArray) ++ ((⟨#[48, 48]⟩ : ByteArray) ++ ⟨ds.toArray⟩)) = ⟨(wrL false false ds).toArray⟩ := (by have := join_wr false false ds [38, 35] rfl [] rfl; rw [show (⟨([] : List UInt8).toArray⟩ : ByteArray) = ByteArray.empty from rfl, ByteArray.append_empty] at this; exact this)
          have hLl := wr_len false false ds
          simp only [Bool.false_eq_true, if_false] at hLl
          obtain ⟨L, hL⟩ : ∃ L, wrL false false ds = L := ⟨_, rfl⟩
          rw [hL] at hRd hJ hLl
          obtain ⟨cap, W, hconv, hS, hbW⟩ := bytes_of L w1
          rw [← hJ] at hconv
          have hbT := HB1.out.trans (hbW.mono hz1)
          have hTW := hT.below hbT
          have cR := read_any L (some ⟨w1.heap.size, 0, none⟩) cap 0 true W hS (by omega) hTW.2
          rw [read_whole hRd, resP_some rfl rfl] at cR
          have cP := point_any (c : Int) W hTW.2
          have hok := pt_ok (c : Int)
          have hcv := fun w => conv_rune (pt (c : Int)) hok w
          obtain ⟨u, hu⟩ : ∃ u, encodeRune (pt (c : Int) : Int) = u := ⟨_, rfl⟩
          rw [hu] at cR hcv
          rw [hLl] at cR hconv
          have HBT := Lib.hid hbT
          clear hJ hRd hL hS hbW HN hbT hTW hLl
          by_cases c1 : c < 32
          · have c1' : (c : Int) < 32 := by omega
            clear hu hok
            generalize pt (c : Int) = C at cP hcv cR
            go_wp2_with fail
            refine cR.mono ?_
            rintro e w3 ⟨rfl, rfl⟩
            go_wp2_with fail
            refine cP.mono ?_
            rintro e w4 ⟨rfl, rfl⟩
            go_wp2
            go_ret
            exact ⟨ret_bool (by simp), HBT.out⟩
          · have c1' : ¬ (c : Int) < 32 := by omega
            by_cases c2 : 126 < c
            · have c2' : (126 : Int) < (c : Int) := by omega
              clear hu hok
              generalize pt (c : Int) = C at cP hcv cR
              go_wp2_with fail
              refine cR.mono ?_
              rintro e w3 ⟨rfl, rfl⟩
              go_wp2_with fail
              refine cP.mono ?_
              rintro e w4 ⟨rfl, rfl⟩
              go_wp2
              go_ret
              exact ⟨ret_bool (by simp), HBT.out⟩
            · have c2' : ¬ (126 : Int) < (c : Int) := by omega
              have hself : pt (c : Int) = c := pt_self (Or.inl ⟨by omega, by omega⟩)
              rw [hself] at cP hcv
              clear hu hok hself
              go_wp2_with fail
              refine cR.mono ?_
              rintro e w3 ⟨rfl, rfl⟩
              go_wp2_with fail
              refine cP.mono ?_
              rintro e w4 ⟨rfl, rfl⟩
              go_wp2
              go_ret
              exact ⟨ret_bool (by simp), HBT.out⟩
        | true =>
          have hRd := rd_wr false true ds c HN.out
          have hJ : ((⟨#[38, 35]⟩ : ByteArray) ++ ((⟨#[48, 48]⟩ : ByteArray) ++ ⟨ds.toArray⟩)) ++ (⟨#[59]⟩ : ByteArray) = ⟨(wrL false true ds).toArray⟩ := join_wr false true ds [38, 35] rfl [59] rfl
          have hLl := wr_len false true ds
          simp only [Bool.false_eq_true, if_true, if_false] at hLl
          obtain ⟨L, hL⟩ : ∃ L, wrL false true ds = L := ⟨_, rfl⟩
          rw [hL] at hRd hJ hLl
          obtain ⟨cap, W, hconv, hS, hbW⟩ := bytes_of L w1
          rw [← hJ] at hconv
          have hbT := HB1.out.trans (hbW.mono hz1)
          have hTW := hT.below hbT
          have cR := read_any L (some ⟨w1.heap.size, 0, none⟩) cap 0 true W hS (by omega) hTW.2
          rw [read_whole hRd, resP_some rfl rfl] at cR
          have cP := point_any (c : Int) W hTW.2
          have hok := pt_ok (c : Int)
          have hcv := fun w => conv_rune (pt (c : Int)) hok w
          obtain ⟨u, hu⟩ : ∃ u, encodeRune (pt (c : Int) : Int) = u := ⟨_, rfl⟩
          rw [hu] at cR hcv
          rw [hLl] at cR hconv
          have HBT := Lib.hid hbT
          clear hJ hRd hL hS hbW HN hbT hTW hLl
          by_cases c1 : c < 32
          · have c1' : (c : Int) < 32 := by omega
            clear hu hok
            generalize pt (c : Int) = C at cP hcv cR
            go_wp2_with fail
            refine cR.mono ?_
            rintro e w3 ⟨rfl, rfl⟩
            go_wp2_with fail
            refine cP.mono ?_
            rintro e w4 ⟨rfl, rfl⟩
            go_wp2
            go_ret
            exact ⟨ret_bool (by simp), HBT.out⟩
          · have c1' : ¬ (c : Int) < 32 := by omega
            by_cases c2 : 126 < c
            · have c2' : (126 : Int) < (c : Int) := by omega
              clear hu hok
              generalize pt (c : Int) = C at cP hcv cR
              go_wp2_with fail
              refine cR.mono ?_
              rintro e w3 ⟨rfl, rfl⟩
              go_wp2_with fail
              refine cP.mono ?_
              rintro e w4 ⟨rfl, rfl⟩
              go_wp2
              go_ret
              exact ⟨ret_bool (by simp), HBT.out⟩
            · have c2' : ¬ (126 : Int) < (c : Int) := by omega
              have hself : pt (c : Int) = c := pt_self (Or.inl ⟨by omega, by omega⟩)
              rw [hself] at cP hcv
              clear hu hok hself
              go_wp2_with fail
              refine cR.mono ?_
              rintro e w3 ⟨rfl, rfl⟩
              go_wp2_with fail
              refine cP.mono ?_
              rintro e w4 ⟨rfl, rfl⟩
              go_wp2
              go_ret
              exact ⟨ret_bool (by simp), HBT.out⟩

set_option maxHeartbeats 8000000 in
set_option maxRecDepth 100000 in
theorem refNumbers_16 (x : Int) (c : Nat) (q : Bool) (w : World) (hT : Tb w) (hx0 : 0 ≤ x) (hx1 : x ≤ 4294967295) (hc : x % 1114112 = c) :
    Calls Tryd.prog 7 #[.int .u32 x, .bool true, .bool q] w fun e w' => e = .returned (.bool true) ∧ Below w.heap.size w w' := by
  have hcb : c < 1114112 := by omega
  go_enter Tryd.func7, Tryd.ntmps7
  go_wp2_with fail
  refine (speaks_any w hT).mono ?_
  rintro e w1 ⟨rfl, hb1⟩
  have hz1 := hb1.size
  have HB1 := Lib.hid hb1
  clear hb1
  go_wp2
  go_loop [8, 11] (fun v8 v11 => NmRel 16 c q v8 v11) (fun v8 v11 => 2 * (RowKit.intOf v11).toNat + emp v8)
  case atStart => exact ⟨[], c, rfl, rfl, Nat.le_refl _, by simp, numR_tail 16 c q (by decide)⟩
  case round =>
    obtain ⟨ds, k, rfl, rfl, hk, hlen, hN⟩ := hrel
    have HN := Lib.hid hN
    clear hN
    by_cases h0 : 0 < k
    · have h0' : (0 : Int) < (k : Int) := by omega
      obtain ⟨D, hD, hD9⟩ : ∃ D : Nat, (k : Int) % 16 = (D : Int) ∧ D < 16 := ⟨k % 16, by omega, by omega⟩
      have hD' := Lib.hid (show D = k % 16 by omega)
      go_wp2
      go_round
      case rel =>
        have := numR_more (by decide) (by decide) (by omega) HN.out
        rw [digit_join D (by omega)]
        refine ⟨digs.getD D 0 :: ds, k / 16, rfl, by go_num, by omega, by simp; omega, by rw [hD'.out]; exact this⟩
      case measure =>
        rw [digit_join D (by omega), emp_cons]
        simp [RowKit.intOf]; omega
    · obtain rfl : k = 0 := by omega
      cases ds with
      | nil =>
        go_wp2
        go_round
        case rel =>
          have := numR_more (by decide) (by decide) (by omega) HN.out
          refine ⟨[48], 0, rfl, rfl, by omega, by simp, this⟩
        case measure => decide
      | cons d t =>
        have ht : ((d :: t) == ([] : List UInt8)) = false := rfl
        generalize d :: t = ds at HN hlen ht ⊢
        cases q with
        | false =>
          have hRd := rd_wr true false ds c HN.out
          have hJ : ((⟨#[38, 35, 120]⟩ : ByteArray) ++ ((⟨#[48, 48]⟩ : ByteArray) ++ ⟨ds.toArray⟩)) = ⟨(wrL true false ds).toArray⟩ := (by have := join_wr true false ds [38, 35, 120] rfl [] rfl; rw [show (⟨([] : List UInt8).toArray⟩ : ByteArray) = ByteArray.empty from rfl, ByteArray.append_empty] at this; exact this)
          have hLl := wr_len true false ds
          simp only [Bool.false_eq_true, if_true, if_false] at hLl
          obtain ⟨L, hL⟩ : ∃ L, wrL true false ds = L := ⟨_, rfl⟩
          rw [hL] at hRd hJ hLl
          obtain ⟨cap, W, hconv, hS, hbW⟩ := bytes_of L w1
          rw [← hJ] at hconv
          have hbT := HB1.out.trans (hbW.mono hz1)
          have hTW := hT.below hbT
          have cR := read_any L (some ⟨w1.heap.size, 0, none⟩) cap 0 true W hS (by omega) hTW.2
          rw [read_whole hRd, resP_some rfl rfl] at cR
          have cP := point_any (c : Int) W hTW.2
          have hok := pt_ok (c : Int)
          have hcv := fun w => conv_rune (pt (c : Int)) hok w
          obtain ⟨u, hu⟩ : ∃ u, encodeRune (pt (c : Int) : Int) = u := ⟨_, rfl⟩
          rw [hu] at cR hcv
          rw [hLl] at cR hconv
          have HBT := Lib.hid hbT
          clear hJ hRd hL hS hbW HN hbT hTW hLl
          by_cases c1 : c < 32
          · have c1' : (c : Int) < 32 := by omega
            clear hu hok
            generalize pt (c : Int) = C at cP hcv cR
            go_wp2_with fail
            refine cR.mono ?_
            rintro e w3 ⟨rfl, rfl⟩
            go_wp2_with fail
            refine cP.mono ?_
            rintro e w4 ⟨rfl, rfl⟩
            go_wp2
            go_ret
            exact ⟨ret_bool (by simp), HBT.out⟩
          · have c1' : ¬ (c : Int) < 32 := by omega
            by_cases c2 : 126 < c
            · have c2' : (126 : Int) < (c : Int) := by omega
              clear hu hok
              generalize pt (c : Int) = C at cP hcv cR
              go_wp2_with fail
              refine cR.mono ?_
              rintro e w3 ⟨rfl, rfl⟩
              go_wp2_with fail
              refine cP.mono ?_
              rintro e w4 ⟨rfl, rfl⟩
              go_wp2
              go_ret
              exact ⟨ret_bool (by simp), HBT.out⟩
            · have c2' : ¬ (126 : Int) < (c : Int) := by omega
              have hself : pt (c : Int) = c := pt_self (Or.inl ⟨by omega, by omega⟩)
              rw [hself] at cP hcv
              clear hu hok hself
              go_wp2_with fail
              refine cR.mono ?_
              rintro e w3 ⟨rfl, rfl⟩
              go_wp2_with fail
              refine cP.mono ?_
              rintro e w4 ⟨rfl, rfl⟩
              go_wp2
              go_ret
              exact ⟨ret_bool (by simp), HBT.out⟩
        | true =>
          have hRd := rd_wr true true ds c HN.out
          have hJ : ((⟨#[38, 35, 120]⟩ : ByteArray) ++ ((⟨#[48, 48]⟩ : ByteArray) ++ ⟨ds.toArray⟩)) ++ (⟨#[59]⟩ : ByteArray) = ⟨(wrL true true ds).toArray⟩ := join_wr true true ds [38, 35, 120] rfl [59] rfl
          have hLl := wr_len true true ds
          simp only [if_true] at hLl
          obtain ⟨L, hL⟩ : ∃ L, wrL true true ds = L := ⟨_, rfl⟩
          rw [hL] at hRd hJ hLl
          obtain ⟨cap, W, hconv, hS, hbW⟩ := bytes_of L w1
          rw [← hJ] at hconv
          have hbT := HB1.out.trans (hbW.mono hz1)
          have hTW := hT.below hbT
          have cR := read_any L (some ⟨w1.heap.size, 0, none⟩) cap 0 true W hS (by omega) hTW.2
          rw [read_whole hRd, resP_some rfl rfl] at cR
          have cP := point_any (c : Int) W hTW.2
          have hok := pt_ok (c : Int)
          have hcv := fun w => conv_rune (pt (c : Int)) hok w
          obtain ⟨u, hu⟩ : ∃ u, encodeRune (pt (c : Int) : Int) = u := ⟨_, rfl⟩
          rw [hu] at cR hcv
          rw [hLl] at cR hconv
          have HBT := Lib.hid hbT
          clear hJ hRd hL hS hbW HN hbT hTW hLl
          by_cases c1 : c < 32
          · have c1' : (c : Int) < 32 := by omega
            clear hu hok
            generalize pt (c : Int) = C at cP hcv cR
            go_wp2_with fail
            refine cR.mono ?_
            rintro e w3 ⟨rfl, rfl⟩
            go_wp2_with fail
            refine cP.mono ?_
            rintro e w4 ⟨rfl, rfl⟩
            go_wp2
            go_ret
            exact ⟨ret_bool (by simp), HBT.out⟩
          · have c1' : ¬ (c : Int) < 32 := by omega
            by_cases c2 : 126 < c
            · have c2' : (126 : Int) < (c : Int) := by omega
              clear hu hok
              generalize pt (c : Int) = C at cP hcv cR
              go_wp2_with fail
              refine cR.mono ?_
              rintro e w3 ⟨rfl, rfl⟩
              go_wp2_with fail
              refine cP.mono ?_
              rintro e w4 ⟨rfl, rfl⟩
              go_wp2
              go_ret
              exact ⟨ret_bool (by simp), HBT.out⟩
            · have c2' : ¬ (126 : Int) < (c : Int) := by omega
              have hself : pt (c : Int) = c := pt_self (Or.inl ⟨by omega, by omega⟩)
              rw [hself] at cP hcv
              clear hu hok hself
              go_wp2_with fail
              refine cR.mono ?_
              rintro e w3 ⟨rfl, rfl⟩
              go_wp2_with fail
              refine cP.mono ?_
              rintro e w4 ⟨rfl, rfl⟩
              go_wp2
              go_ret
              exact ⟨ret_bool (by simp), HBT.out⟩

theorem refNumbers_walk (x : Int) (p q : Bool) (w : World) (hT : Tb w) (hx0 : 0 ≤ x) (hx1 : x ≤ 4294967295) :
    Calls Tryd.prog 7 #[.int .u32 x, .bool p, .bool q] w fun e w' => e = .returned (.bool true) ∧ Below w.heap.size w w' := by
  obtain ⟨c, hc⟩ : ∃ c : Nat, x % 1114112 = c := ⟨(x % 1114112).toNat, by omega⟩
  cases p with
  | false => exact refNumbers_10 x c q w hT hx0 hx1 hc
  | true => exact refNumbers_16 x c q w hT hx0 hx1 hc
end Go.Proofs.YtkcmpceckbggmaaDoor
