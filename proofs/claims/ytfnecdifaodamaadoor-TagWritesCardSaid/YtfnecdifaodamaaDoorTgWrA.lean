/- class.Name and char.Clean; the mathematics of a written tag: its name, its attributes' names. -/
import Derived.Test.YtfnecdifaodamaaDoorTgNmA
import Derived.Test.YtfnecdifaodamaaDoorTgWrMath
namespace Go.Proofs.YtfnecdifaodamaaDoor.Kl
open Go.RowKit Go.Lib
open Ch (ret_bool)

/-- may this character stand at this place of a plain name? -/
def okAt (i c : Nat) : Bool := smallN c || (decide (i ≠ 0) && (digitN c || c == 45))

/-- all from a place on may stand where they stand -/
def okFrom (l : List UInt8) (i : Nat) : Bool := (List.range' i (l.length - i)).all fun j => okAt j (at0 l j)

theorem okFrom_end (l : List UInt8) (i : Nat) (h : l.length ≤ i) : okFrom l i = true := by
  unfold okFrom
  rw [Nat.sub_eq_zero_of_le h]
  rfl
theorem okFrom_step (l : List UInt8) (i : Nat) (h : i < l.length) : okFrom l i = (okAt i (at0 l i) && okFrom l (i + 1)) := by
  unfold okFrom
  rw [show l.length - i = (l.length - (i + 1)) + 1 by omega, List.range'_succ]
  rfl

theorem okFrom_pos (l : List UInt8) : ∀ k i, 0 < i → l.length - i = k → okFrom l i = (l.drop i).all inName
  | 0, i, _, h => by
    rw [okFrom_end l i (by omega), List.drop_of_length_le (by omega)]
    rfl
  | k + 1, i, h0, h => by
    have hi : i < l.length := by omega
    rw [okFrom_step l i hi, okFrom_pos l k (i + 1) (by omega) (by omega), drop_cons hi, List.all_cons]
    congr 1
    unfold okAt inName
    rw [getD_at0 hi]
    simp only [show decide (i ≠ 0) = true from decide_eq_true (by omega), Bool.true_and, Bool.or_assoc]

theorem name_okFrom (l : List UInt8) : nameL l = (okFrom l 0 && decide (l ≠ [])) := by
  cases l with
  | nil => rfl
  | cons b r =>
    rw [okFrom_step _ 0 (by simp), okFrom_pos (b :: r) r.length 1 (by omega) (by simp)]
    simp [nameL, okAt, at0]

/-- a character that may not stand where it stands -/
theorem okFrom_no {l : List UInt8} {i : Nat} (hi : i < l.length) (h : okAt i (at0 l i) = false) : okFrom l i = false := by
  rw [okFrom_step l i hi, h]; rfl
theorem okAt_high {i c : Nat} (h : 128 ≤ c) : okAt i c = false := by
  simp [okAt, smallN, digitN]; omega

def NameRel (l : List UInt8) (w : World) (gf : Nat) (wr : World) : Prop :=
  ∃ pos : Nat, wr.heap[w.heap.size]? = some (.stringIter ⟨l.toArray⟩ pos) ∧ Below w.heap.size w wr ∧ okFrom l pos = okFrom l 0 ∧ l.length ≤ pos + gf


set_option maxHeartbeats 1000000 in
set_option maxRecDepth 100000 in
theorem name_any (l : List UInt8) (w : World) :
    Calls Tryd.prog 15 #[.string ⟨l.toArray⟩] w fun e w' => e = .returned (.bool (nameL l)) ∧ Below w.heap.size w w' := by
  go_enter Tryd.func15, Tryd.ntmps15
  go_wp2
  go_loopg [] l.length (fun gf wx => NameRel l w gf wx)
  case atStart => exact ⟨0, World.iter_heap w _ 0, (Below.refl _ w).alloc (Nat.le_refl _) _, rfl, by omega⟩
  case round =>
    obtain ⟨pos, hit, hbw, hok, hfu⟩ := hrel
    have HOK := Lib.hid hok
    have HN := Lib.hid (name_okFrom l)
    clear hok
    by_cases hps : pos < l.length
    · obtain ⟨g', rfl⟩ : ∃ g', gk = g' + 1 := ⟨gk - 1, by omega⟩
      have hnx : ∀ ty, (Instr.next (.pointer (some ⟨w.heap.size, 0, none⟩)) true ty).run Tryd.prog wr = _ := fun ty => Lib.run_next_any_at wr w.heap.size ⟨l.toArray⟩ pos ty hit (by rw [str_size]; exact hps)
      rw [decode_dec] at hnx
      by_cases ha : at0 l pos < 128
      · rw [dec_ascii ha] at hnx
        simp only at hnx
        have hst := Lib.hid (okFrom_step l pos hps)
        have hit2 := Lib.iterAt_heap wr w.heap.size ⟨l.toArray⟩ pos (pos + 1) hit
        have hbw2 := Lib.below_iterAt hbw (k := w.heap.size) (Nat.le_refl _) ⟨l.toArray⟩ (pos + 1)
        obtain ⟨V, hV⟩ : ∃ V, wr.iterAt w.heap.size ⟨l.toArray⟩ (pos + 1) = V := ⟨_, rfl⟩
        rw [hV] at hnx hit2 hbw2
        clear hV
        have hS := small_any (at0 l pos : Int) V
        have hD := digit_any (at0 l pos : Int) V
        rw [smallZ_nat] at hS
        rw [digitZ_nat] at hD
        have hf := okFrom_no hps
        unfold okAt at hst hf
        generalize at0 l pos = c at hnx hS hD hst hf
        cases h1 : smallN c
        · rw [h1] at hS
          by_cases h0 : pos = 0
          · have h0' : ((pos : Int) == 0) = true := by simp [h0]
            have hno := Lib.hid (hf (by simp [h1, h0]))
            clear hf h0
            go_wp2_with fail
            refine hS.mono ?_
            rintro e w' ⟨rfl, rfl⟩
            go_wp2
            go_ret
            refine ⟨ret_bool (a := false) ?_, hbw2⟩
            rw [HN.out, ← HOK.out, hno.out]; rfl
          · have h0' : ((pos : Int) == 0) = false := by simp; omega
            cases h2 : digitN c
            · rw [h2] at hD
              cases h3 : ((c : Int) == 45)
              · have hno := Lib.hid (hf (by simp [h1, h2]; intro _; simp at h3; omega))
                clear hf h0
                go_wp2_with fail
                refine hS.mono ?_
                rintro e w' ⟨rfl, rfl⟩
                go_wp2_with fail
                refine hD.mono ?_
                rintro e w' ⟨rfl, rfl⟩
                go_wp2
                go_ret
                refine ⟨ret_bool (a := false) ?_, hbw2⟩
                rw [HN.out, ← HOK.out, hno.out]; rfl
              · have hyes : okFrom l pos = okFrom l (pos + 1) := by
                  rw [hst.out]
                  have : (c == 45) = true := by simp at h3 ⊢; omega
                  simp [h1, h0, this]
                have HY := Lib.hid hyes
                clear hf h0 hyes
                go_wp2_with fail
                refine hS.mono ?_
                rintro e w' ⟨rfl, rfl⟩
                go_wp2_with fail
                refine hD.mono ?_
                rintro e w' ⟨rfl, rfl⟩
                go_wp2
                go_roundg g'
                case measure => omega
                case rel => exact ⟨pos + 1, hit2, hbw2, by rw [← HY.out]; exact HOK.out, by omega⟩
            · rw [h2] at hD
              have hyes : okFrom l pos = okFrom l (pos + 1) := by
                rw [hst.out]
                simp [h1, h0, h2]
              have HY := Lib.hid hyes
              clear hf h0 hyes
              go_wp2_with fail
              refine hS.mono ?_
              rintro e w' ⟨rfl, rfl⟩
              go_wp2_with fail
              refine hD.mono ?_
              rintro e w' ⟨rfl, rfl⟩
              go_wp2
              go_roundg g'
              case measure => omega
              case rel => exact ⟨pos + 1, hit2, hbw2, by rw [← HY.out]; exact HOK.out, by omega⟩
        · rw [h1] at hS
          have hyes : okFrom l pos = okFrom l (pos + 1) := by
            rw [hst.out]
            simp [h1]
          have HY := Lib.hid hyes
          clear hf hyes
          go_wp2_with fail
          refine hS.mono ?_
          rintro e w' ⟨rfl, rfl⟩
          go_wp2
          go_roundg g'
          case measure => omega
          case rel => exact ⟨pos + 1, hit2, hbw2, by rw [← HY.out]; exact HOK.out, by omega⟩
      · have hh : 128 ≤ at0 l pos := by omega
        have hR := dec_high hh
        have hno := Lib.hid (okFrom_no hps (okAt_high hh))
        obtain ⟨⟨R, K⟩, hRK⟩ : ∃ R, dec l pos = R := ⟨_, rfl⟩
        rw [hRK] at hnx hR
        clear hRK ha hh
        simp only at hnx hR
        have hbw2 := Lib.below_iterAt hbw (k := w.heap.size) (Nat.le_refl _) ⟨l.toArray⟩ (pos + K)
        obtain ⟨V, hV⟩ : ∃ V, wr.iterAt w.heap.size ⟨l.toArray⟩ (pos + K) = V := ⟨_, rfl⟩
        rw [hV] at hnx hbw2
        clear hV
        have hS := small_any (R : Int) V
        have hD := digit_any (R : Int) V
        rw [show smallZ (R : Int) = false by simp [smallZ]; omega] at hS
        rw [show digitZ (R : Int) = false by simp [digitZ]; omega] at hD
        have h3 : ((R : Int) == 45) = false := by simp; omega
        cases h0 : ((pos : Int) == 0)
        · go_wp2_with fail
          refine hS.mono ?_
          rintro e w' ⟨rfl, rfl⟩
          go_wp2_with fail
          refine hD.mono ?_
          rintro e w' ⟨rfl, rfl⟩
          go_wp2
          go_ret
          refine ⟨ret_bool (a := false) ?_, hbw2⟩
          rw [HN.out, ← HOK.out, hno.out]; rfl
        · go_wp2_with fail
          refine hS.mono ?_
          rintro e w' ⟨rfl, rfl⟩
          go_wp2
          go_ret
          refine ⟨ret_bool (a := false) ?_, hbw2⟩
          rw [HN.out, ← HOK.out, hno.out]; rfl
    · have hnx : ∀ ty, (Instr.next (.pointer (some ⟨w.heap.size, 0, none⟩)) true ty).run Tryd.prog wr = _ := fun ty => Lib.run_next_end_at wr w.heap.size _ pos ty hit (by rw [str_size]; exact hps)
      have hend := Lib.hid (okFrom_end l pos (by omega))
      go_wp2
      go_ret
      refine ⟨ret_bool (a := !l.isEmpty) ?_, hbw⟩
      rw [HN.out, ← HOK.out, hend.out]
      cases l <;> rfl

end Go.Proofs.YtfnecdifaodamaaDoor.Kl
namespace Go.Proofs.YtfnecdifaodamaaDoor.Ch
open Go.RowKit Go.Lib

set_option maxHeartbeats 1000000 in
set_option maxRecDepth 100000 in
theorem clean_any (l : List UInt8) (w : World) (hT : Lib.Utf8Tabs 0 1 w) (hl : l.length ≤ 1000000) :
    Calls Tryd.prog 16 #[.string ⟨l.toArray⟩] w fun e w' => e = .returned (.bool (cleanB l)) ∧ Below w.heap.size w w' := by
  obtain ⟨cap, W, hconv, hs, hb⟩ := bytes_of l w
  have hA := all_any l _ cap 0 l.length W hs (Tabs_below hT hb) hl
  go_enter Tryd.func16, Tryd.ntmps16
  go_wp2_with fail
  refine hA.mono ?_
  rintro e w1 ⟨rfl, hb1⟩
  go_wp2
  go_ret
  exact ⟨ret_bool (by unfold cleanB; simp [go_sem]), hb.trans (hb1.mono hb.size)⟩

end Go.Proofs.YtfnecdifaodamaaDoor.Ch
namespace Go.Proofs.YtfnecdifaodamaaDoor.Tg
open Go.RowKit Go.Lib
open Ch (at0 nx at0_drop enc_len good enc_one)
open Kl (blankN greatN nameL inName smallN digitN)
open At (ads names)

/-- a byte of a plain name -/
theorem name_byte {b : UInt8} (h : inName b = true) : b.toNat < 128 ∧ b.toNat ≠ 0 ∧ b.toNat ≠ 13 ∧ pTag b.toNat = true ∧ lowN b.toNat = b.toNat := by
  unfold inName smallN digitN at h
  simp at h
  refine ⟨by omega, by omega, by omega, ?_, ?_⟩
  · unfold pTag blankN
    simp
    omega
  · unfold lowN greatN
    rw [if_neg (by simp; omega)]
theorem enc_byte {b : UInt8} (h : b.toNat < 128) : encodeRune ((b.toNat : Nat) : Int) = [b] := by
  rw [enc_one _ (by omega)]
  congr 1
  exact Ch.byte_eq b _ rfl
theorem name_ov (R : List UInt8) : ∀ n : List UInt8, n.all inName = true → ov pTag (n ++ 32 :: R) = n.length ∧ lw pTag (n ++ 32 :: R) = n
  | [], _ => ov_cons_no (p := pTag) (b := 32) (r := R) (by decide) (by decide) (by decide) (by decide)
  | b :: r, h => by
    rw [List.all_cons, Bool.and_eq_true] at h
    obtain ⟨h1, h2, h3, h4, h5⟩ := name_byte h.1
    have ih := name_ov R r h.2
    have := ov_cons_yes (p := pTag) (b := b) (r := r ++ 32 :: R) h1 h2 h3 h4
    rw [ih.1, ih.2, h5, enc_byte h1] at this
    refine ⟨?_, this.2⟩
    have e := this.1
    show ov pTag (b :: (r ++ 32 :: R)) = r.length + 1
    omega

/-- the written tag -/
def wrT (e s : Bool) (n : List UInt8) (vs : List (List UInt8)) : List UInt8 := (if e then [60, 47] else [60]) ++ n ++ wrL s 0 vs ++ [32, 47, 62]

theorem wrL_head (s : Bool) (i : Nat) (vs : List (List UInt8)) : ∃ R, wrL s i vs ++ [32, 47, 62] = 32 :: R := by
  cases vs with
  | nil => exact ⟨_, rfl⟩
  | cons v r => exact ⟨_, rfl⟩

theorem small_let {b : UInt8} (h : smallN b.toNat = true) : letN b.toNat = true := by
  unfold smallN at h
  unfold letN
  simp at h ⊢
  omega
theorem wr_bg (e s : Bool) {n : List UInt8} (vs : List (List UInt8)) (hn : nameL n = true) : bg (wrT e s n vs) = if e then 2 else 1 := by
  cases n with
  | nil => cases hn
  | cons b r =>
    unfold nameL at hn
    rw [Bool.and_eq_true] at hn
    have hb := small_let hn.1
    unfold wrT bg
    cases e
    · show (if (60 : Nat) = 60 then (if letN b.toNat = true then 1 else _) else 0) = 1
      rw [if_pos rfl, if_pos hb]
    · show (if (60 : Nat) = 60 then (if letN 47 = true then 1 else if (47 : Nat) = 47 ∧ letN b.toNat = true then 2 else 0) else 0) = 2
      rw [if_pos rfl, if_neg (by decide), if_pos ⟨rfl, hb⟩]

theorem fold_id : ∀ (L acc : List At.At), (names (acc ++ L)).Nodup → L.foldl At.add acc = acc ++ L
  | [], acc, _ => by simp
  | x :: r, acc, h => by
    have hx : x.1 ∉ names acc := by
      rw [At.names_append, List.nodup_append] at h
      intro hm
      exact h.2.2 _ hm _ (by simp [names]) rfl
    rw [List.foldl_cons, At.add_out hx, fold_id r (acc ++ [x]) (by simpa using h)]
    simp
theorem nm_names : ∀ (vs : List (List UInt8)) (i : Nat), i + vs.length ≤ 10 → ∀ y ∈ names (nmL' i vs), ∃ k, i ≤ k ∧ k < 10 ∧ y = [120, (97 + k).toUInt8]
  | [], _, _, y, hy => by simp [nmL', names] at hy
  | v :: r, i, h, y, hy => by
    simp only [nmL', names, List.map_cons, List.mem_cons] at hy
    simp at h
    rcases hy with rfl | hy
    · exact ⟨i, Nat.le_refl _, by omega, rfl⟩
    · obtain ⟨k, h1, h2, h3⟩ := nm_names r (i + 1) (by omega) y hy
      exact ⟨k, by omega, h2, h3⟩
theorem nm_nodup : ∀ (vs : List (List UInt8)) (i : Nat), i + vs.length ≤ 10 → (names (nmL' i vs)).Nodup
  | [], _, _ => List.nodup_nil
  | v :: r, i, h => by
    simp at h
    show ([120, (97 + i).toUInt8] :: names (nmL' (i + 1) r)).Nodup
    rw [List.nodup_cons]
    refine ⟨fun hm => ?_, nm_nodup r (i + 1) (by omega)⟩
    obtain ⟨k, h1, h2, h3⟩ := nm_names r (i + 1) (by omega) _ hm
    simp only [List.cons.injEq, true_and, and_true] at h3
    have := let_nat (i := i) (by omega)
    rw [h3, let_nat h2] at this
    omega
theorem ads_wr (vs : List (List UInt8)) (h : vs.length ≤ 10) : ads (nmL' 0 vs) = nmL' 0 vs := fold_id _ [] (nm_nodup vs 0 (by omega))

/-- what is read of a written tag -/
theorem wr_tk (e s : Bool) {n : List UInt8} {vs : List (List UInt8)} (hn : nameL n = true) (hv : vs.length ≤ 10) (hg : ∀ v ∈ vs, Ch.Good v) :
    tkAt (wrT e s n vs) 0 = ⟨if e then 3 else 2, n, if e then [] else nmL' 0 vs, 0, ((wrT e s n vs).length : Int)⟩ ∧ bgAt (wrT e s n vs) 0 ≠ 0 := by
  have hb := wr_bg e s vs hn
  obtain ⟨R, hR⟩ := wrL_head s 0 vs
  have hne : wrT e s n vs ≠ [] := by unfold wrT; simp
  have hb0 : bg (wrT e s n vs) ≠ 0 := by rw [hb]; cases e <;> simp
  have hd : (wrT e s n vs).drop (bg (wrT e s n vs)) = n ++ 32 :: R := by
    rw [hb, ← hR]
    unfold wrT
    cases e <;> simp
  have ho := name_ov R n (Kl.name_all hn)
  have htn : tn (wrT e s n vs) = n := by unfold tn; rw [hd]; exact ho.2
  have htw : tw (wrT e s n vs) = bg (wrT e s n vs) + n.length := by unfold tw; rw [hd, ho.1]
  have hat := ats_wr s vs 0 (by omega) hg
  have htr : tr (wrT e s n vs) = some (nmL' 0 vs, (wrT e s n vs).length) := by
    unfold tr
    rw [htw, ← List.drop_drop, hd, List.drop_left, ← hR, hat]
    simp only [Option.map_some, Option.some.injEq, Prod.mk.injEq, true_and]
    rw [hb]
    unfold wrT
    cases e <;> simp <;> omega
  obtain ⟨h1, h2⟩ := whole_tk hb0 hne htr
  rw [h1, htn, hb, ads_wr vs hv]
  refine ⟨?_, by rw [h2]; exact hb0⟩
  cases e <;> rfl
end Go.Proofs.YtfnecdifaodamaaDoor.Tg
