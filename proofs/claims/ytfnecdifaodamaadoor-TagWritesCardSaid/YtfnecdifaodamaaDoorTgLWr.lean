/- The law TagWrites, walked. -/
import Derived.Test.YtfnecdifaodamaaDoorTgWrB
namespace Go.Proofs.YtfnecdifaodamaaDoor.Tg
open Go.RowKit Go.Lib
open Ch (at0 nx nx_width nx_range at0_lt at0_drop enc_len Sl Sl.below Cells good nx_good nx_enc enc_bytes enc_one info5)
open Kl (blankN greatN nameL)
open At (cellsA ads names below_trans)

set_option maxHeartbeats 1000000 in
set_option maxRecDepth 100000 in
theorem tagWrites_out (n : List UInt8) (k cap : Nat) (a : Option Addr) (e sg : Bool) (w : World) (hT : Tb w) (h : nameL n = false ∨ 40 < n.length ∨ 10 < k) :
    Calls Tryd.prog 5 #[.string ⟨n.toArray⟩, .slice a k cap, .bool e, .bool sg] w fun e w' => e = .returned (.bool true) ∧ Below w.heap.size w w' := by
  have key : ∀ (w1 : World), Below w.heap.size w w1 → Tb w1 := fun w1 hb => hT.below hb
  cases hn : nameL n with
  | false =>
    go_enter Tryd.func5, Tryd.ntmps5
    go_wp2_with fail
    refine (tspeaks_any w hT).mono ?_
    rintro e w1 ⟨rfl, hb1⟩
    have cN := Kl.name_any n w1
    rw [hn] at cN
    go_wp2_with fail
    refine cN.mono ?_
    rintro e w2 ⟨rfl, hb2⟩
    have hb12 := below_trans hb1 hb2
    go_wp2_with fail
    refine (tspeaks_any w2 (hT.below hb12)).mono ?_
    rintro e w3 ⟨rfl, hb3⟩
    go_wp2
    go_ret
    exact ⟨rfl, below_trans hb12 hb3⟩
  | true =>
    rw [hn] at h
    by_cases h1 : (40 : Int) < (n.length : Int)
    · go_enter Tryd.func5, Tryd.ntmps5
      go_wp2_with fail
      refine (tspeaks_any w hT).mono ?_
      rintro e w1 ⟨rfl, hb1⟩
      have cN := Kl.name_any n w1
      rw [hn] at cN
      go_wp2_with fail
      refine cN.mono ?_
      rintro e w2 ⟨rfl, hb2⟩
      have hb12 := below_trans hb1 hb2
      go_wp2_with fail
      refine (tspeaks_any w2 (hT.below hb12)).mono ?_
      rintro e w3 ⟨rfl, hb3⟩
      go_wp2
      go_ret
      exact ⟨rfl, below_trans hb12 hb3⟩
    · have h2 : (10 : Int) < (k : Int) := by
        rcases h with h | h | h
        · cases h
        · omega
        · omega
      go_enter Tryd.func5, Tryd.ntmps5
      go_wp2_with fail
      refine (tspeaks_any w hT).mono ?_
      rintro e w1 ⟨rfl, hb1⟩
      have cN := Kl.name_any n w1
      rw [hn] at cN
      go_wp2_with fail
      refine cN.mono ?_
      rintro e w2 ⟨rfl, hb2⟩
      have hb12 := below_trans hb1 hb2
      go_wp2_with fail
      refine (tspeaks_any w2 (hT.below hb12)).mono ?_
      rintro e w3 ⟨rfl, hb3⟩
      go_wp2
      go_ret
      exact ⟨rfl, below_trans hb12 hb3⟩

def WRel (e s : Bool) (n : List UInt8) (vs : List (List UInt8)) (w2 : World) (v9 v12 v48 : Value) (wr : World) : Prop :=
  ∃ (k : Nat) (acc : List UInt8), v48 = .int .i64 (k : Int) ∧ k ≤ vs.length ∧ v9 = .string ⟨acc.toArray⟩ ∧ acc = frn e s n (vs.take k) ∧ acc.length ≤ 100 + 400 * k ∧ wr.ownsRow w2.heap.size 9 1 v12 (vs.take k).length (strC (vs.take k)) ∧ Below w2.heap.size w2 wr ∧ ∀ v ∈ vs.take k, Ch.Good v

def VRel (s : Bool) (v X : List UInt8) (W : World) (gf : Nat) (v9 : Value) (wx : World) : Prop :=
  ∃ (pos : Nat) (acc : List UInt8), wx.heap[W.heap.size]? = some (.stringIter ⟨v.toArray⟩ pos) ∧ Below W.heap.size W wx ∧ v9 = .string ⟨acc.toArray⟩ ∧ acc ++ wrV s (v.drop pos) = X ++ wrV s v ∧ Ch.Good (v.drop pos) ∧ v.length ≤ pos + gf

theorem good_or {m : List UInt8} (h : Ch.Good m) (hm : m ≠ []) : ∃ (c : Nat) (r : List UInt8), m = encodeRune (c : Int) ++ r ∧ good c ∧ Ch.Good r := by
  cases h with
  | nil => exact absurd rfl hm
  | cons c r hg hr => exact ⟨c, r, rfl, hg, hr⟩

set_option maxHeartbeats 8000000 in
set_option maxRecDepth 100000 in
theorem tagWrites_ff (n : List UInt8) (vs : List (List UInt8)) (cap : Nat) (a : Option Addr) (w : World) (hT : Tb w) (hs : Ss vs a cap w) (hn : nameL n = true) (hnl : n.length ≤ 40) (hvl : vs.length ≤ 10) :
    Calls Tryd.prog 5 #[.string ⟨n.toArray⟩, .slice a vs.length cap, .bool false, .bool false] w fun e w' => e = .returned (.bool true) ∧ Below w.heap.size w w' := by
  have h1 : ¬ ((40 : Int) < (n.length : Int)) := by omega
  have h2 : ¬ ((10 : Int) < (vs.length : Int)) := by omega
  have HN := Lib.hid hn
  have HT := Lib.hid hT
  have HS := Lib.hid hs
  clear hT hs hn
  have kp0 : ¬ (9223372036854775807 < 1 + n.length) := by omega
  have kp1 : ¬ (9223372036854775807 < 2 + n.length) := by omega
  go_enter Tryd.func5, Tryd.ntmps5
  go_wp2_with fail
  refine (tspeaks_any w HT.out).mono ?_
  rintro e w1 ⟨rfl, hb1⟩
  have cN := Kl.name_any n w1
  rw [HN.out] at cN
  go_wp2_with fail
  refine cN.mono ?_
  rintro e w2 ⟨rfl, hb2⟩
  have HB2 := Lib.hid (below_trans hb1 hb2)
  clear hb1 hb2 cN
  go_wp2
  go_loopw [9, 12, 48] (fun v9 v12 v48 wr => WRel false false n vs w2 v9 v12 v48 wr) (fun _ _ v _ => vs.length - (RowKit.intOf v).toNat)
  case atStart =>
    refine ⟨0, frn false false n [], rfl, by omega, ?_, rfl, ?_, World.ownsRow_nil _ _ _ _, Below.refl _ _, fun v hv => by cases hv⟩
    · show Value.string (⟨[60].toArray⟩ ++ ⟨n.toArray⟩) = _
      rw [join_tw, frn_nil]
      rfl
    · rw [frn_nil]; simp; omega
  case round =>
    obtain ⟨k, acc, rfl, hk, rfl, hacc, hal, hown, hbw, hgood⟩ := hrel
    have hz := hbw.size
    by_cases hkl : k < vs.length
    · have hk1 : (k : Int) < (vs.length : Int) := by omega
      obtain ⟨hcap, h0 | ⟨b, off, rfl, hc⟩⟩ := (HS.out.below HB2.out).below hbw
      · subst h0; simp at hkl
      have c1 := hc k hkl
      have HSN := Lib.hid (frn_snoc false false n vs k hkl)
      have HTK := Lib.hid (st0_take hkl)
      obtain ⟨v, hv⟩ : ∃ v, st0 vs k = v := ⟨_, rfl⟩
      rw [hv] at c1 HSN HTK
      have HACC := Lib.hid hacc
      have HGOOD := Lib.hid hgood
      have HOWN := Lib.hid hown
      have HBW := Lib.hid hbw
      clear hc hv hacc hgood hown hbw
      by_cases hvl6 : (60 : Int) < (v.length : Int)
      · go_wp2
        go_ret
        exact ⟨rfl, HB2.out.trans (HBW.out.mono HB2.out.size)⟩
      have cC := Ch.clean_any v wr ((HT.out.below HB2.out).below HBW.out).1 (by omega)
      cases hcl : Ch.cleanB v with
      | false =>
        rw [hcl] at cC
        go_wp2_with fail
        refine cC.mono ?_
        rintro e w3 ⟨rfl, hb3⟩
        have HB3 := Lib.hid ((HB2.out.trans (HBW.out.mono HB2.out.size)).trans (hb3.mono (HB2.out.trans (HBW.out.mono HB2.out.size)).size))
        clear hb3 cC
        go_wp2
        go_ret
        exact ⟨rfl, HB3.out⟩
      | true =>
        rw [hcl] at cC
        have hgv : Ch.Good v := by
          unfold Ch.cleanB at hcl
          have := Ch.whole_good v
          rw [eq_of_beq hcl] at this
          exact this
        have HGV := Lib.hid hgv
        clear hcl hgv
        obtain ⟨D, hD⟩ : ∃ D : List UInt8, [(97 + k).toUInt8] = D := ⟨_, rfl⟩
        have hcv : ∀ w, (convert 21 9 (.int .i32 (97 + (k : Int)))).run Tryd.prog w = .ok (.string ⟨D.toArray⟩) w := by
          intro w
          have := conv_rune (97 + k) (by unfold ok; omega) w
          rw [enc_one _ (by omega)] at this
          rw [← hD]
          exact this
        have hDl : D.length = 1 := by rw [← hD]; rfl
        obtain ⟨X1, hX1⟩ : ∃ X, [32, 120] ++ D = X := ⟨_, rfl⟩
        obtain ⟨X2, hX2⟩ : ∃ X, X1 ++ [32, 61, 32] = X := ⟨_, rfl⟩
        obtain ⟨X3, hX3⟩ : ∃ X, X2 ++ [34] = X := ⟨_, rfl⟩
        obtain ⟨X4, hX4⟩ : ∃ X, acc ++ X3 = X := ⟨_, rfl⟩
        have l1 : X1.length = 3 := by rw [← hX1]; simp [hDl]
        have l2 : X2.length = 6 := by rw [← hX2]; simp [l1]
        have l3 : X3.length = 7 := by rw [← hX3]; simp [l2]
        have l4 : X4.length = acc.length + 7 := by rw [← hX4]; simp [l3]
        have j1 : (⟨#[32, 120]⟩ ++ ⟨D.toArray⟩ : ByteArray) = ⟨X1.toArray⟩ := by rw [← hX1]; exact join_tw [32, 120] D
        have j2 : (⟨X1.toArray⟩ ++ ⟨#[32, 61, 32]⟩ : ByteArray) = ⟨X2.toArray⟩ := by rw [← hX2]; exact join_tw X1 [32, 61, 32]
        have j3 : (⟨X2.toArray⟩ ++ ⟨#[34]⟩ : ByteArray) = ⟨X3.toArray⟩ := by rw [← hX3]; exact join_tw X2 [34]
        have j4 : (⟨acc.toArray⟩ ++ ⟨X3.toArray⟩ : ByteArray) = ⟨X4.toArray⟩ := by rw [← hX4]; exact join_tw acc X3
        have kp1 : ¬ (9223372036854775807 < 2 + D.length) := by omega
        have kp2 : ¬ (9223372036854775807 < X1.length + 3) := by omega
        have kp3 : ¬ (9223372036854775807 < X2.length + 1) := by omega
        have kp4 : ¬ (9223372036854775807 < acc.length + X3.length) := by omega
        have HX4 := Lib.hid (show X4 = acc ++ ([32, 120] ++ [(97 + k).toUInt8] ++ [32, 61, 32] ++ [34]) by rw [← hX4, ← hX3, ← hX2, ← hX1, ← hD])
        clear hX1 hX2 hX3 hX4 hD
        go_wp2_with fail
        refine cC.mono ?_
        rintro e w3 ⟨rfl, hb3⟩
        have HB3 := Lib.hid (HBW.out.trans (hb3.mono HBW.out.size))
        have HOWN3 := Lib.hid (Ch.ownsRow_below HOWN.out hb3)
        clear hb3 cC
        go_wp2
        go_loopg [9] v.length (fun gf v9 wx => VRel false v X4 w3 gf v9 wx)
        case atStart => exact ⟨0, X4, World.iter_heap w3 _ 0, (Below.refl _ w3).alloc (Nat.le_refl _) _, rfl, rfl, HGV.out, by omega⟩
        case round =>
          generalize wr = wx at *
          obtain ⟨pos, ac, hit, hbx, rfl, hac, hgd, hfu⟩ := hrel
          have hacl : ac.length ≤ 5000 := by
            have q1 := congrArg List.length hac
            have q2 := wrV_len false v
            rw [List.length_append, List.length_append] at q1
            omega
          by_cases hps : pos < v.length
          · obtain ⟨g', rfl⟩ : ∃ g', gk = g' + 1 := ⟨gk - 1, by omega⟩
            have hnx : ∀ ty, (Instr.next (.pointer (some ⟨w3.heap.size, 0, none⟩)) true ty).run Tryd.prog wx = _ := fun ty => Lib.run_next_any_at wx w3.heap.size ⟨v.toArray⟩ pos ty hit (by rw [Kl.str_size]; exact hps)
            obtain ⟨c, r, hcr, hg, hr⟩ := good_or hgd (by intro q; rw [List.drop_eq_nil_iff] at q; omega)
            rw [Kl.decode_dec, dec_at hg hcr] at hnx
            simp only at hnx
            have hwe := wr_enc false hg
            have hcv2 := fun w => conv_rune c (by unfold ok; unfold good at hg; omega) w
            have hw1 := (enc_len (c : Int))
            have h38 : encodeRune (c : Int) = [38] ↔ c = 38 := by
              constructor
              · intro q
                have q2 := nx_enc c [] hg
                rw [q] at q2
                have q3 : nx ([38] ++ []) = (38, 1) := nx_cons (b := 38) (r := []) (by decide) (by decide) (by decide)
                rw [q3] at q2
                simp only [Prod.mk.injEq] at q2
                omega
              · rintro rfl; decide +kernel
            have h39 : encodeRune (c : Int) = [34] ↔ c = 34 := by
              constructor
              · intro q
                have q2 := nx_enc c [] hg
                rw [q] at q2
                have q3 : nx ([34] ++ []) = (34, 1) := nx_cons (b := 34) (r := []) (by decide) (by decide) (by decide)
                rw [q3] at q2
                simp only [Prod.mk.injEq] at q2
                omega
              · rintro rfl; decide +kernel
            rw [hcr, wrV_append, hwe, ← List.append_assoc] at hac
            obtain ⟨E, hE⟩ : ∃ E, encodeRune (c : Int) = E := ⟨_, rfl⟩
            have hdr : v.drop (pos + E.length) = r := by rw [← List.drop_drop, hcr, ← hE, List.drop_left]
            rw [hE] at hnx hcv2 hw1 h38 h39 hac
            have hit2 := Lib.iterAt_heap wx w3.heap.size ⟨v.toArray⟩ pos (pos + E.length) hit
            have hbx2 := Lib.below_iterAt hbx (k := w3.heap.size) (Nat.le_refl _) ⟨v.toArray⟩ (pos + E.length)
            obtain ⟨V, hV⟩ : ∃ V, wx.iterAt w3.heap.size ⟨v.toArray⟩ (pos + E.length) = V := ⟨_, rfl⟩
            rw [hV] at hnx hit2 hbx2
            have HIT2 := Lib.hid hit2
            have HBX2 := Lib.hid hbx2
            have HDR := Lib.hid hdr
            have HR := Lib.hid hr
            clear hit hbx hgd hcr hwe hE hdr hV hit2 hbx2 hr hg
            by_cases e38 : c = 38
            · rw [if_pos e38] at hac
              obtain rfl := h38.2 e38
              have HAC := Lib.hid hac
              have kq : ¬ (9223372036854775807 < ac.length + 5) := by omega
              have jq : (⟨ac.toArray⟩ ++ ⟨#[38, 97, 109, 112, 59]⟩ : ByteArray) = ⟨(ac ++ [38, 97, 109, 112, 59]).toArray⟩ := join_tw ac [38, 97, 109, 112, 59]
              clear hac h38 h39 e38
              go_wp2
              go_roundg g'
              case measure => omega
              case rel => exact ⟨pos + [38].length, ac ++ [38, 97, 109, 112, 59], HIT2.out, HBX2.out, rfl, by rw [HDR.out]; exact HAC.out, by rw [HDR.out]; exact HR.out, by simp; omega⟩
            · rw [if_neg e38] at hac
              by_cases e39 : c = 34
              · rw [if_pos (show c = (qB false).toNat from e39)] at hac
                obtain rfl := h39.2 e39
                have HAC := Lib.hid hac
                have kq : ¬ (9223372036854775807 < ac.length + 6) := by omega
                have jq : (⟨ac.toArray⟩ ++ ⟨#[38, 113, 117, 111, 116, 59]⟩ : ByteArray) = ⟨(ac ++ qE false).toArray⟩ := join_tw ac [38, 113, 117, 111, 116, 59]
                clear hac h38 h39 e38 e39
                go_wp2
                go_roundg g'
                case measure => omega
                case rel => exact ⟨pos + [34].length, ac ++ qE false, HIT2.out, HBX2.out, rfl, by rw [HDR.out]; exact HAC.out, by rw [HDR.out]; exact HR.out, by simp; omega⟩
              · rw [if_neg (show ¬ c = (qB false).toNat from e39)] at hac
                have t38 : (E == [38]) = false := by simpa using fun q => e38 (h38.1 q)
                have t39 : (E == [34]) = false := by simpa using fun q => e39 (h39.1 q)
                have HAC := Lib.hid hac
                have kq : ¬ (9223372036854775807 < ac.length + E.length) := by omega
                obtain ⟨Y, hY⟩ : ∃ Y, ac ++ E = Y := ⟨_, rfl⟩
                have jq : (⟨ac.toArray⟩ ++ ⟨E.toArray⟩ : ByteArray) = ⟨Y.toArray⟩ := by rw [← hY]; exact join_tw ac E
                rw [hY] at HAC
                clear hac h38 h39 e38 e39 hY
                go_wp2
                go_roundg g'
                case measure => omega
                case rel => exact ⟨pos + E.length, Y, HIT2.out, HBX2.out, rfl, by rw [HDR.out]; exact HAC.out, by rw [HDR.out]; exact HR.out, by omega⟩
          · have hnx : ∀ ty, (Instr.next (.pointer (some ⟨w3.heap.size, 0, none⟩)) true ty).run Tryd.prog wx = _ := fun ty => Lib.run_next_end_at wx w3.heap.size _ pos ty hit (by rw [Kl.str_size]; exact hps)
            rw [List.drop_of_length_le (by omega), wrV_nil, List.append_nil] at hac
            have hownx := Ch.ownsRow_below HOWN3.out hbx
            have hbwx := HB3.out.trans (hbx.mono HB3.out.size)
            obtain ⟨v7, w7, hr7, hown7, hg7⟩ := app_str wx w2.heap.size _ (vs.take k) v hownx (by simp; omega) hbwx.size
            have hb7 := hbwx.grown hg7 hbwx.size (fun q hq => (hownx.lt q hq).1)
            rw [← HTK.out] at hown7
            obtain ⟨Z, hZ⟩ : ∃ Z, ac ++ [34] = Z := ⟨_, rfl⟩
            have jz : (⟨ac.toArray⟩ ++ ⟨#[34]⟩ : ByteArray) = ⟨Z.toArray⟩ := by rw [← hZ]; exact join_tw ac [34]
            have kz : ¬ (9223372036854775807 < ac.length + 1) := by omega
            have hZf : Z = frn false false n (vs.take (k + 1)) := by
              rw [← hZ, hac, HX4.out, HACC.out, HSN.out]
              show _ = _ ++ ([32, 120, (97 + k).toUInt8, 32, 61, 32, 34] ++ wrV false v ++ [34])
              simp
            have hZl : Z.length ≤ 100 + 400 * (k + 1) := by
              have q1 := congrArg List.length hac
              have q2 := wrV_len false v
              rw [List.length_append] at q1
              rw [← hZ, List.length_append, q1, List.length_singleton]
              omega
            have hgn : ∀ u ∈ vs.take (k + 1), Ch.Good u := by
              rw [HTK.out]
              intro u hu
              rcases List.mem_append.1 hu with hu | hu
              · exact HGOOD.out u hu
              · simp at hu; subst hu; exact HGV.out
            have HR7 := Lib.hid hr7
            have HO7 := Lib.hid hown7
            have HB7 := Lib.hid hb7
            have HZF := Lib.hid hZf
            have HGN := Lib.hid hgn
            clear hit hac hgd hownx hbwx hr7 hown7 hg7 hb7 hZ hZf hgn hbx
            go_wp2_with (at_builtin; refine Lib.wpList_append_run _ rfl (.tmp 95) (.tmp 97) 45 45 rfl _ _ rfl rfl v7 w7 HR7.out ?_)
            go_roundw
            case rel => exact ⟨k + 1, Z, by go_num, by omega, rfl, HZF.out, hZl, HO7.out, HB7.out, HGN.out⟩
            case measure => simp [RowKit.intOf]; omega
    · have hk1 : ¬ ((k : Int) < (vs.length : Int)) := by omega
      obtain rfl : k = vs.length := by omega
      rw [List.take_length] at hacc hown hgood
      obtain ⟨a3, cap3, rfl, hs3⟩ := ss_own hown
      obtain ⟨S, hS⟩ : ∃ S, acc ++ [32, 47, 62] = S := ⟨_, rfl⟩
      have jS : (⟨acc.toArray⟩ ++ ⟨#[32, 47, 62]⟩ : ByteArray) = ⟨S.toArray⟩ := by rw [← hS]; exact join_tw acc [32, 47, 62]
      have kS : ¬ (9223372036854775807 < acc.length + 3) := by omega
      have hSl : S.length ≤ 5000 := by rw [← hS]; simp; omega
      have hSw : S = wrT false false n vs := by rw [← hS, hacc, frn_end]
      obtain ⟨htk, hbg⟩ := wr_tk false false HN.out hvl hgood
      rw [← hSw] at htk hbg
      obtain ⟨L, hL⟩ : ∃ L, nmL' 0 vs = L := ⟨_, rfl⟩
      have htk' : tkAt S 0 = ⟨2, n, L, 0, (S.length : Int)⟩ := by rw [← hL]; exact htk
      have HTK := Lib.hid htk'
      have HD := Lib.hid (decide_eq_true hbg : decide (bgAt S 0 ≠ 0) = true)
      have HL := Lib.hid hL
      obtain ⟨capS, WS, hconv, hsS, hbS⟩ := Ch.bytes_of S wr
      have hbw0 := HB2.out.trans (hbw.mono HB2.out.size)
      have hbwS := hbw0.trans (hbS.mono hbw0.size)
      have cR := read_on 0 hsS (HT.out.below hbwS) (by omega)
      have HBS := Lib.hid hbwS
      have HS3 := Lib.hid (hs3.below hbS)
      clear hacc hown hgood hs3 hS hSw htk htk' hbg hL hsS hbS hbw0 hbwS hbw
      go_wp2_with fail
      refine cR.mono ?_
      rintro e w6 ⟨s6, rfl, ho6, hb6⟩
      rw [HTK.out] at ho6 ⊢
      rw [HD.out]
      obtain ⟨a7, cap7, rfl, hs7⟩ := At.sl_own ho6
      unfold tokV
      simp only at ho6 hs7 ⊢
      have hLl : L.length = vs.length := by rw [← HL.out]; exact nm_len vs 0
      have hat : ∀ i, i < vs.length → At.at0 L i = ([120, (97 + i).toUInt8], st0 vs i) := by
        intro i hi
        rw [← HL.out, nm_at vs 0 i hi, Nat.zero_add]
      have HAT := Lib.hid hat
      have HLL := Lib.hid hLl
      have hb6' := HBS.out.trans (hb6.mono HBS.out.size)
      have hbA := hb6'.alloc hb6'.size (.cells #[.int .i64 2, .string ⟨n.toArray⟩, .slice a7 L.length cap7, .string ⟨#[]⟩, .int .i64 0, .int .i64 (S.length : Int)] 29)
      have hkA := bk_new w6 #[.int .i64 2, .string ⟨n.toArray⟩, .slice a7 L.length cap7, .string ⟨#[]⟩, .int .i64 0, .int .i64 (S.length : Int)] 29
      have hs7A := hs7.below ((Below.refl _ w6).alloc (Nat.le_refl _) (.cells #[.int .i64 2, .string ⟨n.toArray⟩, .slice a7 L.length cap7, .string ⟨#[]⟩, .int .i64 0, .int .i64 (S.length : Int)] 29))
      have hs3A := (HS3.out.below hb6).below ((Below.refl _ w6).alloc (Nat.le_refl _) (.cells #[.int .i64 2, .string ⟨n.toArray⟩, .slice a7 L.length cap7, .string ⟨#[]⟩, .int .i64 0, .int .i64 (S.length : Int)] 29))
      rw [hLl] at hbA hkA hs7A hs3A ⊢
      obtain ⟨WB, hWB⟩ : ∃ WB, w6.alloc (.cells #[.int .i64 2, .string ⟨n.toArray⟩, .slice a7 vs.length cap7, .string ⟨#[]⟩, .int .i64 0, .int .i64 (S.length : Int)] 29) = WB := ⟨_, rfl⟩
      rw [hWB] at hbA hkA hs7A hs3A
      obtain ⟨k0, k1, k2, k3, k4, k5, -, -, -, -, -, -⟩ := hkA.six
      have HBA := Lib.hid hbA
      have HS7 := Lib.hid hs7A
      have HS3A := Lib.hid hs3A
      clear ho6 hs7 hb6 hb6' cR hat hLl hbA hkA hs7A hs3A
      go_wp2
      go_loopw [149] (fun v wz => ∃ i : Nat, v = .int .i64 (i : Int) ∧ i ≤ vs.length ∧ Below WB.heap.size WB wz) (fun v _ => vs.length - (RowKit.intOf v).toNat)
      case atStart => exact ⟨0, rfl, by omega, Below.refl _ _⟩
      case round =>
        generalize wr = wz at *
        obtain ⟨i, rfl, hi, hbz⟩ := hrel
        have hbwz := HBA.out.trans (hbz.mono HBA.out.size)
        by_cases hil : i < vs.length
        · have hi1 : (i : Int) < (vs.length : Int) := by omega
          obtain ⟨-, -, z0 | ⟨b7, off7, rfl, hc7⟩⟩ := HS7.out.below hbz
          · have := HLL.out; rw [z0] at this; simp at this; omega
          obtain ⟨-, z0 | ⟨b3, off3, rfl, hc3⟩⟩ := HS3A.out.below hbz
          · subst z0; simp at hil
          obtain ⟨c1, c2⟩ := hc7 i (by have := HLL.out; omega)
          have c3 := hc3 i hil
          rw [HAT.out i hil] at c1 c2
          simp only at c1 c2
          obtain ⟨v, hv⟩ : ∃ v, st0 vs i = v := ⟨_, rfl⟩
          rw [hv] at c2 c3
          obtain ⟨D, hD⟩ : ∃ D : List UInt8, [(97 + i).toUInt8] = D := ⟨_, rfl⟩
          have hcv : ∀ w, (convert 21 9 (.int .i32 (97 + (i : Int)))).run Tryd.prog w = .ok (.string ⟨D.toArray⟩) w := by
            intro w
            have := conv_rune (97 + i) (by unfold ok; omega) w
            rw [enc_one _ (by omega)] at this
            rw [← hD]
            exact this
          have hDl : D.length = 1 := by rw [← hD]; rfl
          obtain ⟨X1, hX1⟩ : ∃ X, [120] ++ D = X := ⟨_, rfl⟩
          have j1 : (⟨#[120]⟩ ++ ⟨D.toArray⟩ : ByteArray) = ⟨X1.toArray⟩ := by rw [← hX1]; exact join_tw [120] D
          have kp1 : ¬ (9223372036854775807 < 1 + D.length) := by omega
          have hx : [120, (97 + i).toUInt8] = X1 := by rw [← hX1, ← hD]; rfl
          rw [hx] at c1
          have hbA : Below w.heap.size w (wz.alloc (.cells #[.string ⟨X1.toArray⟩, .string ⟨v.toArray⟩] 43)) := hbwz.alloc hbwz.size _
          have hbB : Below WB.heap.size WB (wz.alloc (.cells #[.string ⟨X1.toArray⟩, .string ⟨v.toArray⟩] 43)) := hbz.alloc hbz.size _
          have hkZ := bk_new wz #[.string ⟨X1.toArray⟩, .string ⟨v.toArray⟩] 43
          have c3A : (wz.alloc (.cells #[.string ⟨X1.toArray⟩, .string ⟨v.toArray⟩] 43)).cell? ⟨b3, off3 + i, none⟩ = some (.string ⟨v.toArray⟩) := (((Below.refl _ wz).alloc (Nat.le_refl _) _).cell (Ch.cell_lt c3)).trans c3
          obtain ⟨WC, hWC⟩ : ∃ WC, wz.alloc (.cells #[.string ⟨X1.toArray⟩, .string ⟨v.toArray⟩] 43) = WC := ⟨_, rfl⟩
          rw [hWC] at hbA hbB hkZ c3A
          have q0 : WC.cell? ⟨wz.heap.size, 0, none⟩ = some (.string ⟨X1.toArray⟩) := hkZ.cell 0
          have q1 : WC.cell? ⟨wz.heap.size, 1, none⟩ = some (.string ⟨v.toArray⟩) := hkZ.cell 1
          have t1 : (v != v) = false := by simp
          have t2 : (X1 != X1) = false := by simp
          have HBB := Lib.hid hbB
          clear hc7 hc3 hv hD hX1 hx hbA hbB hkZ hbwz hbz
          go_wp2
          go_quiet (fail)
          go_wp2
          go_roundw
          case rel => exact ⟨i + 1, by go_num, by omega, ⟨HBB.out.os, HBB.out.tape, HBB.out.output, HBB.out.size, HBB.out.block⟩⟩
          case measure => simp [RowKit.intOf]; omega
        · have hi1 : ¬ ((i : Int) < (vs.length : Int)) := by omega
          have HBZ := Lib.hid hbwz
          clear hbz hbwz
          go_wp2
          go_ret
          exact ⟨rfl, HBZ.out⟩

set_option maxHeartbeats 8000000 in
set_option maxRecDepth 100000 in
theorem tagWrites_ft (n : List UInt8) (vs : List (List UInt8)) (cap : Nat) (a : Option Addr) (w : World) (hT : Tb w) (hs : Ss vs a cap w) (hn : nameL n = true) (hnl : n.length ≤ 40) (hvl : vs.length ≤ 10) :
    Calls Tryd.prog 5 #[.string ⟨n.toArray⟩, .slice a vs.length cap, .bool false, .bool true] w fun e w' => e = .returned (.bool true) ∧ Below w.heap.size w w' := by
  have h1 : ¬ ((40 : Int) < (n.length : Int)) := by omega
  have h2 : ¬ ((10 : Int) < (vs.length : Int)) := by omega
  have HN := Lib.hid hn
  have HT := Lib.hid hT
  have HS := Lib.hid hs
  clear hT hs hn
  have kp0 : ¬ (9223372036854775807 < 1 + n.length) := by omega
  have kp1 : ¬ (9223372036854775807 < 2 + n.length) := by omega
  go_enter Tryd.func5, Tryd.ntmps5
  go_wp2_with fail
  refine (tspeaks_any w HT.out).mono ?_
  rintro e w1 ⟨rfl, hb1⟩
  have cN := Kl.name_any n w1
  rw [HN.out] at cN
  go_wp2_with fail
  refine cN.mono ?_
  rintro e w2 ⟨rfl, hb2⟩
  have HB2 := Lib.hid (below_trans hb1 hb2)
  clear hb1 hb2 cN
  go_wp2
  go_loopw [9, 12, 48] (fun v9 v12 v48 wr => WRel false true n vs w2 v9 v12 v48 wr) (fun _ _ v _ => vs.length - (RowKit.intOf v).toNat)
  case atStart =>
    refine ⟨0, frn false true n [], rfl, by omega, ?_, rfl, ?_, World.ownsRow_nil _ _ _ _, Below.refl _ _, fun v hv => by cases hv⟩
    · show Value.string (⟨[60].toArray⟩ ++ ⟨n.toArray⟩) = _
      rw [join_tw, frn_nil]
      rfl
    · rw [frn_nil]; simp; omega
  case round =>
    obtain ⟨k, acc, rfl, hk, rfl, hacc, hal, hown, hbw, hgood⟩ := hrel
    have hz := hbw.size
    by_cases hkl : k < vs.length
    · have hk1 : (k : Int) < (vs.length : Int) := by omega
      obtain ⟨hcap, h0 | ⟨b, off, rfl, hc⟩⟩ := (HS.out.below HB2.out).below hbw
      · subst h0; simp at hkl
      have c1 := hc k hkl
      have HSN := Lib.hid (frn_snoc false true n vs k hkl)
      have HTK := Lib.hid (st0_take hkl)
      obtain ⟨v, hv⟩ : ∃ v, st0 vs k = v := ⟨_, rfl⟩
      rw [hv] at c1 HSN HTK
      have HACC := Lib.hid hacc
      have HGOOD := Lib.hid hgood
      have HOWN := Lib.hid hown
      have HBW := Lib.hid hbw
      clear hc hv hacc hgood hown hbw
      by_cases hvl6 : (60 : Int) < (v.length : Int)
      · go_wp2
        go_ret
        exact ⟨rfl, HB2.out.trans (HBW.out.mono HB2.out.size)⟩
      have cC := Ch.clean_any v wr ((HT.out.below HB2.out).below HBW.out).1 (by omega)
      cases hcl : Ch.cleanB v with
      | false =>
        rw [hcl] at cC
        go_wp2_with fail
        refine cC.mono ?_
        rintro e w3 ⟨rfl, hb3⟩
        have HB3 := Lib.hid ((HB2.out.trans (HBW.out.mono HB2.out.size)).trans (hb3.mono (HB2.out.trans (HBW.out.mono HB2.out.size)).size))
        clear hb3 cC
        go_wp2
        go_ret
        exact ⟨rfl, HB3.out⟩
      | true =>
        rw [hcl] at cC
        have hgv : Ch.Good v := by
          unfold Ch.cleanB at hcl
          have := Ch.whole_good v
          rw [eq_of_beq hcl] at this
          exact this
        have HGV := Lib.hid hgv
        clear hcl hgv
        obtain ⟨D, hD⟩ : ∃ D : List UInt8, [(97 + k).toUInt8] = D := ⟨_, rfl⟩
        have hcv : ∀ w, (convert 21 9 (.int .i32 (97 + (k : Int)))).run Tryd.prog w = .ok (.string ⟨D.toArray⟩) w := by
          intro w
          have := conv_rune (97 + k) (by unfold ok; omega) w
          rw [enc_one _ (by omega)] at this
          rw [← hD]
          exact this
        have hDl : D.length = 1 := by rw [← hD]; rfl
        obtain ⟨X1, hX1⟩ : ∃ X, [32, 120] ++ D = X := ⟨_, rfl⟩
        obtain ⟨X2, hX2⟩ : ∃ X, X1 ++ [32, 61, 32] = X := ⟨_, rfl⟩
        obtain ⟨X3, hX3⟩ : ∃ X, X2 ++ [39] = X := ⟨_, rfl⟩
        obtain ⟨X4, hX4⟩ : ∃ X, acc ++ X3 = X := ⟨_, rfl⟩
        have l1 : X1.length = 3 := by rw [← hX1]; simp [hDl]
        have l2 : X2.length = 6 := by rw [← hX2]; simp [l1]
        have l3 : X3.length = 7 := by rw [← hX3]; simp [l2]
        have l4 : X4.length = acc.length + 7 := by rw [← hX4]; simp [l3]
        have j1 : (⟨#[32, 120]⟩ ++ ⟨D.toArray⟩ : ByteArray) = ⟨X1.toArray⟩ := by rw [← hX1]; exact join_tw [32, 120] D
        have j2 : (⟨X1.toArray⟩ ++ ⟨#[32, 61, 32]⟩ : ByteArray) = ⟨X2.toArray⟩ := by rw [← hX2]; exact join_tw X1 [32, 61, 32]
        have j3 : (⟨X2.toArray⟩ ++ ⟨#[39]⟩ : ByteArray) = ⟨X3.toArray⟩ := by rw [← hX3]; exact join_tw X2 [39]
        have j4 : (⟨acc.toArray⟩ ++ ⟨X3.toArray⟩ : ByteArray) = ⟨X4.toArray⟩ := by rw [← hX4]; exact join_tw acc X3
        have kp1 : ¬ (9223372036854775807 < 2 + D.length) := by omega
        have kp2 : ¬ (9223372036854775807 < X1.length + 3) := by omega
        have kp3 : ¬ (9223372036854775807 < X2.length + 1) := by omega
        have kp4 : ¬ (9223372036854775807 < acc.length + X3.length) := by omega
        have HX4 := Lib.hid (show X4 = acc ++ ([32, 120] ++ [(97 + k).toUInt8] ++ [32, 61, 32] ++ [39]) by rw [← hX4, ← hX3, ← hX2, ← hX1, ← hD])
        clear hX1 hX2 hX3 hX4 hD
        go_wp2_with fail
        refine cC.mono ?_
        rintro e w3 ⟨rfl, hb3⟩
        have HB3 := Lib.hid (HBW.out.trans (hb3.mono HBW.out.size))
        have HOWN3 := Lib.hid (Ch.ownsRow_below HOWN.out hb3)
        clear hb3 cC
        go_wp2
        go_loopg [9] v.length (fun gf v9 wx => VRel true v X4 w3 gf v9 wx)
        case atStart => exact ⟨0, X4, World.iter_heap w3 _ 0, (Below.refl _ w3).alloc (Nat.le_refl _) _, rfl, rfl, HGV.out, by omega⟩
        case round =>
          generalize wr = wx at *
          obtain ⟨pos, ac, hit, hbx, rfl, hac, hgd, hfu⟩ := hrel
          have hacl : ac.length ≤ 5000 := by
            have q1 := congrArg List.length hac
            have q2 := wrV_len true v
            rw [List.length_append, List.length_append] at q1
            omega
          by_cases hps : pos < v.length
          · obtain ⟨g', rfl⟩ : ∃ g', gk = g' + 1 := ⟨gk - 1, by omega⟩
            have hnx : ∀ ty, (Instr.next (.pointer (some ⟨w3.heap.size, 0, none⟩)) true ty).run Tryd.prog wx = _ := fun ty => Lib.run_next_any_at wx w3.heap.size ⟨v.toArray⟩ pos ty hit (by rw [Kl.str_size]; exact hps)
            obtain ⟨c, r, hcr, hg, hr⟩ := good_or hgd (by intro q; rw [List.drop_eq_nil_iff] at q; omega)
            rw [Kl.decode_dec, dec_at hg hcr] at hnx
            simp only at hnx
            have hwe := wr_enc true hg
            have hcv2 := fun w => conv_rune c (by unfold ok; unfold good at hg; omega) w
            have hw1 := (enc_len (c : Int))
            have h38 : encodeRune (c : Int) = [38] ↔ c = 38 := by
              constructor
              · intro q
                have q2 := nx_enc c [] hg
                rw [q] at q2
                have q3 : nx ([38] ++ []) = (38, 1) := nx_cons (b := 38) (r := []) (by decide) (by decide) (by decide)
                rw [q3] at q2
                simp only [Prod.mk.injEq] at q2
                omega
              · rintro rfl; decide +kernel
            have h39 : encodeRune (c : Int) = [39] ↔ c = 39 := by
              constructor
              · intro q
                have q2 := nx_enc c [] hg
                rw [q] at q2
                have q3 : nx ([39] ++ []) = (39, 1) := nx_cons (b := 39) (r := []) (by decide) (by decide) (by decide)
                rw [q3] at q2
                simp only [Prod.mk.injEq] at q2
                omega
              · rintro rfl; decide +kernel
            rw [hcr, wrV_append, hwe, ← List.append_assoc] at hac
            obtain ⟨E, hE⟩ : ∃ E, encodeRune (c : Int) = E := ⟨_, rfl⟩
            have hdr : v.drop (pos + E.length) = r := by rw [← List.drop_drop, hcr, ← hE, List.drop_left]
            rw [hE] at hnx hcv2 hw1 h38 h39 hac
            have hit2 := Lib.iterAt_heap wx w3.heap.size ⟨v.toArray⟩ pos (pos + E.length) hit
            have hbx2 := Lib.below_iterAt hbx (k := w3.heap.size) (Nat.le_refl _) ⟨v.toArray⟩ (pos + E.length)
            obtain ⟨V, hV⟩ : ∃ V, wx.iterAt w3.heap.size ⟨v.toArray⟩ (pos + E.length) = V := ⟨_, rfl⟩
            rw [hV] at hnx hit2 hbx2
            have HIT2 := Lib.hid hit2
            have HBX2 := Lib.hid hbx2
            have HDR := Lib.hid hdr
            have HR := Lib.hid hr
            clear hit hbx hgd hcr hwe hE hdr hV hit2 hbx2 hr hg
            by_cases e38 : c = 38
            · rw [if_pos e38] at hac
              obtain rfl := h38.2 e38
              have HAC := Lib.hid hac
              have kq : ¬ (9223372036854775807 < ac.length + 5) := by omega
              have jq : (⟨ac.toArray⟩ ++ ⟨#[38, 97, 109, 112, 59]⟩ : ByteArray) = ⟨(ac ++ [38, 97, 109, 112, 59]).toArray⟩ := join_tw ac [38, 97, 109, 112, 59]
              clear hac h38 h39 e38
              go_wp2
              go_roundg g'
              case measure => omega
              case rel => exact ⟨pos + [38].length, ac ++ [38, 97, 109, 112, 59], HIT2.out, HBX2.out, rfl, by rw [HDR.out]; exact HAC.out, by rw [HDR.out]; exact HR.out, by simp; omega⟩
            · rw [if_neg e38] at hac
              by_cases e39 : c = 39
              · rw [if_pos (show c = (qB true).toNat from e39)] at hac
                obtain rfl := h39.2 e39
                have HAC := Lib.hid hac
                have kq : ¬ (9223372036854775807 < ac.length + 5) := by omega
                have jq : (⟨ac.toArray⟩ ++ ⟨#[38, 35, 51, 57, 59]⟩ : ByteArray) = ⟨(ac ++ qE true).toArray⟩ := join_tw ac [38, 35, 51, 57, 59]
                clear hac h38 h39 e38 e39
                go_wp2
                go_roundg g'
                case measure => omega
                case rel => exact ⟨pos + [39].length, ac ++ qE true, HIT2.out, HBX2.out, rfl, by rw [HDR.out]; exact HAC.out, by rw [HDR.out]; exact HR.out, by simp; omega⟩
              · rw [if_neg (show ¬ c = (qB true).toNat from e39)] at hac
                have t38 : (E == [38]) = false := by simpa using fun q => e38 (h38.1 q)
                have t39 : (E == [39]) = false := by simpa using fun q => e39 (h39.1 q)
                have HAC := Lib.hid hac
                have kq : ¬ (9223372036854775807 < ac.length + E.length) := by omega
                obtain ⟨Y, hY⟩ : ∃ Y, ac ++ E = Y := ⟨_, rfl⟩
                have jq : (⟨ac.toArray⟩ ++ ⟨E.toArray⟩ : ByteArray) = ⟨Y.toArray⟩ := by rw [← hY]; exact join_tw ac E
                rw [hY] at HAC
                clear hac h38 h39 e38 e39 hY
                go_wp2
                go_roundg g'
                case measure => omega
                case rel => exact ⟨pos + E.length, Y, HIT2.out, HBX2.out, rfl, by rw [HDR.out]; exact HAC.out, by rw [HDR.out]; exact HR.out, by omega⟩
          · have hnx : ∀ ty, (Instr.next (.pointer (some ⟨w3.heap.size, 0, none⟩)) true ty).run Tryd.prog wx = _ := fun ty => Lib.run_next_end_at wx w3.heap.size _ pos ty hit (by rw [Kl.str_size]; exact hps)
            rw [List.drop_of_length_le (by omega), wrV_nil, List.append_nil] at hac
            have hownx := Ch.ownsRow_below HOWN3.out hbx
            have hbwx := HB3.out.trans (hbx.mono HB3.out.size)
            obtain ⟨v7, w7, hr7, hown7, hg7⟩ := app_str wx w2.heap.size _ (vs.take k) v hownx (by simp; omega) hbwx.size
            have hb7 := hbwx.grown hg7 hbwx.size (fun q hq => (hownx.lt q hq).1)
            rw [← HTK.out] at hown7
            obtain ⟨Z, hZ⟩ : ∃ Z, ac ++ [39] = Z := ⟨_, rfl⟩
            have jz : (⟨ac.toArray⟩ ++ ⟨#[39]⟩ : ByteArray) = ⟨Z.toArray⟩ := by rw [← hZ]; exact join_tw ac [39]
            have kz : ¬ (9223372036854775807 < ac.length + 1) := by omega
            have hZf : Z = frn false true n (vs.take (k + 1)) := by
              rw [← hZ, hac, HX4.out, HACC.out, HSN.out]
              show _ = _ ++ ([32, 120, (97 + k).toUInt8, 32, 61, 32, 39] ++ wrV true v ++ [39])
              simp
            have hZl : Z.length ≤ 100 + 400 * (k + 1) := by
              have q1 := congrArg List.length hac
              have q2 := wrV_len true v
              rw [List.length_append] at q1
              rw [← hZ, List.length_append, q1, List.length_singleton]
              omega
            have hgn : ∀ u ∈ vs.take (k + 1), Ch.Good u := by
              rw [HTK.out]
              intro u hu
              rcases List.mem_append.1 hu with hu | hu
              · exact HGOOD.out u hu
              · simp at hu; subst hu; exact HGV.out
            have HR7 := Lib.hid hr7
            have HO7 := Lib.hid hown7
            have HB7 := Lib.hid hb7
            have HZF := Lib.hid hZf
            have HGN := Lib.hid hgn
            clear hit hac hgd hownx hbwx hr7 hown7 hg7 hb7 hZ hZf hgn hbx
            go_wp2_with (at_builtin; refine Lib.wpList_append_run _ rfl (.tmp 95) (.tmp 97) 45 45 rfl _ _ rfl rfl v7 w7 HR7.out ?_)
            go_roundw
            case rel => exact ⟨k + 1, Z, by go_num, by omega, rfl, HZF.out, hZl, HO7.out, HB7.out, HGN.out⟩
            case measure => simp [RowKit.intOf]; omega
    · have hk1 : ¬ ((k : Int) < (vs.length : Int)) := by omega
      obtain rfl : k = vs.length := by omega
      rw [List.take_length] at hacc hown hgood
      obtain ⟨a3, cap3, rfl, hs3⟩ := ss_own hown
      obtain ⟨S, hS⟩ : ∃ S, acc ++ [32, 47, 62] = S := ⟨_, rfl⟩
      have jS : (⟨acc.toArray⟩ ++ ⟨#[32, 47, 62]⟩ : ByteArray) = ⟨S.toArray⟩ := by rw [← hS]; exact join_tw acc [32, 47, 62]
      have kS : ¬ (9223372036854775807 < acc.length + 3) := by omega
      have hSl : S.length ≤ 5000 := by rw [← hS]; simp; omega
      have hSw : S = wrT false true n vs := by rw [← hS, hacc, frn_end]
      obtain ⟨htk, hbg⟩ := wr_tk false true HN.out hvl hgood
      rw [← hSw] at htk hbg
      obtain ⟨L, hL⟩ : ∃ L, nmL' 0 vs = L := ⟨_, rfl⟩
      have htk' : tkAt S 0 = ⟨2, n, L, 0, (S.length : Int)⟩ := by rw [← hL]; exact htk
      have HTK := Lib.hid htk'
      have HD := Lib.hid (decide_eq_true hbg : decide (bgAt S 0 ≠ 0) = true)
      have HL := Lib.hid hL
      obtain ⟨capS, WS, hconv, hsS, hbS⟩ := Ch.bytes_of S wr
      have hbw0 := HB2.out.trans (hbw.mono HB2.out.size)
      have hbwS := hbw0.trans (hbS.mono hbw0.size)
      have cR := read_on 0 hsS (HT.out.below hbwS) (by omega)
      have HBS := Lib.hid hbwS
      have HS3 := Lib.hid (hs3.below hbS)
      clear hacc hown hgood hs3 hS hSw htk htk' hbg hL hsS hbS hbw0 hbwS hbw
      go_wp2_with fail
      refine cR.mono ?_
      rintro e w6 ⟨s6, rfl, ho6, hb6⟩
      rw [HTK.out] at ho6 ⊢
      rw [HD.out]
      obtain ⟨a7, cap7, rfl, hs7⟩ := At.sl_own ho6
      unfold tokV
      simp only at ho6 hs7 ⊢
      have hLl : L.length = vs.length := by rw [← HL.out]; exact nm_len vs 0
      have hat : ∀ i, i < vs.length → At.at0 L i = ([120, (97 + i).toUInt8], st0 vs i) := by
        intro i hi
        rw [← HL.out, nm_at vs 0 i hi, Nat.zero_add]
      have HAT := Lib.hid hat
      have HLL := Lib.hid hLl
      have hb6' := HBS.out.trans (hb6.mono HBS.out.size)
      have hbA := hb6'.alloc hb6'.size (.cells #[.int .i64 2, .string ⟨n.toArray⟩, .slice a7 L.length cap7, .string ⟨#[]⟩, .int .i64 0, .int .i64 (S.length : Int)] 29)
      have hkA := bk_new w6 #[.int .i64 2, .string ⟨n.toArray⟩, .slice a7 L.length cap7, .string ⟨#[]⟩, .int .i64 0, .int .i64 (S.length : Int)] 29
      have hs7A := hs7.below ((Below.refl _ w6).alloc (Nat.le_refl _) (.cells #[.int .i64 2, .string ⟨n.toArray⟩, .slice a7 L.length cap7, .string ⟨#[]⟩, .int .i64 0, .int .i64 (S.length : Int)] 29))
      have hs3A := (HS3.out.below hb6).below ((Below.refl _ w6).alloc (Nat.le_refl _) (.cells #[.int .i64 2, .string ⟨n.toArray⟩, .slice a7 L.length cap7, .string ⟨#[]⟩, .int .i64 0, .int .i64 (S.length : Int)] 29))
      rw [hLl] at hbA hkA hs7A hs3A ⊢
      obtain ⟨WB, hWB⟩ : ∃ WB, w6.alloc (.cells #[.int .i64 2, .string ⟨n.toArray⟩, .slice a7 vs.length cap7, .string ⟨#[]⟩, .int .i64 0, .int .i64 (S.length : Int)] 29) = WB := ⟨_, rfl⟩
      rw [hWB] at hbA hkA hs7A hs3A
      obtain ⟨k0, k1, k2, k3, k4, k5, -, -, -, -, -, -⟩ := hkA.six
      have HBA := Lib.hid hbA
      have HS7 := Lib.hid hs7A
      have HS3A := Lib.hid hs3A
      clear ho6 hs7 hb6 hb6' cR hat hLl hbA hkA hs7A hs3A
      go_wp2
      go_loopw [149] (fun v wz => ∃ i : Nat, v = .int .i64 (i : Int) ∧ i ≤ vs.length ∧ Below WB.heap.size WB wz) (fun v _ => vs.length - (RowKit.intOf v).toNat)
      case atStart => exact ⟨0, rfl, by omega, Below.refl _ _⟩
      case round =>
        generalize wr = wz at *
        obtain ⟨i, rfl, hi, hbz⟩ := hrel
        have hbwz := HBA.out.trans (hbz.mono HBA.out.size)
        by_cases hil : i < vs.length
        · have hi1 : (i : Int) < (vs.length : Int) := by omega
          obtain ⟨-, -, z0 | ⟨b7, off7, rfl, hc7⟩⟩ := HS7.out.below hbz
          · have := HLL.out; rw [z0] at this; simp at this; omega
          obtain ⟨-, z0 | ⟨b3, off3, rfl, hc3⟩⟩ := HS3A.out.below hbz
          · subst z0; simp at hil
          obtain ⟨c1, c2⟩ := hc7 i (by have := HLL.out; omega)
          have c3 := hc3 i hil
          rw [HAT.out i hil] at c1 c2
          simp only at c1 c2
          obtain ⟨v, hv⟩ : ∃ v, st0 vs i = v := ⟨_, rfl⟩
          rw [hv] at c2 c3
          obtain ⟨D, hD⟩ : ∃ D : List UInt8, [(97 + i).toUInt8] = D := ⟨_, rfl⟩
          have hcv : ∀ w, (convert 21 9 (.int .i32 (97 + (i : Int)))).run Tryd.prog w = .ok (.string ⟨D.toArray⟩) w := by
            intro w
            have := conv_rune (97 + i) (by unfold ok; omega) w
            rw [enc_one _ (by omega)] at this
            rw [← hD]
            exact this
          have hDl : D.length = 1 := by rw [← hD]; rfl
          obtain ⟨X1, hX1⟩ : ∃ X, [120] ++ D = X := ⟨_, rfl⟩
          have j1 : (⟨#[120]⟩ ++ ⟨D.toArray⟩ : ByteArray) = ⟨X1.toArray⟩ := by rw [← hX1]; exact join_tw [120] D
          have kp1 : ¬ (9223372036854775807 < 1 + D.length) := by omega
          have hx : [120, (97 + i).toUInt8] = X1 := by rw [← hX1, ← hD]; rfl
          rw [hx] at c1
          have hbA : Below w.heap.size w (wz.alloc (.cells #[.string ⟨X1.toArray⟩, .string ⟨v.toArray⟩] 43)) := hbwz.alloc hbwz.size _
          have hbB : Below WB.heap.size WB (wz.alloc (.cells #[.string ⟨X1.toArray⟩, .string ⟨v.toArray⟩] 43)) := hbz.alloc hbz.size _
          have hkZ := bk_new wz #[.string ⟨X1.toArray⟩, .string ⟨v.toArray⟩] 43
          have c3A : (wz.alloc (.cells #[.string ⟨X1.toArray⟩, .string ⟨v.toArray⟩] 43)).cell? ⟨b3, off3 + i, none⟩ = some (.string ⟨v.toArray⟩) := (((Below.refl _ wz).alloc (Nat.le_refl _) _).cell (Ch.cell_lt c3)).trans c3
          obtain ⟨WC, hWC⟩ : ∃ WC, wz.alloc (.cells #[.string ⟨X1.toArray⟩, .string ⟨v.toArray⟩] 43) = WC := ⟨_, rfl⟩
          rw [hWC] at hbA hbB hkZ c3A
          have q0 : WC.cell? ⟨wz.heap.size, 0, none⟩ = some (.string ⟨X1.toArray⟩) := hkZ.cell 0
          have q1 : WC.cell? ⟨wz.heap.size, 1, none⟩ = some (.string ⟨v.toArray⟩) := hkZ.cell 1
          have t1 : (v != v) = false := by simp
          have t2 : (X1 != X1) = false := by simp
          have HBB := Lib.hid hbB
          clear hc7 hc3 hv hD hX1 hx hbA hbB hkZ hbwz hbz
          go_wp2
          go_quiet (fail)
          go_wp2
          go_roundw
          case rel => exact ⟨i + 1, by go_num, by omega, ⟨HBB.out.os, HBB.out.tape, HBB.out.output, HBB.out.size, HBB.out.block⟩⟩
          case measure => simp [RowKit.intOf]; omega
        · have hi1 : ¬ ((i : Int) < (vs.length : Int)) := by omega
          have HBZ := Lib.hid hbwz
          clear hbz hbwz
          go_wp2
          go_ret
          exact ⟨rfl, HBZ.out⟩

set_option maxHeartbeats 8000000 in
set_option maxRecDepth 100000 in
theorem tagWrites_tf (n : List UInt8) (vs : List (List UInt8)) (cap : Nat) (a : Option Addr) (w : World) (hT : Tb w) (hs : Ss vs a cap w) (hn : nameL n = true) (hnl : n.length ≤ 40) (hvl : vs.length ≤ 10) :
    Calls Tryd.prog 5 #[.string ⟨n.toArray⟩, .slice a vs.length cap, .bool true, .bool false] w fun e w' => e = .returned (.bool true) ∧ Below w.heap.size w w' := by
  have h1 : ¬ ((40 : Int) < (n.length : Int)) := by omega
  have h2 : ¬ ((10 : Int) < (vs.length : Int)) := by omega
  have HN := Lib.hid hn
  have HT := Lib.hid hT
  have HS := Lib.hid hs
  clear hT hs hn
  have kp0 : ¬ (9223372036854775807 < 1 + n.length) := by omega
  have kp1 : ¬ (9223372036854775807 < 2 + n.length) := by omega
  go_enter Tryd.func5, Tryd.ntmps5
  go_wp2_with fail
  refine (tspeaks_any w HT.out).mono ?_
  rintro e w1 ⟨rfl, hb1⟩
  have cN := Kl.name_any n w1
  rw [HN.out] at cN
  go_wp2_with fail
  refine cN.mono ?_
  rintro e w2 ⟨rfl, hb2⟩
  have HB2 := Lib.hid (below_trans hb1 hb2)
  clear hb1 hb2 cN
  go_wp2
  go_loopw [9, 12, 48] (fun v9 v12 v48 wr => WRel true false n vs w2 v9 v12 v48 wr) (fun _ _ v _ => vs.length - (RowKit.intOf v).toNat)
  case atStart =>
    refine ⟨0, frn true false n [], rfl, by omega, ?_, rfl, ?_, World.ownsRow_nil _ _ _ _, Below.refl _ _, fun v hv => by cases hv⟩
    · show Value.string (⟨[60].toArray⟩ ++ ⟨[47].toArray⟩ ++ ⟨n.toArray⟩) = _
      rw [join_tw, join_tw, frn_nil]
      rfl
    · rw [frn_nil]; simp; omega
  case round =>
    obtain ⟨k, acc, rfl, hk, rfl, hacc, hal, hown, hbw, hgood⟩ := hrel
    have hz := hbw.size
    by_cases hkl : k < vs.length
    · have hk1 : (k : Int) < (vs.length : Int) := by omega
      obtain ⟨hcap, h0 | ⟨b, off, rfl, hc⟩⟩ := (HS.out.below HB2.out).below hbw
      · subst h0; simp at hkl
      have c1 := hc k hkl
      have HSN := Lib.hid (frn_snoc true false n vs k hkl)
      have HTK := Lib.hid (st0_take hkl)
      obtain ⟨v, hv⟩ : ∃ v, st0 vs k = v := ⟨_, rfl⟩
      rw [hv] at c1 HSN HTK
      have HACC := Lib.hid hacc
      have HGOOD := Lib.hid hgood
      have HOWN := Lib.hid hown
      have HBW := Lib.hid hbw
      clear hc hv hacc hgood hown hbw
      by_cases hvl6 : (60 : Int) < (v.length : Int)
      · go_wp2
        go_ret
        exact ⟨rfl, HB2.out.trans (HBW.out.mono HB2.out.size)⟩
      have cC := Ch.clean_any v wr ((HT.out.below HB2.out).below HBW.out).1 (by omega)
      cases hcl : Ch.cleanB v with
      | false =>
        rw [hcl] at cC
        go_wp2_with fail
        refine cC.mono ?_
        rintro e w3 ⟨rfl, hb3⟩
        have HB3 := Lib.hid ((HB2.out.trans (HBW.out.mono HB2.out.size)).trans (hb3.mono (HB2.out.trans (HBW.out.mono HB2.out.size)).size))
        clear hb3 cC
        go_wp2
        go_ret
        exact ⟨rfl, HB3.out⟩
      | true =>
        rw [hcl] at cC
        have hgv : Ch.Good v := by
          unfold Ch.cleanB at hcl
          have := Ch.whole_good v
          rw [eq_of_beq hcl] at this
          exact this
        have HGV := Lib.hid hgv
        clear hcl hgv
        obtain ⟨D, hD⟩ : ∃ D : List UInt8, [(97 + k).toUInt8] = D := ⟨_, rfl⟩
        have hcv : ∀ w, (convert 21 9 (.int .i32 (97 + (k : Int)))).run Tryd.prog w = .ok (.string ⟨D.toArray⟩) w := by
          intro w
          have := conv_rune (97 + k) (by unfold ok; omega) w
          rw [enc_one _ (by omega)] at this
          rw [← hD]
          exact this
        have hDl : D.length = 1 := by rw [← hD]; rfl
        obtain ⟨X1, hX1⟩ : ∃ X, [32, 120] ++ D = X := ⟨_, rfl⟩
        obtain ⟨X2, hX2⟩ : ∃ X, X1 ++ [32, 61, 32] = X := ⟨_, rfl⟩
        obtain ⟨X3, hX3⟩ : ∃ X, X2 ++ [34] = X := ⟨_, rfl⟩
        obtain ⟨X4, hX4⟩ : ∃ X, acc ++ X3 = X := ⟨_, rfl⟩
        have l1 : X1.length = 3 := by rw [← hX1]; simp [hDl]
        have l2 : X2.length = 6 := by rw [← hX2]; simp [l1]
        have l3 : X3.length = 7 := by rw [← hX3]; simp [l2]
        have l4 : X4.length = acc.length + 7 := by rw [← hX4]; simp [l3]
        have j1 : (⟨#[32, 120]⟩ ++ ⟨D.toArray⟩ : ByteArray) = ⟨X1.toArray⟩ := by rw [← hX1]; exact join_tw [32, 120] D
        have j2 : (⟨X1.toArray⟩ ++ ⟨#[32, 61, 32]⟩ : ByteArray) = ⟨X2.toArray⟩ := by rw [← hX2]; exact join_tw X1 [32, 61, 32]
        have j3 : (⟨X2.toArray⟩ ++ ⟨#[34]⟩ : ByteArray) = ⟨X3.toArray⟩ := by rw [← hX3]; exact join_tw X2 [34]
        have j4 : (⟨acc.toArray⟩ ++ ⟨X3.toArray⟩ : ByteArray) = ⟨X4.toArray⟩ := by rw [← hX4]; exact join_tw acc X3
        have kp1 : ¬ (9223372036854775807 < 2 + D.length) := by omega
        have kp2 : ¬ (9223372036854775807 < X1.length + 3) := by omega
        have kp3 : ¬ (9223372036854775807 < X2.length + 1) := by omega
        have kp4 : ¬ (9223372036854775807 < acc.length + X3.length) := by omega
        have HX4 := Lib.hid (show X4 = acc ++ ([32, 120] ++ [(97 + k).toUInt8] ++ [32, 61, 32] ++ [34]) by rw [← hX4, ← hX3, ← hX2, ← hX1, ← hD])
        clear hX1 hX2 hX3 hX4 hD
        go_wp2_with fail
        refine cC.mono ?_
        rintro e w3 ⟨rfl, hb3⟩
        have HB3 := Lib.hid (HBW.out.trans (hb3.mono HBW.out.size))
        have HOWN3 := Lib.hid (Ch.ownsRow_below HOWN.out hb3)
        clear hb3 cC
        go_wp2
        go_loopg [9] v.length (fun gf v9 wx => VRel false v X4 w3 gf v9 wx)
        case atStart => exact ⟨0, X4, World.iter_heap w3 _ 0, (Below.refl _ w3).alloc (Nat.le_refl _) _, rfl, rfl, HGV.out, by omega⟩
        case round =>
          generalize wr = wx at *
          obtain ⟨pos, ac, hit, hbx, rfl, hac, hgd, hfu⟩ := hrel
          have hacl : ac.length ≤ 5000 := by
            have q1 := congrArg List.length hac
            have q2 := wrV_len false v
            rw [List.length_append, List.length_append] at q1
            omega
          by_cases hps : pos < v.length
          · obtain ⟨g', rfl⟩ : ∃ g', gk = g' + 1 := ⟨gk - 1, by omega⟩
            have hnx : ∀ ty, (Instr.next (.pointer (some ⟨w3.heap.size, 0, none⟩)) true ty).run Tryd.prog wx = _ := fun ty => Lib.run_next_any_at wx w3.heap.size ⟨v.toArray⟩ pos ty hit (by rw [Kl.str_size]; exact hps)
            obtain ⟨c, r, hcr, hg, hr⟩ := good_or hgd (by intro q; rw [List.drop_eq_nil_iff] at q; omega)
            rw [Kl.decode_dec, dec_at hg hcr] at hnx
            simp only at hnx
            have hwe := wr_enc false hg
            have hcv2 := fun w => conv_rune c (by unfold ok; unfold good at hg; omega) w
            have hw1 := (enc_len (c : Int))
            have h38 : encodeRune (c : Int) = [38] ↔ c = 38 := by
              constructor
              · intro q
                have q2 := nx_enc c [] hg
                rw [q] at q2
                have q3 : nx ([38] ++ []) = (38, 1) := nx_cons (b := 38) (r := []) (by decide) (by decide) (by decide)
                rw [q3] at q2
                simp only [Prod.mk.injEq] at q2
                omega
              · rintro rfl; decide +kernel
            have h39 : encodeRune (c : Int) = [34] ↔ c = 34 := by
              constructor
              · intro q
                have q2 := nx_enc c [] hg
                rw [q] at q2
                have q3 : nx ([34] ++ []) = (34, 1) := nx_cons (b := 34) (r := []) (by decide) (by decide) (by decide)
                rw [q3] at q2
                simp only [Prod.mk.injEq] at q2
                omega
              · rintro rfl; decide +kernel
            rw [hcr, wrV_append, hwe, ← List.append_assoc] at hac
            obtain ⟨E, hE⟩ : ∃ E, encodeRune (c : Int) = E := ⟨_, rfl⟩
            have hdr : v.drop (pos + E.length) = r := by rw [← List.drop_drop, hcr, ← hE, List.drop_left]
            rw [hE] at hnx hcv2 hw1 h38 h39 hac
            have hit2 := Lib.iterAt_heap wx w3.heap.size ⟨v.toArray⟩ pos (pos + E.length) hit
            have hbx2 := Lib.below_iterAt hbx (k := w3.heap.size) (Nat.le_refl _) ⟨v.toArray⟩ (pos + E.length)
            obtain ⟨V, hV⟩ : ∃ V, wx.iterAt w3.heap.size ⟨v.toArray⟩ (pos + E.length) = V := ⟨_, rfl⟩
            rw [hV] at hnx hit2 hbx2
            have HIT2 := Lib.hid hit2
            have HBX2 := Lib.hid hbx2
            have HDR := Lib.hid hdr
            have HR := Lib.hid hr
            clear hit hbx hgd hcr hwe hE hdr hV hit2 hbx2 hr hg
            by_cases e38 : c = 38
            · rw [if_pos e38] at hac
              obtain rfl := h38.2 e38
              have HAC := Lib.hid hac
              have kq : ¬ (9223372036854775807 < ac.length + 5) := by omega
              have jq : (⟨ac.toArray⟩ ++ ⟨#[38, 97, 109, 112, 59]⟩ : ByteArray) = ⟨(ac ++ [38, 97, 109, 112, 59]).toArray⟩ := join_tw ac [38, 97, 109, 112, 59]
              clear hac h38 h39 e38
              go_wp2
              go_roundg g'
              case measure => omega
              case rel => exact ⟨pos + [38].length, ac ++ [38, 97, 109, 112, 59], HIT2.out, HBX2.out, rfl, by rw [HDR.out]; exact HAC.out, by rw [HDR.out]; exact HR.out, by simp; omega⟩
            · rw [if_neg e38] at hac
              by_cases e39 : c = 34
              · rw [if_pos (show c = (qB false).toNat from e39)] at hac
                obtain rfl := h39.2 e39
                have HAC := Lib.hid hac
                have kq : ¬ (9223372036854775807 < ac.length + 6) := by omega
                have jq : (⟨ac.toArray⟩ ++ ⟨#[38, 113, 117, 111, 116, 59]⟩ : ByteArray) = ⟨(ac ++ qE false).toArray⟩ := join_tw ac [38, 113, 117, 111, 116, 59]
                clear hac h38 h39 e38 e39
                go_wp2
                go_roundg g'
                case measure => omega
                case rel => exact ⟨pos + [34].length, ac ++ qE false, HIT2.out, HBX2.out, rfl, by rw [HDR.out]; exact HAC.out, by rw [HDR.out]; exact HR.out, by simp; omega⟩
              · rw [if_neg (show ¬ c = (qB false).toNat from e39)] at hac
                have t38 : (E == [38]) = false := by simpa using fun q => e38 (h38.1 q)
                have t39 : (E == [34]) = false := by simpa using fun q => e39 (h39.1 q)
                have HAC := Lib.hid hac
                have kq : ¬ (9223372036854775807 < ac.length + E.length) := by omega
                obtain ⟨Y, hY⟩ : ∃ Y, ac ++ E = Y := ⟨_, rfl⟩
                have jq : (⟨ac.toArray⟩ ++ ⟨E.toArray⟩ : ByteArray) = ⟨Y.toArray⟩ := by rw [← hY]; exact join_tw ac E
                rw [hY] at HAC
                clear hac h38 h39 e38 e39 hY
                go_wp2
                go_roundg g'
                case measure => omega
                case rel => exact ⟨pos + E.length, Y, HIT2.out, HBX2.out, rfl, by rw [HDR.out]; exact HAC.out, by rw [HDR.out]; exact HR.out, by omega⟩
          · have hnx : ∀ ty, (Instr.next (.pointer (some ⟨w3.heap.size, 0, none⟩)) true ty).run Tryd.prog wx = _ := fun ty => Lib.run_next_end_at wx w3.heap.size _ pos ty hit (by rw [Kl.str_size]; exact hps)
            rw [List.drop_of_length_le (by omega), wrV_nil, List.append_nil] at hac
            have hownx := Ch.ownsRow_below HOWN3.out hbx
            have hbwx := HB3.out.trans (hbx.mono HB3.out.size)
            obtain ⟨v7, w7, hr7, hown7, hg7⟩ := app_str wx w2.heap.size _ (vs.take k) v hownx (by simp; omega) hbwx.size
            have hb7 := hbwx.grown hg7 hbwx.size (fun q hq => (hownx.lt q hq).1)
            rw [← HTK.out] at hown7
            obtain ⟨Z, hZ⟩ : ∃ Z, ac ++ [34] = Z := ⟨_, rfl⟩
            have jz : (⟨ac.toArray⟩ ++ ⟨#[34]⟩ : ByteArray) = ⟨Z.toArray⟩ := by rw [← hZ]; exact join_tw ac [34]
            have kz : ¬ (9223372036854775807 < ac.length + 1) := by omega
            have hZf : Z = frn true false n (vs.take (k + 1)) := by
              rw [← hZ, hac, HX4.out, HACC.out, HSN.out]
              show _ = _ ++ ([32, 120, (97 + k).toUInt8, 32, 61, 32, 34] ++ wrV false v ++ [34])
              simp
            have hZl : Z.length ≤ 100 + 400 * (k + 1) := by
              have q1 := congrArg List.length hac
              have q2 := wrV_len false v
              rw [List.length_append] at q1
              rw [← hZ, List.length_append, q1, List.length_singleton]
              omega
            have hgn : ∀ u ∈ vs.take (k + 1), Ch.Good u := by
              rw [HTK.out]
              intro u hu
              rcases List.mem_append.1 hu with hu | hu
              · exact HGOOD.out u hu
              · simp at hu; subst hu; exact HGV.out
            have HR7 := Lib.hid hr7
            have HO7 := Lib.hid hown7
            have HB7 := Lib.hid hb7
            have HZF := Lib.hid hZf
            have HGN := Lib.hid hgn
            clear hit hac hgd hownx hbwx hr7 hown7 hg7 hb7 hZ hZf hgn hbx
            go_wp2_with (at_builtin; refine Lib.wpList_append_run _ rfl (.tmp 95) (.tmp 97) 45 45 rfl _ _ rfl rfl v7 w7 HR7.out ?_)
            go_roundw
            case rel => exact ⟨k + 1, Z, by go_num, by omega, rfl, HZF.out, hZl, HO7.out, HB7.out, HGN.out⟩
            case measure => simp [RowKit.intOf]; omega
    · have hk1 : ¬ ((k : Int) < (vs.length : Int)) := by omega
      obtain rfl : k = vs.length := by omega
      rw [List.take_length] at hacc hown hgood
      obtain ⟨a3, cap3, rfl, hs3⟩ := ss_own hown
      obtain ⟨S, hS⟩ : ∃ S, acc ++ [32, 47, 62] = S := ⟨_, rfl⟩
      have jS : (⟨acc.toArray⟩ ++ ⟨#[32, 47, 62]⟩ : ByteArray) = ⟨S.toArray⟩ := by rw [← hS]; exact join_tw acc [32, 47, 62]
      have kS : ¬ (9223372036854775807 < acc.length + 3) := by omega
      have hSl : S.length ≤ 5000 := by rw [← hS]; simp; omega
      have hSw : S = wrT true false n vs := by rw [← hS, hacc, frn_end]
      obtain ⟨htk, hbg⟩ := wr_tk true false HN.out hvl hgood
      rw [← hSw] at htk hbg
      obtain ⟨L, hL⟩ : ∃ L, ([] : List At.At) = L := ⟨_, rfl⟩
      have htk' : tkAt S 0 = ⟨3, n, L, 0, (S.length : Int)⟩ := by rw [← hL]; exact htk
      have HTK := Lib.hid htk'
      have HD := Lib.hid (decide_eq_true hbg : decide (bgAt S 0 ≠ 0) = true)
      have HL := Lib.hid hL
      obtain ⟨capS, WS, hconv, hsS, hbS⟩ := Ch.bytes_of S wr
      have hbw0 := HB2.out.trans (hbw.mono HB2.out.size)
      have hbwS := hbw0.trans (hbS.mono hbw0.size)
      have cR := read_on 0 hsS (HT.out.below hbwS) (by omega)
      have HBS := Lib.hid hbwS
      have HS3 := Lib.hid (hs3.below hbS)
      clear hacc hown hgood hs3 hS hSw htk htk' hbg hL hsS hbS hbw0 hbwS hbw
      go_wp2_with fail
      refine cR.mono ?_
      rintro e w6 ⟨s6, rfl, ho6, hb6⟩
      rw [HTK.out] at ho6 ⊢
      rw [HD.out]
      obtain ⟨a7, cap7, rfl, hs7⟩ := At.sl_own ho6
      unfold tokV
      simp only at ho6 hs7 ⊢
      obtain rfl : L = [] := HL.out.symm
      have hb6' := HBS.out.trans (hb6.mono HBS.out.size)
      have HB7 := Lib.hid (hb6'.alloc hb6'.size (.cells #[.int .i64 3, .string ⟨n.toArray⟩, .slice a7 0 cap7, .string ⟨#[]⟩, .int .i64 0, .int .i64 (S.length : Int)] 29))
      clear ho6 hs7 hb6 hb6' cR
      go_wp2
      go_ret
      exact ⟨rfl, HB7.out⟩

set_option maxHeartbeats 8000000 in
set_option maxRecDepth 100000 in
theorem tagWrites_tt (n : List UInt8) (vs : List (List UInt8)) (cap : Nat) (a : Option Addr) (w : World) (hT : Tb w) (hs : Ss vs a cap w) (hn : nameL n = true) (hnl : n.length ≤ 40) (hvl : vs.length ≤ 10) :
    Calls Tryd.prog 5 #[.string ⟨n.toArray⟩, .slice a vs.length cap, .bool true, .bool true] w fun e w' => e = .returned (.bool true) ∧ Below w.heap.size w w' := by
  have h1 : ¬ ((40 : Int) < (n.length : Int)) := by omega
  have h2 : ¬ ((10 : Int) < (vs.length : Int)) := by omega
  have HN := Lib.hid hn
  have HT := Lib.hid hT
  have HS := Lib.hid hs
  clear hT hs hn
  have kp0 : ¬ (9223372036854775807 < 1 + n.length) := by omega
  have kp1 : ¬ (9223372036854775807 < 2 + n.length) := by omega
  go_enter Tryd.func5, Tryd.ntmps5
  go_wp2_with fail
  refine (tspeaks_any w HT.out).mono ?_
  rintro e w1 ⟨rfl, hb1⟩
  have cN := Kl.name_any n w1
  rw [HN.out] at cN
  go_wp2_with fail
  refine cN.mono ?_
  rintro e w2 ⟨rfl, hb2⟩
  have HB2 := Lib.hid (below_trans hb1 hb2)
  clear hb1 hb2 cN
  go_wp2
  go_loopw [9, 12, 48] (fun v9 v12 v48 wr => WRel true true n vs w2 v9 v12 v48 wr) (fun _ _ v _ => vs.length - (RowKit.intOf v).toNat)
  case atStart =>
    refine ⟨0, frn true true n [], rfl, by omega, ?_, rfl, ?_, World.ownsRow_nil _ _ _ _, Below.refl _ _, fun v hv => by cases hv⟩
    · show Value.string (⟨[60].toArray⟩ ++ ⟨[47].toArray⟩ ++ ⟨n.toArray⟩) = _
      rw [join_tw, join_tw, frn_nil]
      rfl
    · rw [frn_nil]; simp; omega
  case round =>
    obtain ⟨k, acc, rfl, hk, rfl, hacc, hal, hown, hbw, hgood⟩ := hrel
    have hz := hbw.size
    by_cases hkl : k < vs.length
    · have hk1 : (k : Int) < (vs.length : Int) := by omega
      obtain ⟨hcap, h0 | ⟨b, off, rfl, hc⟩⟩ := (HS.out.below HB2.out).below hbw
      · subst h0; simp at hkl
      have c1 := hc k hkl
      have HSN := Lib.hid (frn_snoc true true n vs k hkl)
      have HTK := Lib.hid (st0_take hkl)
      obtain ⟨v, hv⟩ : ∃ v, st0 vs k = v := ⟨_, rfl⟩
      rw [hv] at c1 HSN HTK
      have HACC := Lib.hid hacc
      have HGOOD := Lib.hid hgood
      have HOWN := Lib.hid hown
      have HBW := Lib.hid hbw
      clear hc hv hacc hgood hown hbw
      by_cases hvl6 : (60 : Int) < (v.length : Int)
      · go_wp2
        go_ret
        exact ⟨rfl, HB2.out.trans (HBW.out.mono HB2.out.size)⟩
      have cC := Ch.clean_any v wr ((HT.out.below HB2.out).below HBW.out).1 (by omega)
      cases hcl : Ch.cleanB v with
      | false =>
        rw [hcl] at cC
        go_wp2_with fail
        refine cC.mono ?_
        rintro e w3 ⟨rfl, hb3⟩
        have HB3 := Lib.hid ((HB2.out.trans (HBW.out.mono HB2.out.size)).trans (hb3.mono (HB2.out.trans (HBW.out.mono HB2.out.size)).size))
        clear hb3 cC
        go_wp2
        go_ret
        exact ⟨rfl, HB3.out⟩
      | true =>
        rw [hcl] at cC
        have hgv : Ch.Good v := by
          unfold Ch.cleanB at hcl
          have := Ch.whole_good v
          rw [eq_of_beq hcl] at this
          exact this
        have HGV := Lib.hid hgv
        clear hcl hgv
        obtain ⟨D, hD⟩ : ∃ D : List UInt8, [(97 + k).toUInt8] = D := ⟨_, rfl⟩
        have hcv : ∀ w, (convert 21 9 (.int .i32 (97 + (k : Int)))).run Tryd.prog w = .ok (.string ⟨D.toArray⟩) w := by
          intro w
          have := conv_rune (97 + k) (by unfold ok; omega) w
          rw [enc_one _ (by omega)] at this
          rw [← hD]
          exact this
        have hDl : D.length = 1 := by rw [← hD]; rfl
        obtain ⟨X1, hX1⟩ : ∃ X, [32, 120] ++ D = X := ⟨_, rfl⟩
        obtain ⟨X2, hX2⟩ : ∃ X, X1 ++ [32, 61, 32] = X := ⟨_, rfl⟩
        obtain ⟨X3, hX3⟩ : ∃ X, X2 ++ [39] = X := ⟨_, rfl⟩
        obtain ⟨X4, hX4⟩ : ∃ X, acc ++ X3 = X := ⟨_, rfl⟩
        have l1 : X1.length = 3 := by rw [← hX1]; simp [hDl]
        have l2 : X2.length = 6 := by rw [← hX2]; simp [l1]
        have l3 : X3.length = 7 := by rw [← hX3]; simp [l2]
        have l4 : X4.length = acc.length + 7 := by rw [← hX4]; simp [l3]
        have j1 : (⟨#[32, 120]⟩ ++ ⟨D.toArray⟩ : ByteArray) = ⟨X1.toArray⟩ := by rw [← hX1]; exact join_tw [32, 120] D
        have j2 : (⟨X1.toArray⟩ ++ ⟨#[32, 61, 32]⟩ : ByteArray) = ⟨X2.toArray⟩ := by rw [← hX2]; exact join_tw X1 [32, 61, 32]
        have j3 : (⟨X2.toArray⟩ ++ ⟨#[39]⟩ : ByteArray) = ⟨X3.toArray⟩ := by rw [← hX3]; exact join_tw X2 [39]
        have j4 : (⟨acc.toArray⟩ ++ ⟨X3.toArray⟩ : ByteArray) = ⟨X4.toArray⟩ := by rw [← hX4]; exact join_tw acc X3
        have kp1 : ¬ (9223372036854775807 < 2 + D.length) := by omega
        have kp2 : ¬ (9223372036854775807 < X1.length + 3) := by omega
        have kp3 : ¬ (9223372036854775807 < X2.length + 1) := by omega
        have kp4 : ¬ (9223372036854775807 < acc.length + X3.length) := by omega
        have HX4 := Lib.hid (show X4 = acc ++ ([32, 120] ++ [(97 + k).toUInt8] ++ [32, 61, 32] ++ [39]) by rw [← hX4, ← hX3, ← hX2, ← hX1, ← hD])
        clear hX1 hX2 hX3 hX4 hD
        go_wp2_with fail
        refine cC.mono ?_
        rintro e w3 ⟨rfl, hb3⟩
        have HB3 := Lib.hid (HBW.out.trans (hb3.mono HBW.out.size))
        have HOWN3 := Lib.hid (Ch.ownsRow_below HOWN.out hb3)
        clear hb3 cC
        go_wp2
        go_loopg [9] v.length (fun gf v9 wx => VRel true v X4 w3 gf v9 wx)
        case atStart => exact ⟨0, X4, World.iter_heap w3 _ 0, (Below.refl _ w3).alloc (Nat.le_refl _) _, rfl, rfl, HGV.out, by omega⟩
        case round =>
          generalize wr = wx at *
          obtain ⟨pos, ac, hit, hbx, rfl, hac, hgd, hfu⟩ := hrel
          have hacl : ac.length ≤ 5000 := by
            have q1 := congrArg List.length hac
            have q2 := wrV_len true v
            rw [List.length_append, List.length_append] at q1
            omega
          by_cases hps : pos < v.length
          · obtain ⟨g', rfl⟩ : ∃ g', gk = g' + 1 := ⟨gk - 1, by omega⟩
            have hnx : ∀ ty, (Instr.next (.pointer (some ⟨w3.heap.size, 0, none⟩)) true ty).run Tryd.prog wx = _ := fun ty => Lib.run_next_any_at wx w3.heap.size ⟨v.toArray⟩ pos ty hit (by rw [Kl.str_size]; exact hps)
            obtain ⟨c, r, hcr, hg, hr⟩ := good_or hgd (by intro q; rw [List.drop_eq_nil_iff] at q; omega)
            rw [Kl.decode_dec, dec_at hg hcr] at hnx
            simp only at hnx
            have hwe := wr_enc true hg
            have hcv2 := fun w => conv_rune c (by unfold ok; unfold good at hg; omega) w
            have hw1 := (enc_len (c : Int))
            have h38 : encodeRune (c : Int) = [38] ↔ c = 38 := by
              constructor
              · intro q
                have q2 := nx_enc c [] hg
                rw [q] at q2
                have q3 : nx ([38] ++ []) = (38, 1) := nx_cons (b := 38) (r := []) (by decide) (by decide) (by decide)
                rw [q3] at q2
                simp only [Prod.mk.injEq] at q2
                omega
              · rintro rfl; decide +kernel
            have h39 : encodeRune (c : Int) = [39] ↔ c = 39 := by
              constructor
              · intro q
                have q2 := nx_enc c [] hg
                rw [q] at q2
                have q3 : nx ([39] ++ []) = (39, 1) := nx_cons (b := 39) (r := []) (by decide) (by decide) (by decide)
                rw [q3] at q2
                simp only [Prod.mk.injEq] at q2
                omega
              · rintro rfl; decide +kernel
            rw [hcr, wrV_append, hwe, ← List.append_assoc] at hac
            obtain ⟨E, hE⟩ : ∃ E, encodeRune (c : Int) = E := ⟨_, rfl⟩
            have hdr : v.drop (pos + E.length) = r := by rw [← List.drop_drop, hcr, ← hE, List.drop_left]
            rw [hE] at hnx hcv2 hw1 h38 h39 hac
            have hit2 := Lib.iterAt_heap wx w3.heap.size ⟨v.toArray⟩ pos (pos + E.length) hit
            have hbx2 := Lib.below_iterAt hbx (k := w3.heap.size) (Nat.le_refl _) ⟨v.toArray⟩ (pos + E.length)
            obtain ⟨V, hV⟩ : ∃ V, wx.iterAt w3.heap.size ⟨v.toArray⟩ (pos + E.length) = V := ⟨_, rfl⟩
            rw [hV] at hnx hit2 hbx2
            have HIT2 := Lib.hid hit2
            have HBX2 := Lib.hid hbx2
            have HDR := Lib.hid hdr
            have HR := Lib.hid hr
            clear hit hbx hgd hcr hwe hE hdr hV hit2 hbx2 hr hg
            by_cases e38 : c = 38
            · rw [if_pos e38] at hac
              obtain rfl := h38.2 e38
              have HAC := Lib.hid hac
              have kq : ¬ (9223372036854775807 < ac.length + 5) := by omega
              have jq : (⟨ac.toArray⟩ ++ ⟨#[38, 97, 109, 112, 59]⟩ : ByteArray) = ⟨(ac ++ [38, 97, 109, 112, 59]).toArray⟩ := join_tw ac [38, 97, 109, 112, 59]
              clear hac h38 h39 e38
              go_wp2
              go_roundg g'
              case measure => omega
              case rel => exact ⟨pos + [38].length, ac ++ [38, 97, 109, 112, 59], HIT2.out, HBX2.out, rfl, by rw [HDR.out]; exact HAC.out, by rw [HDR.out]; exact HR.out, by simp; omega⟩
            · rw [if_neg e38] at hac
              by_cases e39 : c = 39
              · rw [if_pos (show c = (qB true).toNat from e39)] at hac
                obtain rfl := h39.2 e39
                have HAC := Lib.hid hac
                have kq : ¬ (9223372036854775807 < ac.length + 5) := by omega
                have jq : (⟨ac.toArray⟩ ++ ⟨#[38, 35, 51, 57, 59]⟩ : ByteArray) = ⟨(ac ++ qE true).toArray⟩ := join_tw ac [38, 35, 51, 57, 59]
                clear hac h38 h39 e38 e39
                go_wp2
                go_roundg g'
                case measure => omega
                case rel => exact ⟨pos + [39].length, ac ++ qE true, HIT2.out, HBX2.out, rfl, by rw [HDR.out]; exact HAC.out, by rw [HDR.out]; exact HR.out, by simp; omega⟩
              · rw [if_neg (show ¬ c = (qB true).toNat from e39)] at hac
                have t38 : (E == [38]) = false := by simpa using fun q => e38 (h38.1 q)
                have t39 : (E == [39]) = false := by simpa using fun q => e39 (h39.1 q)
                have HAC := Lib.hid hac
                have kq : ¬ (9223372036854775807 < ac.length + E.length) := by omega
                obtain ⟨Y, hY⟩ : ∃ Y, ac ++ E = Y := ⟨_, rfl⟩
                have jq : (⟨ac.toArray⟩ ++ ⟨E.toArray⟩ : ByteArray) = ⟨Y.toArray⟩ := by rw [← hY]; exact join_tw ac E
                rw [hY] at HAC
                clear hac h38 h39 e38 e39 hY
                go_wp2
                go_roundg g'
                case measure => omega
                case rel => exact ⟨pos + E.length, Y, HIT2.out, HBX2.out, rfl, by rw [HDR.out]; exact HAC.out, by rw [HDR.out]; exact HR.out, by omega⟩
          · have hnx : ∀ ty, (Instr.next (.pointer (some ⟨w3.heap.size, 0, none⟩)) true ty).run Tryd.prog wx = _ := fun ty => Lib.run_next_end_at wx w3.heap.size _ pos ty hit (by rw [Kl.str_size]; exact hps)
            rw [List.drop_of_length_le (by omega), wrV_nil, List.append_nil] at hac
            have hownx := Ch.ownsRow_below HOWN3.out hbx
            have hbwx := HB3.out.trans (hbx.mono HB3.out.size)
            obtain ⟨v7, w7, hr7, hown7, hg7⟩ := app_str wx w2.heap.size _ (vs.take k) v hownx (by simp; omega) hbwx.size
            have hb7 := hbwx.grown hg7 hbwx.size (fun q hq => (hownx.lt q hq).1)
            rw [← HTK.out] at hown7
            obtain ⟨Z, hZ⟩ : ∃ Z, ac ++ [39] = Z := ⟨_, rfl⟩
            have jz : (⟨ac.toArray⟩ ++ ⟨#[39]⟩ : ByteArray) = ⟨Z.toArray⟩ := by rw [← hZ]; exact join_tw ac [39]
            have kz : ¬ (9223372036854775807 < ac.length + 1) := by omega
            have hZf : Z = frn true true n (vs.take (k + 1)) := by
              rw [← hZ, hac, HX4.out, HACC.out, HSN.out]
              show _ = _ ++ ([32, 120, (97 + k).toUInt8, 32, 61, 32, 39] ++ wrV true v ++ [39])
              simp
            have hZl : Z.length ≤ 100 + 400 * (k + 1) := by
              have q1 := congrArg List.length hac
              have q2 := wrV_len true v
              rw [List.length_append] at q1
              rw [← hZ, List.length_append, q1, List.length_singleton]
              omega
            have hgn : ∀ u ∈ vs.take (k + 1), Ch.Good u := by
              rw [HTK.out]
              intro u hu
              rcases List.mem_append.1 hu with hu | hu
              · exact HGOOD.out u hu
              · simp at hu; subst hu; exact HGV.out
            have HR7 := Lib.hid hr7
            have HO7 := Lib.hid hown7
            have HB7 := Lib.hid hb7
            have HZF := Lib.hid hZf
            have HGN := Lib.hid hgn
            clear hit hac hgd hownx hbwx hr7 hown7 hg7 hb7 hZ hZf hgn hbx
            go_wp2_with (at_builtin; refine Lib.wpList_append_run _ rfl (.tmp 95) (.tmp 97) 45 45 rfl _ _ rfl rfl v7 w7 HR7.out ?_)
            go_roundw
            case rel => exact ⟨k + 1, Z, by go_num, by omega, rfl, HZF.out, hZl, HO7.out, HB7.out, HGN.out⟩
            case measure => simp [RowKit.intOf]; omega
    · have hk1 : ¬ ((k : Int) < (vs.length : Int)) := by omega
      obtain rfl : k = vs.length := by omega
      rw [List.take_length] at hacc hown hgood
      obtain ⟨a3, cap3, rfl, hs3⟩ := ss_own hown
      obtain ⟨S, hS⟩ : ∃ S, acc ++ [32, 47, 62] = S := ⟨_, rfl⟩
      have jS : (⟨acc.toArray⟩ ++ ⟨#[32, 47, 62]⟩ : ByteArray) = ⟨S.toArray⟩ := by rw [← hS]; exact join_tw acc [32, 47, 62]
      have kS : ¬ (9223372036854775807 < acc.length + 3) := by omega
      have hSl : S.length ≤ 5000 := by rw [← hS]; simp; omega
      have hSw : S = wrT true true n vs := by rw [← hS, hacc, frn_end]
      obtain ⟨htk, hbg⟩ := wr_tk true true HN.out hvl hgood
      rw [← hSw] at htk hbg
      obtain ⟨L, hL⟩ : ∃ L, ([] : List At.At) = L := ⟨_, rfl⟩
      have htk' : tkAt S 0 = ⟨3, n, L, 0, (S.length : Int)⟩ := by rw [← hL]; exact htk
      have HTK := Lib.hid htk'
      have HD := Lib.hid (decide_eq_true hbg : decide (bgAt S 0 ≠ 0) = true)
      have HL := Lib.hid hL
      obtain ⟨capS, WS, hconv, hsS, hbS⟩ := Ch.bytes_of S wr
      have hbw0 := HB2.out.trans (hbw.mono HB2.out.size)
      have hbwS := hbw0.trans (hbS.mono hbw0.size)
      have cR := read_on 0 hsS (HT.out.below hbwS) (by omega)
      have HBS := Lib.hid hbwS
      have HS3 := Lib.hid (hs3.below hbS)
      clear hacc hown hgood hs3 hS hSw htk htk' hbg hL hsS hbS hbw0 hbwS hbw
      go_wp2_with fail
      refine cR.mono ?_
      rintro e w6 ⟨s6, rfl, ho6, hb6⟩
      rw [HTK.out] at ho6 ⊢
      rw [HD.out]
      obtain ⟨a7, cap7, rfl, hs7⟩ := At.sl_own ho6
      unfold tokV
      simp only at ho6 hs7 ⊢
      obtain rfl : L = [] := HL.out.symm
      have hb6' := HBS.out.trans (hb6.mono HBS.out.size)
      have HB7 := Lib.hid (hb6'.alloc hb6'.size (.cells #[.int .i64 3, .string ⟨n.toArray⟩, .slice a7 0 cap7, .string ⟨#[]⟩, .int .i64 0, .int .i64 (S.length : Int)] 29))
      clear ho6 hs7 hb6 hb6' cR
      go_wp2
      go_ret
      exact ⟨rfl, HB7.out⟩

theorem tagWrites_walk (n : List UInt8) (vs : List (List UInt8)) (cap : Nat) (a : Option Addr) (e sg : Bool) (w : World) (hT : Tb w) (hs : Ss vs a cap w) :
    Calls Tryd.prog 5 #[.string ⟨n.toArray⟩, .slice a vs.length cap, .bool e, .bool sg] w fun e w' => e = .returned (.bool true) ∧ Below w.heap.size w w' := by
  by_cases h : nameL n = false ∨ 40 < n.length ∨ 10 < vs.length
  · exact tagWrites_out n vs.length cap a e sg w hT h
  · have hn : nameL n = true := by
      cases hq : nameL n with
      | false => exact absurd (Or.inl hq) h
      | true => rfl
    have h1 : n.length ≤ 40 := by omega
    have h2 : vs.length ≤ 10 := by omega
    cases e <;> cases sg
    · exact tagWrites_ff n vs cap a w hT hs hn h1 h2
    · exact tagWrites_ft n vs cap a w hT hs hn h1 h2
    · exact tagWrites_tf n vs cap a w hT hs hn h1 h2
    · exact tagWrites_tt n vs cap a w hT hs hn h1 h2
end Go.Proofs.YtfnecdifaodamaaDoor.Tg
