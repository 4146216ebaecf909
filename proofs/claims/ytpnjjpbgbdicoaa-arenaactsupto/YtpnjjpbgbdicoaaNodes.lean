/- The arena's Nodes, walked: what stands in a node as a forest. -/
import Derived.Test.YtpnjjpbgbdicoaaText
namespace Go.Proofs.Ytpnjjpbgbdicoaa
open Go.RowKit Go.Lib
open At (Str cellsA cellsA_len Sl)

/-- a node, as the document has it -/
structure MN where
  nm : List UInt8
  ats : List At.At
  par : Int
  inn : List (Nat × List UInt8)

def ab (n : QN) : MN := ⟨n.nm, n.ats, n.par, n.inn.map abp⟩

/-- what parts stand for: f -/
def T (M : List MN) : List (Nat × List UInt8) → F → Prop
  | l, .nil => l = []
  | l, .cons nm ats tx inn rest => ∃ p r, l = p :: r ∧ T M r rest ∧
      ((p.1 = 0 ∧ nm = [] ∧ ats = [] ∧ tx = p.2 ∧ inn = .nil) ∨ (p.1 ≠ 0 ∧ tx = [] ∧ ∃ n, M[p.1]? = some n ∧ nm = n.nm ∧ ats = n.ats ∧ T M n.inn inn))

theorem T.len {M : List MN} : ∀ {f : F} {l : List (Nat × List UInt8)}, T M l f → l.length = f.len
  | .nil, _, h => by simp only [T] at h; subst h; rfl
  | .cons _ _ _ _ _, _, h => by
    simp only [T] at h
    obtain ⟨p, r, rfl, hr, -⟩ := h
    simp only [List.length_cons, F.len, T.len hr]

/-- what a round of Nodes does behind its calls, whatever lies in blocks of its own -/
theorem of_step2 {e ea t : TypeId} (E : ElemN t e) (w wr W w3 w4 : World) (d inn : F) (nm tx : List UInt8) (ats : List At.At) (u3 va vn : Value)
    (hbw : Below w.heap.size w wr) (hbW : Below wr.heap.size wr W)
    (hown : NOwn wr w.heap.size e (fun b => w.heap.size ≤ b) u3 d)
    (hoa : w3.ownsRow W.heap.size ea 2 va ats.length (cellsA ats)) (hb3 : Below W.heap.size W w3)
    (hon : NOwn w4 w3.heap.size e (fun b => w3.heap.size ≤ b) vn inn) (hb4 : Below w3.heap.size w3 w4) (hl : d.len + 1 ≤ 8000000) :
    ∃ a6 c6 a7 c7 v' w5, va = .slice a6 ats.length c6 ∧ vn = .slice a7 inn.len c7 ∧
      (Builtin.append_ #[t, t] t #[u3, .slice (some ⟨w4.heap.size, 0, none⟩) 1 1]).run Try.prog (w4.alloc (.cells #[.string ⟨nm.toArray⟩, .slice a6 ats.length c6, .string ⟨tx.toArray⟩, .slice a7 inn.len c7] e)) = .ok v' w5 ∧
      (∀ b, wr.heap.size ≤ b → b < W.heap.size → w3.heap[b]? = W.heap[b]? ∧ w4.heap[b]? = W.heap[b]? ∧ (w4.alloc (.cells #[.string ⟨nm.toArray⟩, .slice a6 ats.length c6, .string ⟨tx.toArray⟩, .slice a7 inn.len c7] e)).heap[b]? = W.heap[b]? ∧ w5.heap[b]? = W.heap[b]?) ∧
      NOwn w5 w.heap.size e (fun b => w.heap.size ≤ b) v' (d.app (.cons nm ats tx inn .nil)) ∧ Below w.heap.size w w5 := by
  have hsz : w.heap.size ≤ wr.heap.size := hbw.size
  have hszW : wr.heap.size ≤ W.heap.size := hbW.size
  have hsz3 : W.heap.size ≤ w3.heap.size := hb3.size
  have hsz4 : w3.heap.size ≤ w4.heap.size := hb4.size
  have how4 : NOwn w4 w.heap.size e (fun b => w.heap.size ≤ b) u3 d := ((hown.below hbW).below hb3).below hb4
  have hlt : ∀ g, u3.ownBlock = some g → w.heap.size ≤ g ∧ g < wr.heap.size := by
    intro g hg
    obtain ⟨us, h1, -⟩ := hown
    exact h1.lt g hg
  obtain ⟨a6, c6, rfl, hsl6⟩ := At.sl_own (At.ownsRow_below hoa hb4)
  obtain ⟨a7, c7, rfl, hsl7⟩ := hon.sl
  have hne : ∀ b, W.heap.size ≤ b → Off (fun b => w.heap.size ≤ b) u3 b := by
    intro b hb
    refine ⟨by omega, ?_⟩
    intro he
    have := (hlt b he.symm).2
    omega
  obtain ⟨v', w5, hr, how5, hgr, -⟩ := app_node E w4 w.heap.size (fun b => w.heap.size ≤ b) u3 d nm tx ats inn a6 a7 c6 c7 w4.heap.size rfl how4
    ⟨hsl6, fun _ ad had => hne _ (by
      subst had
      have ho : (Value.slice (some ad) ats.length c6).ownBlock = some ad.block := rfl
      exact (hoa.lt ad.block ho).1)⟩
    (hsl7.mono fun b hb => hne b (by rcases hb with ⟨h, -⟩ | ⟨-, h⟩ <;> omega)) hl (by omega)
  have hbl : Below w.heap.size w w4 := ((hbw.trans (hbW.mono hsz)).trans (hb3.mono (by omega))).trans (hb4.mono (by omega))
  refine ⟨a6, c6, a7, c7, v', w5, rfl, rfl, hr, fun b hb1 hb2 => ?_, how5, hbl.grown hgr (by omega) (fun g hg => (hlt g hg).1)⟩
  have e3 := hb3.block b hb2
  have e4 := (hb4.block b (by omega)).trans e3
  refine ⟨e3, e4, (Below.heap_alloc w4 _ b (by omega)).trans e4, (hgr.block b (by omega) ?_).trans e4⟩
  intro he
  have := (hlt _ he.symm).2
  omega

/-- what Nodes answers -/
def NodesPost (f : F) (w : World) (r : Ending) (w' : World) : Prop :=
  ∃ v, r = .returned v ∧ NOwn w' w.heap.size 73 (fun b => w.heap.size ≤ b) v f ∧ Below w.heap.size w w'

/-- where the loop of Nodes stands -/
def NodesRel (M : List MN) (l : List QP) (f : F) (w : World) (v5 v21 : Value) (wr : World) : Prop :=
  ∃ (g d : F) (j : Nat), v21 = .int .i64 (j : Int) ∧ j = d.len ∧ j ≤ l.length ∧ T M ((l.drop j).map abp) g ∧ d.app g = f ∧ NOwn wr w.heap.size 73 (fun b => w.heap.size ≤ b) v5 d ∧ Below w.heap.size w wr

/-- 'string(b)' of a text's row -/
theorem string_rw {B : Nat} {v : Value} {l : List UInt8} {w : World} (h : Rw B 5 1 v l.length (bcells l) w) : (convert 91 9 v).run Try.prog w = .ok (.string ⟨l.toArray⟩) w := by
  rcases h.2 with ⟨rfl, h0⟩ | ⟨g, c, rfl, -, -, -, -, h5, -⟩
  · obtain rfl : l = [] := List.eq_nil_of_length_eq_zero h0
    rw [run_convert_bytes_string w 91 9 5 none 0 0 Try.underlying91 Try.underlying5 Try.underlying9]
    rfl
  · refine run_convert_bytes_back w 91 9 5 ⟨g, 0, none⟩ c l Try.underlying91 Try.underlying5 Try.underlying9 fun j hj => ?_
    rw [At.add_lit, Nat.zero_add]
    refine h5 j _ ?_
    unfold bcells byteCells
    simp [List.getElem?_eq_getElem hj]

set_option maxHeartbeats 8000000 in
set_option maxRecDepth 100000 in
theorem nodes_any : ∀ (f : F) {B R cp : Nat} {L : List QN} {vn : Value} {w : World} (_ : AR B w R L cp vn) (i : Nat) (n : QN) (_ : L[i]? = some n) (_ : T (L.map ab) (n.inn.map abp) f) (_ : f.small 1000000) (_ : f.len ≤ 1000000)
    (_ : ∀ (k : Nat) (m : QN), L[k]? = some m → k ≠ 0 ∨ (m.nm = [] ∧ m.ats = [])),
    Calls Try.prog 31 #[.pointer (some ⟨R, 0, none⟩), .int .i64 (i : Int)] w (NodesPost f w) := by
  suffices H : ∀ (N : Nat) (f : F) {B R cp : Nat} {L : List QN} {vn : Value} {w : World} (_ : f.wt = N) (_ : AR B w R L cp vn) (i : Nat) (n : QN) (_ : L[i]? = some n) (_ : T (L.map ab) (n.inn.map abp) f) (_ : f.small 1000000) (_ : f.len ≤ 1000000)
    (_ : ∀ (k : Nat) (m : QN), L[k]? = some m → k ≠ 0 ∨ (m.nm = [] ∧ m.ats = [])),
    Calls Try.prog 31 #[.pointer (some ⟨R, 0, none⟩), .int .i64 (i : Int)] w (NodesPost f w) from fun f _ _ _ _ _ _ h i n hn hT hs hl hr => H f.wt f rfl h i n hn hT hs hl hr
  intro N
  induction N using Nat.strongRecOn with
  | _ N ih =>
    intro f B R cp L vn w hf h i n hn hT hsm hl hroot
    have cH := has_any h i (List.getElem?_eq_some_iff.1 hn).1
    have hTl := hT.len
    rw [List.length_map] at hTl
    obtain ⟨g, c, hvn, hi, hc, -, -, d0, d1, d2, d3, -⟩ := h.node hn
    obtain ⟨ai, ci, hvi, hfit⟩ := (h.inner n (mem_of_at hn)).slice
    rw [hvi] at d3
    have c0 := h.c0
    rw [hvn] at c0
    have hiI : (i : Int) < (L.length : Int) := by omega
    have IH := Lib.hid @ih
    have HA := Lib.hid h
    have HN := Lib.hid hn
    have HT := Lib.hid hT
    have HS := Lib.hid hsm
    have HR := Lib.hid hroot
    have HF := Lib.hid hf
    have HV := Lib.hid hvi
    have HL := Lib.hid hTl
    have hlb : n.inn.length ≤ 1000000 := by omega
    clear ih h hn hT hsm hroot hf hvi d0 d1 d2 hvn hfit hTl
    go_enter Try.func31, Try.ntmps31
    go_wp2_with fail
    refine cH.mono ?_
    rintro e w' ⟨rfl, rfl⟩
    go_wp2_with fail
    go_loopw [5, 21] (fun v5 v21 wr => NodesRel (L.map ab) n.inn f w v5 v21 wr) (fun _ v _ => n.inn.length - (RowKit.intOf v).toNat)
    case atStart => exact ⟨f, .nil, 0, rfl, rfl, Nat.zero_le _, HT.out, rfl, NOwn.nil _ _ _ _, Below.refl _ _⟩
    case round =>
      obtain ⟨gg, d, j, rfl, hjd, hjl, hTg, hdg, hown, hb⟩ := hrel
      have HB := Lib.hid hb
      have HO := Lib.hid hown
      clear hown
      cases gg with
      | nil =>
        have h0 := hTg.len
        simp only [List.length_map, List.length_drop, F.len] at h0
        rw [F.app_nil] at hdg
        subst hdg
        have h1 : ¬ ((j : Int) < (n.inn.length : Int)) := by omega
        clear hTg h0 hjd hb
        go_wp2
        go_ret
        exact ⟨_, rfl, HO.out, HB.out⟩
      | cons nm ats tx inn rest =>
        simp only [T] at hTg
        obtain ⟨p0, r, hpr, hTr, hcase⟩ := hTg
        have hjlt : j < n.inn.length := by
          have := congrArg List.length hpr
          simp at this
          omega
        obtain ⟨p, hp⟩ : ∃ p, n.inn[j]? = some p := ⟨n.inn[j], List.getElem?_eq_getElem hjlt⟩
        have hdrop : (n.inn.drop j).map abp = abp p :: (n.inn.drop (j + 1)).map abp := by
          rw [List.drop_eq_getElem_cons hjlt, List.map_cons]
          rw [List.getElem?_eq_getElem hjlt] at hp
          cases hp
          rfl
        rw [hdrop] at hpr
        cases hpr
        have hA := HA.out.below hb
        obtain ⟨gi, ci', hvi', -, -, -, -, e0, e1, -⟩ := (hA.inner n (mem_of_at HN.out)).part hp
        rw [HV.out] at hvi'
        cases hvi'
        have htx := hA.texts n (mem_of_at HN.out) p (mem_of_at hp)
        obtain ⟨at', ct', hvt, -⟩ := htx.slice
        rw [hvt] at e1 htx
        have h1 : (j : Int) < (n.inn.length : Int) := by omega
        have hbA : Below wr.heap.size wr (wr.alloc (.cells #[.int .i64 (p.el : Int), .slice at' p.tx.length ct'] 93)) := At.below_alloc _
        have cT := isText_any p.el (.slice at' p.tx.length ct') (wr.alloc (.cells #[.int .i64 (p.el : Int), .slice at' p.tx.length ct'] 93))
        have hHH : j + 1 = (d.app (.cons nm ats tx inn .nil)).len ∧ (d.app (.cons nm ats tx inn .nil)).app rest = f ∧ j + 1 ≤ n.inn.length := ⟨by rw [F.app_len]; simp only [F.len]; omega, by rw [F.app_assoc]; exact hdg, hjlt⟩
        have hd8 : d.len + 1 ≤ 8000000 := by omega
        have HH := Lib.hid hHH
        have HTr := Lib.hid hTr
        have HX := Lib.hid htx
        have hsmall := F.small_app (N := 1000000) (d := d) (by rw [hdg]; exact HS.out)
        have hwt : inn.wt < N := by
          have := F.app_wt d (.cons nm ats tx inn rest)
          rw [hdg, HF.out] at this
          simp only [F.wt] at this
          omega
        clear hHH hTr htx hdrop hdg hb hjd hjl
        have HAr := Lib.hid hA
        have HBA := Lib.hid hbA
        clear hA hbA
        obtain ⟨W, hW⟩ : ∃ W, wr.alloc (.cells #[.int .i64 (p.el : Int), .slice at' p.tx.length ct'] 93) = W := ⟨_, rfl⟩
        rw [hW] at cT HBA
        have hWz : W.heap.size = wr.heap.size + 1 := by rw [← hW]; simp
        have f0 : W.cell? ⟨wr.heap.size, 0, none⟩ = some (.int .i64 (p.el : Int)) := by rw [← hW]; simp
        have f1 : W.cell? ⟨wr.heap.size, 1, none⟩ = some (.slice at' p.tx.length ct') := by rw [← hW]; simp
        have HWz := Lib.hid hWz
        rcases hcase with ⟨hz, rfl, rfl, rfl, rfl⟩ | ⟨hz, rfl, m, hm, rfl, rfl, hTi⟩
        · have hz' : p.el = 0 := hz
          rw [decide_eq_true hz'] at cT
          clear hz hz' hWz
          go_wp2_with fail
          refine cT.mono ?_
          rintro e w2 ⟨rfl, hb2⟩
          have k1 := (World.cell?_of_block (a := ⟨wr.heap.size, 1, none⟩) (hb2.block wr.heap.size (by have := HWz.out; omega))).trans f1
          have hb02 : Below wr.heap.size wr w2 := HBA.out.trans (hb2.mono HBA.out.size)
          have hs := string_rw (HX.out.below hb02)
          have ho2 := HO.out.below hb02
          obtain ⟨v', w3, hr, ho3, hg3, -⟩ := app_node elem56 w2 w.heap.size (fun b => w.heap.size ≤ b) u5 d [] (abp p).2 [] .nil none none 0 0 w2.heap.size rfl ho2 ⟨⟨Nat.le_refl _, fun _ => ⟨rfl, rfl⟩, Or.inl rfl⟩, fun h => absurd rfl h⟩ ⟨⟨Nat.le_refl _, fun _ => ⟨rfl, rfl⟩⟩, Or.inl rfl⟩ hd8 (by have := HB.out.size; have := hb02.size; omega)
          have hb3 : Below w.heap.size w w3 := by
            refine (HB.out.trans (hb02.mono HB.out.size)).grown hg3 (by have := HB.out.size; have := hb02.size; omega) fun q hq => ?_
            obtain ⟨us, hu, -⟩ := HO.out
            exact (hu.lt q hq).1
          have HRn := Lib.hid hr
          have HO3 := Lib.hid ho3
          have HB3 := Lib.hid hb3
          clear hr ho3 hb3 hg3 ho2 hb02 hb2 cT f0 f1 e0 e1
          go_wp2_with (at_builtin; refine Lib.wpList_append_run _ rfl (.tmp 27) (.tmp 32) 56 56 rfl _ _ rfl rfl v' w3 HRn.out ?_)
          go_roundw
          case rel => exact ⟨rest, _, j + 1, by go_num, HH.out.1, HH.out.2.2, HTr.out, HH.out.2.1, HO3.out, HB3.out⟩
          case measure => simp [RowKit.intOf]; omega
        · have hz' : p.el ≠ 0 := hz
          rw [decide_eq_false hz'] at cT
          obtain ⟨mm, hmm, rfl⟩ : ∃ mm, L[p.el]? = some mm ∧ ab mm = m := by
            have hm' : (L.map ab)[p.el]? = some m := hm
            rw [List.getElem?_map] at hm'
            exact Option.map_eq_some_iff.1 hm'
          have HM := Lib.hid hmm
          have HTi := Lib.hid hTi
          have HZ := Lib.hid hz'
          clear hz hz' hWz hm hmm hTi
          go_wp2_with fail
          refine cT.mono ?_
          rintro e w2 ⟨rfl, hb2⟩
          have k0 := (World.cell?_of_block (a := ⟨wr.heap.size, 0, none⟩) (hb2.block wr.heap.size (by have := HWz.out; omega))).trans f0
          have hb02 : Below wr.heap.size wr w2 := HBA.out.trans (hb2.mono HBA.out.size)
          have hA2 := (HAr.out.below hb02).below (w' := w2.drew) ⟨rfl, rfl, rfl, Nat.le_refl _, fun _ _ => rfl⟩
          have cN := name_any hA2 p.el mm HM.out (Or.inl HZ.out)
          have cA := attrs_any hA2 p.el mm HM.out (Or.inl HZ.out) (by have := hsmall.1; exact this)
          have HI := Lib.hid (fun wx (hbx : Below w2.drew.heap.size w2.drew wx) => IH.out inn.wt hwt inn rfl (hA2.below hbx) p.el mm HM.out HTi.out hsmall.2.2.1 hsmall.2.1 HR.out)
          have ST := Lib.hid (fun w3 w4 va vn' hoa hb3 hon hb4 => of_step2 (ea := 83) elem56 w wr w2.drew w3 w4 d inn mm.nm [] mm.ats u5 va vn' HB.out ⟨hb02.os, hb02.tape, hb02.output, hb02.size, hb02.block⟩ HO.out hoa hb3 hon hb4 hd8)
          have hlv : wr.heap.size < w2.drew.heap.size := World.block_lt_of_cell? w2 _ k0
          have HLV := Lib.hid hlv
          have q0 : w2.drew.cell? ⟨wr.heap.size, 0, none⟩ = some (.int .i64 (p.el : Int)) := k0
          clear hA2 hb02 hb2 cT f0 f1 e0 e1 hlv
          go_wp2_with fail
          go_region_held3 (fun wx => wx.cell? ⟨wr.heap.size, 0, none⟩ = some (.int .i64 (p.el : Int)))
            (first | with_reducible exact q0 | with_reducible exact q3 | with_reducible exact q4 | with_reducible exact q5 | with_reducible exact q6 | with_reducible exact k0)
            (first
              | (go_at_call 24; refine cN.mono ?_; rintro e wn ⟨rfl, rfl⟩)
              | (go_at_call 27; refine cA.mono ?_; rintro e w3 ⟨va, rfl, hoa, hb3⟩; have q3 := (World.cell?_of_block (a := ⟨wr.heap.size, 0, none⟩) (hb3.block wr.heap.size HLV.out)).trans q0; have HOA := Lib.hid hoa; have HB3 := Lib.hid hb3; obtain ⟨a6, c6, rfl, -⟩ := At.sl_own hoa; clear hoa hb3)
              | (go_at_call 31; refine (HI.out w3 HB3.out).mono ?_; rintro e w4 ⟨vnn, rfl, hon, hb4⟩; obtain ⟨a6', c6', a7, c7, v', w5, ea6, rfl, hrun, hkeep, hown5, hbel5⟩ := ST.out w3 w4 _ _ HOA.out HB3.out hon hb4; cases ea6; obtain ⟨-, x4, x5, x6⟩ := hkeep wr.heap.size (Nat.le_refl _) HLV.out; have q4 := (World.cell?_of_block (a := ⟨wr.heap.size, 0, none⟩) x4).trans q0; have q5 : (w4.alloc (.cells #[.string ⟨mm.nm.toArray⟩, .slice a6 mm.ats.length c6, .string ⟨#[]⟩, .slice a7 inn.len c7] 73)).cell? ⟨wr.heap.size, 0, none⟩ = some (.int .i64 (p.el : Int)) := (World.cell?_of_block (a := ⟨wr.heap.size, 0, none⟩) x5).trans q0; have q6 := (World.cell?_of_block (a := ⟨wr.heap.size, 0, none⟩) x6).trans q0; have HRn := Lib.hid hrun; have H5 := Lib.hid hown5; have HB5 := Lib.hid hbel5; clear hrun hkeep hown5 hbel5 hon hb4 x4 x5 x6)
              | (refine step_run rfl (.tmp 34) (.tmp 48) 56 56 rfl _ _ rfl rfl v' w5 HRn.out ?_))
          go_wp2
          go_roundw
          case rel => exact ⟨rest, _, j + 1, by go_num, HH.out.1, HH.out.2.2, HTr.out, HH.out.2.1, H5.out, HB5.out⟩
          case measure => simp [RowKit.intOf]; omega
end Go.Proofs.Ytpnjjpbgbdicoaa
