/- The arena's Text, walked. -/
import Derived.Test.YtpnjjpbgbdicoaaUp
import Derived.Test.YtpnjjpbgbdicoaaGet
import Derived.Test.YtpnjjpbgbdicoaaOf
import Derived.Deep.RegionLaw
namespace Go.Proofs.Ytpnjjpbgbdicoaa
open Go.RowKit Go.Lib
open At (Str cellsA cellsA_len Sl)

theorem info93 : ∃ j, Try.prog.info? 93 = some j ∧ (j.zero, j.size, j.bytes) = (some (.agg #[.int .i64 0, .slice none 0 0]), 2, 32) :=
  Option.map_eq_some_iff.1 (by kernel_rfl : (Try.prog.info? 93).map (fun i => (i.zero, i.size, i.bytes)) = some (some (.agg #[.int .i64 0, .slice none 0 0]), 2, 32))
theorem info5 : ∃ j, Try.prog.info? 5 = some j ∧ (j.zero, j.size, j.bytes) = (some (.int .u8 0), 1, 1) :=
  Option.map_eq_some_iff.1 (by kernel_rfl : (Try.prog.info? 5).map (fun i => (i.zero, i.size, i.bytes)) = some (some (.int .u8 0), 1, 1))

/-- '[]byte(s)': a row of one's own -/
theorem bytes_conv (s : List UInt8) (w : World) (B : Nat) (hB : B ≤ w.heap.size) (hl : s.length ≤ 100000000) : ∃ (c : Nat) (W : World), (convert 9 91 (.string ⟨s.toArray⟩)).run Try.prog w = .ok (.slice (some ⟨w.heap.size, 0, none⟩) s.length c) W ∧
    Rw B 5 1 (.slice (some ⟨w.heap.size, 0, none⟩) s.length c) s.length (bcells s) W ∧ W.heap.size = w.heap.size + 1 ∧ Below w.heap.size w W := by
  have hsz : (⟨s.toArray⟩ : ByteArray).size = s.length := rfl
  have hge := grownCap_ge w s.length 0 5
  refine ⟨grownCap w s.length 0 5, Lib.bytesWorld w 5 ⟨s.toArray⟩, ?_, ⟨by rw [bcells_len, Nat.mul_one], Or.inr ⟨w.heap.size, _, rfl, hB, ⟨_, _, Lib.bytesWorld_at_new w 5 ⟨s.toArray⟩⟩, hge, grownCap_le_maxLen w s.length 0 5 (by unfold maxLen; omega), fun j u hj => ?_, fun j hj => ?_⟩⟩, Lib.bytesWorld_size _ _ _, ?_⟩
  · have := Lib.run_convert_string_bytes (P := Try.prog) w 9 91 5 ⟨s.toArray⟩ Try.underlying9 Try.underlying91 Try.underlying5
    rw [hsz] at this
    exact this
  · have hjl : j < s.length := by
      rcases Nat.lt_or_ge j s.length with h' | h'
      · exact h'
      · rw [List.getElem?_eq_none (by rw [bcells_len]; exact h')] at hj; cases hj
    have := Lib.bytesWorld_cell w 5 ⟨s.toArray⟩ j (by rw [hsz]; exact hjl)
    rw [this]
    unfold bcells byteCells at hj
    simp [List.getElem?_eq_getElem hjl] at hj
    rw [← hj]
    simp [List.getD_eq_getElem?_getD, List.getElem?_eq_getElem hjl]
  · have hcs : (Lib.bytesCells w 5 ⟨s.toArray⟩).size = grownCap w s.length 0 5 := by
      simp [Lib.bytesCells, hsz]
      omega
    rw [cell_of_heap (Lib.bytesWorld_at_new w 5 ⟨s.toArray⟩) j, Array.getElem?_eq_getElem (by rw [hcs]; omega)]
    refine ⟨rfl, ?_⟩
    simp [World.frozen?, Lib.bytesWorld_at_new]
    omega
  · exact ⟨rfl, rfl, rfl, by rw [Lib.bytesWorld_size]; omega, fun k hk => Lib.bytesWorld_at_old w 5 _ k hk⟩

def abp (p : QP) : Nat × List UInt8 := (p.el, p.tx)

/-- what Text does to what stands in a node -/
def mtext (l : List (Nat × List UInt8)) (s : List UInt8) : List (Nat × List UInt8) :=
  if s = [] then l else match l.getLast? with
    | some (0, t) => l.dropLast ++ [(0, t ++ s)]
    | _ => l ++ [(0, s)]

/-- the node k changed alone in what stands in it -/
def TextPost (B R cp : Nat) (L : List QN) (vn : Value) (k : Nat) (n : QN) (inn' : List (Nat × List UInt8)) (w : World) (e : Ending) (w' : World) : Prop :=
  e = .returned (.tuple #[]) ∧ ∃ inn vi, AR B w' R (L.set k { n with inn := inn, vi := vi }) cp vn ∧ Chg B w w' ∧ inn.map abp = inn'

variable {B R cp : Nat} {L : List QN} {vn : Value} {w : World}

theorem set_self {α : Type} {l : List α} {i : Nat} {a : α} (h : l[i]? = some a) : l.set i a = l := by
  refine List.ext_getElem? fun j => ?_
  by_cases hj : j = i
  · subst hj
    rw [List.getElem?_set_self (List.getElem?_eq_some_iff.1 h).1, h]
  · rw [List.getElem?_set_ne (fun e => hj e.symm)]

set_option maxHeartbeats 2000000 in
set_option maxRecDepth 100000 in
theorem text_none (h : AR B w R L cp vn) (k : Nat) (n : QN) (hn : L[k]? = some n) :
    Calls Try.prog 21 #[.pointer (some ⟨R, 0, none⟩), .int .i64 (k : Int), .string ⟨([] : List UInt8).toArray⟩] w (TextPost B R cp L vn k n (n.inn.map abp) w) := by
  have cH := has_any h k (List.getElem?_eq_some_iff.1 hn).1
  have HP := Lib.hid (show TextPost B R cp L vn k n (n.inn.map abp) w (.returned (.tuple #[])) w from ⟨rfl, n.inn, n.vi, by rw [set_self hn]; exact h, Chg.refl _ _, rfl⟩)
  clear h hn
  go_enter Try.func21, Try.ntmps21
  go_wp2_with fail
  refine cH.mono ?_
  rintro e w' ⟨rfl, rfl⟩
  go_wp2
  go_end0
  exact HP.out

theorem src_one (w : World) (e : TypeId) (v0 v1 : Value) (h0 : v0.oneCell' = true) (h1 : v1.oneCell' = true) (g : Nat) (hg : g = w.heap.size) : Src Try.prog 2 74 (.slice (some ⟨g, 0, none⟩) 1 1) 1 [v0, v1] (w.alloc (.cells #[v0, v1] e)) := by
  subst hg
  refine Src.ofSlice (P := Try.prog) _ (tx := 74) (e' := 93) Try.underlying74 ⟨w.heap.size, 0, none⟩ 1 1 [v0, v1] rfl (fun j u hj => ?_) (fun u hu => ?_)
  · rw [At.add_lit, Nat.zero_add, cell_of_heap (heap_alloc_new w _) j, List.getElem?_toArray]
    exact hj
  · simp only [List.mem_cons, List.not_mem_nil, or_false] at hu
    rcases hu with rfl | rfl
    · exact h0
    · exact h1

/-- one part behind a node's parts -/
theorem app_part (h : AR B w R L cp vn) {k : Nat} {n : QN} (hn : L[k]? = some n) (p : QP) (a : Option Addr) (m c : Nat) (hvt : p.vt = .slice a m c) (hx : Rw B 5 1 p.vt p.tx.length (bcells p.tx) w) (hfr : ∀ u ∈ vts L, Apart p.vt u) (hl : n.inn.length + 1 ≤ 8000000) :
    ∃ a' c' w3 g cn, vn = .slice (some ⟨g, 0, none⟩) L.length cn ∧ L.length ≤ cn ∧ k < L.length ∧
      (Builtin.append_ #[74, 74] 74 #[n.vi, .slice (some ⟨w.heap.size, 0, none⟩) 1 1]).run Try.prog (w.alloc (.cells #[.int .i64 (p.el : Int), p.vt] 93)) = .ok (.slice a' (n.inn.length + 1) c') w3 ∧
      w3.cell? ⟨R, 0, none⟩ = some vn ∧ w3.frozen? ⟨g, k * 4 + 3, none⟩ = false ∧ w3.cell? ⟨g, k * 4 + 3, none⟩ = some n.vi ∧ g ≠ R ∧
      AR B (w3.setCell ⟨g, k * 4 + 3, none⟩ (.slice a' (n.inn.length + 1) c')) R (L.set k { n with inn := n.inn ++ [p], vi := .slice a' (n.inn.length + 1) c' }) cp vn ∧ Chg B w (w3.setCell ⟨g, k * 4 + 3, none⟩ (.slice a' (n.inn.length + 1) c')) := by
  have hBw : B ≤ w.heap.size := Nat.le_trans h.hB (Nat.le_of_lt h.lt)
  have hA : Below w.heap.size w (w.alloc (.cells #[.int .i64 (p.el : Int), p.vt] 93)) := At.below_alloc _
  have hA1 := h.below hA
  obtain ⟨i, hi, hp⟩ := info93
  simp only [Prod.mk.injEq] at hp
  obtain ⟨hz, hsz, hby⟩ := hp
  have hin := hA1.inner n (mem_of_at hn)
  obtain ⟨v', w3, hr, h1, h2, h3, h4⟩ := hin.append (P := Try.prog) 74 74 i _ 32 Try.underlying74 hi hz hsz hby rfl (.slice (some ⟨w.heap.size, 0, none⟩) 1 1) 1 [.int .i64 (p.el : Int), p.vt]
    (src_one w 93 _ _ rfl (by rw [hvt]; rfl) _ rfl) (by unfold maxLen; omega) (by omega) (by simp; omega)
  obtain ⟨a', c', rfl, -⟩ := h1.slice
  obtain ⟨g, cn, hvn, hk, hc, hBg, hT, -, -, -, d3, hfz⟩ := hA1.node hn
  have hgne : some g ≠ n.vi.ownBlock := hin.type_ne hT (by decide)
  have hRne : some R ≠ n.vi.ownBlock := hin.type_ne hA1.ty (by decide)
  have hb3 := h2.block g hT.lt hgne
  have hpc : pcells (n.inn ++ [p]) = pcells n.inn ++ [.int .i64 (p.el : Int), p.vt] := by
    unfold pcells
    rw [List.flatMap_append]
    rfl
  have hap : AP (vts (L.set k { n with inn := n.inn ++ [p], vi := .slice a' (n.inn.length + 1) c' })) := by
    refine AP.perm ?_ (flat_perm_set _ _ hn).symm
    have e : (n.inn ++ [p]).map QP.vt ++ (L.eraseIdx k).flatMap (fun n => n.inn.map QP.vt) = n.inn.map QP.vt ++ (p.vt :: (L.eraseIdx k).flatMap (fun n => n.inn.map QP.vt)) := by simp
    show AP ((n.inn ++ [p]).map QP.vt ++ (L.eraseIdx k).flatMap (fun n => n.inn.map QP.vt))
    rw [e]
    refine AP.perm ?_ List.perm_middle.symm
    have hpm : (vts L).Perm (n.inn.map QP.vt ++ (L.eraseIdx k).flatMap (fun n => n.inn.map QP.vt)) := flat_perm _ hn
    exact AP.cons.2 ⟨fun u hu => hfr u (hpm.mem_iff.2 hu), AP.perm h.apT hpm⟩
  obtain ⟨r1, r2⟩ := hA1.updInner hn (inn' := n.inn ++ [p]) h2 (by rcases h3 with h3 | h3; exact Or.inl h3; exact Or.inr (Or.inl h3)) (by rw [hpc, List.length_append]; exact h1)
    (fun q hq => by
      rcases List.mem_append.1 hq with hq | hq
      · exact (hA1.texts n (mem_of_at hn) q hq).kept h2 ((hA1.texts n (mem_of_at hn) q hq).types hin (by decide))
      · simp only [List.mem_singleton] at hq
        subst hq
        have := hx.below hA
        exact this.kept h2 (this.types hin (by decide))) hap hvn
  refine ⟨a', c', w3, g, cn, hvn, hc, hk, hr, ?_, ?_, ?_, ?_, r1, (Chg.of_below hBw hA).trans r2⟩
  · exact (World.cell?_of_block (a := ⟨R, 0, none⟩) (h2.block R hA1.lt hRne)).trans hA1.c0
  · exact (World.frozen?_of_block (a := ⟨g, k * 4 + 3, none⟩) hb3).trans (hfz 3 (by decide))
  · rw [World.cell?_of_block (a := ⟨g, k * 4 + 3, none⟩) hb3, d3]
  · intro e
    subst e
    exact absurd (hT.uniq hA1.ty) (by decide)

set_option maxHeartbeats 4000000 in
set_option maxRecDepth 100000 in
theorem text_new (h : AR B w R L cp vn) (k : Nat) (n : QN) (hn : L[k]? = some n) (s : List UInt8) (hs : s ≠ []) (hl : n.inn.length + 1 ≤ 8000000) (hsl : s.length ≤ 100000000)
    (hlast : ∀ p, n.inn.getLast? = some p → p.el ≠ 0) :
    Calls Try.prog 21 #[.pointer (some ⟨R, 0, none⟩), .int .i64 (k : Int), .string ⟨s.toArray⟩] w (TextPost B R cp L vn k n ((n.inn.map abp) ++ [(0, s)]) w) := by
  have hBw : B ≤ w.heap.size := Nat.le_trans h.hB (Nat.le_of_lt h.lt)
  have cH := has_any h k (List.getElem?_eq_some_iff.1 hn).1
  have hne : (s == []) = false := by simpa using hs
  -- what the appending region does
  have hd : Below w.heap.size w w.drew := ⟨rfl, rfl, rfl, Nat.le_refl _, fun _ _ => rfl⟩
  have main : ∀ w0 S0, w0.heap.size = S0 → Below w.heap.size w w0 → ∃ c W1 a' c' w3 g cn, vn = .slice (some ⟨g, 0, none⟩) L.length cn ∧ L.length ≤ cn ∧ k < L.length ∧
      (convert 9 91 (.string ⟨s.toArray⟩)).run Try.prog w0 = .ok (.slice (some ⟨S0, 0, none⟩) s.length c) W1 ∧ W1.cell? ⟨R, 0, none⟩ = some vn ∧
      (Builtin.append_ #[74, 74] 74 #[n.vi, .slice (some ⟨W1.heap.size, 0, none⟩) 1 1]).run Try.prog (W1.alloc (.cells #[.int .i64 0, .slice (some ⟨S0, 0, none⟩) s.length c] 93)) = .ok (.slice a' (n.inn.length + 1) c') w3 ∧
      w3.cell? ⟨R, 0, none⟩ = some vn ∧ w3.frozen? ⟨g, k * 4 + 3, none⟩ = false ∧ w3.cell? ⟨g, k * 4 + 3, none⟩ = some n.vi ∧ g ≠ R ∧
      TextPost B R cp L vn k n ((n.inn.map abp) ++ [(0, s)]) w (.returned (.tuple #[])) (w3.setCell ⟨g, k * 4 + 3, none⟩ (.slice a' (n.inn.length + 1) c')) := by
    intro w0 S0 hS0 hb0
    subst hS0
    have h0 := h.below hb0
    have hB0 : B ≤ w0.heap.size := Nat.le_trans h0.hB (Nat.le_of_lt h0.lt)
    obtain ⟨c, W1, hc, hx, hz, hb1⟩ := bytes_conv s w0 B hB0 hsl
    have h1 := h0.below hb1
    obtain ⟨a', c', w3, g, cn, e1, e2, e3, e4, e5, e6, e7, e8, e9, e10⟩ := app_part h1 hn ⟨0, s, .slice (some ⟨w0.heap.size, 0, none⟩) s.length c⟩ _ _ _ rfl hx (fun u hu => by
      obtain ⟨m, hm, q, hq, rfl⟩ := of_mem_vts hu
      exact fresh_apart (h0.texts m hm q hq) rfl) hl
    refine ⟨c, W1, a', c', w3, g, cn, e1, e2, e3, hc, h1.c0, e4, e5, e6, e7, e8, rfl, _, _, e9, ?_, by simp [abp]⟩
    exact ((Chg.of_below hBw hb0).trans (Chg.of_below hB0 hb1)).trans e10
  obtain ⟨g, c, hvn, hk, hc, -, -, d0, d1, d2, d3, -⟩ := h.node hn
  obtain ⟨ai, ci, hvi, hfit⟩ := (h.inner n (mem_of_at hn)).slice
  have c0 := h.c0
  have hkI : (k : Int) < (L.length : Int) := by omega
  by_cases hemp : n.inn = []
  · have hlen : n.inn.length = 0 := by rw [hemp]; rfl
    obtain ⟨cc, W1, a', c', w3, g', cn, e1, e2, e3, hconv, q1, hr, q3, hfz, hsome, hgR, hpost⟩ := main w.drew w.heap.size rfl hd
    rw [hvn] at e1
    cases e1
    rw [hvi] at hr d3 hsome
    rw [hlen] at d3 hr hsome hpost
    have HR := Lib.hid hr
    have HP := Lib.hid hpost
    have HM := Lib.hid main
    have q0 : w.drew.cell? ⟨R, 0, none⟩ = some vn := c0
    have qa := At.below_alloc (w := W1) (.cells #[.int .i64 0, .slice (some ⟨w.heap.size, 0, none⟩) s.length cc] 93)
    have q2 := (World.cell?_of_block (a := ⟨R, 0, none⟩) (qa.block R (World.block_lt_of_cell? W1 _ q1))).trans q1
    have q4 : (w3.setCell ⟨g, k * 4 + 3, none⟩ (.slice a' (0 + 1) c')).cell? ⟨R, 0, none⟩ = some vn := by
      rw [World.cell?_setCell_far _ _ _ _ (show g ≠ R from hgR)]; exact q3
    rw [hvn] at q0 q1 q2 q3 q4 c0
    clear main hr hpost hd hBw hvi hlen hemp hlast d0 d1 d2 hvn qa h hn
    go_enter Try.func21, Try.ntmps21
    go_wp2_with fail
    refine cH.mono ?_
    rintro e w' ⟨rfl, rfl⟩
    go_wp2_with fail
    go_region_law (first
        | (refine step_run rfl (.tmp 42) (.tmp 46) 74 74 rfl _ _ rfl rfl _ w3 HR.out ?_))
    all_goals (go_wp2; go_end0; exact HP.out)
  · obtain ⟨m, hm⟩ : ∃ m, n.inn.length = m + 1 := ⟨n.inn.length - 1, by have := List.length_pos_iff.2 hemp; omega⟩
    obtain ⟨p, hp⟩ : ∃ p, n.inn[m]? = some p := ⟨n.inn[m]'(by omega), List.getElem?_eq_getElem (by omega)⟩
    have hpe : p.el ≠ 0 := hlast p (by rw [List.getLast?_eq_getElem?, hm]; exact hp)
    obtain ⟨gi, ci', hvi', -, -, -, -, p0, p1, -⟩ := (h.inner n (mem_of_at hn)).part hp
    rw [hvi'] at hvi
    cases hvi
    obtain ⟨at', ct', hvt, -⟩ := (h.texts n (mem_of_at hn) p (mem_of_at hp)).slice
    rw [hvt] at p1
    have cT := isText_any p.el (.slice at' p.tx.length ct') w
    rw [decide_eq_false hpe] at cT
    have HM := Lib.hid main
    rw [hvi', hm] at d3
    have HV := Lib.hid hvi'
    have HN := Lib.hid hvn
    have HL := Lib.hid hm
    have hmb : m ≤ 8000000 := by omega
    rw [hvn] at c0
    clear main hd hBw hemp hlast d0 d1 d2 hvn h hn hvi' hp hpe hvt hm hfit hl
    go_enter Try.func21, Try.ntmps21
    go_wp2_with fail
    refine cH.mono ?_
    rintro e w' ⟨rfl, rfl⟩
    go_wp2_with fail
    refine cT.mono ?_
    rintro e w2 ⟨rfl, hb2⟩
    obtain ⟨cc, W1, a', c', w3, g', cn, e1, e2, e3, hconv, q1, hr, q3, hfz, hsome, hgR, hpost⟩ := HM.out w2.drew w2.heap.size rfl ⟨hb2.os, hb2.tape, hb2.output, hb2.size, hb2.block⟩
    rw [HN.out] at e1
    cases e1
    rw [HV.out, HL.out] at hr hsome
    rw [HL.out] at hpost
    have c02 := (World.cell?_of_block (a := ⟨R, 0, none⟩) (hb2.block R (World.block_lt_of_cell? w _ c0))).trans c0
    have q0 : w2.drew.cell? ⟨R, 0, none⟩ = _ := c02
    have qa := At.below_alloc (w := W1) (.cells #[.int .i64 0, .slice (some ⟨w2.heap.size, 0, none⟩) s.length cc] 93)
    have q2 := (World.cell?_of_block (a := ⟨R, 0, none⟩) (qa.block R (World.block_lt_of_cell? W1 _ q1))).trans q1
    rw [HN.out] at q1 q2 q3
    have HR := Lib.hid hr
    have HP := Lib.hid hpost
    clear hr hpost hb2 qa p0 p1 d3 c0 cT cH
    go_wp2_with fail
    go_region_law (first
        | (refine step_run rfl (.tmp 42) (.tmp 46) 74 74 rfl _ _ rfl rfl _ w3 HR.out ?_))
    all_goals (go_wp2; go_end0; exact HP.out)

/-- bytes behind a part's text -/
theorem app_text (h : AR B w R L cp vn) {k j : Nat} {n : QN} {p : QP} (hn : L[k]? = some n) (hp : n.inn[j]? = some p) (s : List UInt8) (hl : p.tx.length + s.length ≤ 1000000000) :
    ∃ a' c' w3 gi ci, n.vi = .slice (some ⟨gi, 0, none⟩) n.inn.length ci ∧
      (Builtin.append_ #[91, 9] 91 #[p.vt, .string ⟨s.toArray⟩]).run Try.prog w = .ok (.slice a' (p.tx.length + s.length) c') w3 ∧
      w3.frozen? ⟨gi, j * 2 + 1, none⟩ = false ∧ w3.cell? ⟨gi, j * 2 + 1, none⟩ = some p.vt ∧
      AR B (w3.setCell ⟨gi, j * 2 + 1, none⟩ (.slice a' (p.tx.length + s.length) c')) R (L.set k { n with inn := n.inn.set j { p with tx := p.tx ++ s, vt := .slice a' (p.tx.length + s.length) c' } }) cp vn ∧ Chg B w (w3.setCell ⟨gi, j * 2 + 1, none⟩ (.slice a' (p.tx.length + s.length) c')) := by
  have hBw : B ≤ w.heap.size := Nat.le_trans h.hB (Nat.le_of_lt h.lt)
  obtain ⟨i, hi, hpi⟩ := info5
  simp only [Prod.mk.injEq] at hpi
  obtain ⟨hz, hsz, hby⟩ := hpi
  have hin := h.inner n (mem_of_at hn)
  have htx := h.texts n (mem_of_at hn) p (mem_of_at hp)
  obtain ⟨v', w3, hr, h1, h2, h3, -⟩ := htx.append (P := Try.prog) 91 9 i _ 1 Try.underlying91 hi hz hsz hby rfl (.string ⟨s.toArray⟩) s.length (bcells s) (Src.ofString (P := Try.prog) w (tx := 9) Try.underlying9 ⟨s.toArray⟩) (by unfold maxLen; omega) (by omega) hBw
  obtain ⟨a', c', rfl, -⟩ := h1.slice
  obtain ⟨gi, ci, hvi, -, -, -, hT, -, p1, hfz⟩ := hin.part hp
  have hne : some gi ≠ p.vt.ownBlock := htx.type_ne hT (by decide)
  have hb3 := h2.block gi hT.lt hne
  obtain ⟨r1, r2⟩ := h.updText hn hp (tx' := p.tx ++ s) h2 h3 (by rw [bcells_append, List.length_append]; exact h1) hvi
  exact ⟨a', c', w3, gi, ci, hvi, hr, (World.frozen?_of_block (a := ⟨gi, j * 2 + 1, none⟩) hb3).trans (hfz 1 (by decide)), (World.cell?_of_block (a := ⟨gi, j * 2 + 1, none⟩) hb3).trans p1, r1, r2⟩

set_option maxHeartbeats 4000000 in
set_option maxRecDepth 100000 in
theorem text_more (h : AR B w R L cp vn) (k m : Nat) (n : QN) (p : QP) (hn : L[k]? = some n) (s : List UInt8) (hs : s ≠ []) (hm : n.inn.length = m + 1) (hp : n.inn[m]? = some p) (hp0 : p.el = 0) (hl : n.inn.length + 1 ≤ 8000000) (hsl : p.tx.length + s.length ≤ 1000000000) :
    Calls Try.prog 21 #[.pointer (some ⟨R, 0, none⟩), .int .i64 (k : Int), .string ⟨s.toArray⟩] w (TextPost B R cp L vn k n ((n.inn.map abp).set m (0, p.tx ++ s)) w) := by
  have hBw : B ≤ w.heap.size := Nat.le_trans h.hB (Nat.le_of_lt h.lt)
  have cH := has_any h k (List.getElem?_eq_some_iff.1 hn).1
  have hne : (s == []) = false := by simpa using hs
  have main : ∀ w0, Below w.heap.size w w0 → ∃ a' c' w3 gi ci, n.vi = .slice (some ⟨gi, 0, none⟩) n.inn.length ci ∧
      (Builtin.append_ #[91, 9] 91 #[p.vt, .string ⟨s.toArray⟩]).run Try.prog w0 = .ok (.slice a' (p.tx.length + s.length) c') w3 ∧
      w3.frozen? ⟨gi, m * 2 + 1, none⟩ = false ∧ w3.cell? ⟨gi, m * 2 + 1, none⟩ = some p.vt ∧
      TextPost B R cp L vn k n ((n.inn.map abp).set m (0, p.tx ++ s)) w (.returned (.tuple #[])) (w3.setCell ⟨gi, m * 2 + 1, none⟩ (.slice a' (p.tx.length + s.length) c')) := by
    intro w0 hb0
    obtain ⟨a', c', w3, gi, ci, e1, e2, e3, e4, e5, e6⟩ := app_text (h.below hb0) hn hp s hsl
    refine ⟨a', c', w3, gi, ci, e1, e2, e3, e4, rfl, _, _, e5, (Chg.of_below hBw hb0).trans e6, ?_⟩
    rw [List.map_set]
    simp [abp, hp0]
  obtain ⟨g, c, hvn, hk, hc, -, -, d0, d1, d2, d3, -⟩ := h.node hn
  have c0 := h.c0
  have hkI : (k : Int) < (L.length : Int) := by omega
  obtain ⟨gi, ci', hvi', -, -, -, -, p0, p1, -⟩ := (h.inner n (mem_of_at hn)).part hp
  obtain ⟨at', ct', hvt, -⟩ := (h.texts n (mem_of_at hn) p (mem_of_at hp)).slice
  rw [hvt] at p1
  have cT := isText_any p.el (.slice at' p.tx.length ct') w
  rw [decide_eq_true hp0] at cT
  have HM := Lib.hid main
  rw [hvi', hm] at d3
  have HV := Lib.hid hvi'
  have HL := Lib.hid hm
  have HT := Lib.hid hvt
  have hmb : m ≤ 8000000 := by omega
  rw [hvn] at c0
  have hm1 : m < m + 1 := Nat.lt_succ_self m
  clear main hBw d0 d1 d2 hvn h hn hvi' hp hp0 hvt hm hl
  go_enter Try.func21, Try.ntmps21
  go_wp2_with fail
  refine cH.mono ?_
  rintro e w' ⟨rfl, rfl⟩
  go_wp2_with fail
  refine cT.mono ?_
  rintro e w2 ⟨rfl, hb2⟩
  obtain ⟨a', c', w3, gi2, ci2, e1, hr, hfz, hsome, hpost⟩ := HM.out w2 hb2
  rw [HV.out] at e1
  cases e1
  rw [HT.out] at hr hsome
  have p1' := (World.cell?_of_block (a := ⟨gi, m * 2 + 1, none⟩) (hb2.block gi (World.block_lt_of_cell? w _ p1))).trans p1
  have HR := Lib.hid hr
  have HP := Lib.hid hpost
  clear hr hpost hb2 p0 p1 d3 c0 cT cH
  go_wp2_with (at_builtin; refine Lib.wpList_append_run _ rfl (.tmp 56) (.tmp 57) 91 9 rfl _ _ rfl rfl _ w3 HR.out ?_)
  go_end0
  exact HP.out

theorem mtext_new (l : List (Nat × List UInt8)) (s : List UInt8) (hs : s ≠ []) (hl : ∀ p, l.getLast? = some p → p.1 ≠ 0) : mtext l s = l ++ [(0, s)] := by
  unfold mtext
  rw [if_neg hs]
  split
  · rename_i t h; exact absurd rfl (hl _ h)
  · rfl
theorem mtext_more (l : List (Nat × List UInt8)) (s : List UInt8) (hs : s ≠ []) (m : Nat) (t : List UInt8) (hm : l.length = m + 1) (hp : l[m]? = some (0, t)) : mtext l s = l.set m (0, t ++ s) := by
  have hg : l.getLast? = some (0, t) := by rw [List.getLast?_eq_getElem?, hm]; exact hp
  unfold mtext
  rw [if_neg hs, hg]
  show l.dropLast ++ [(0, t ++ s)] = _
  obtain ⟨r, rfl⟩ : ∃ r, l = r ++ [(0, t)] := by
    rcases List.eq_nil_or_concat l with rfl | ⟨r, b, rfl⟩
    · cases hg
    · rw [List.concat_eq_append] at hg ⊢
      rw [List.getLast?_append] at hg
      simp only [List.getLast?_singleton, Option.some_or, Option.some.injEq] at hg
      exact ⟨r, by rw [hg]⟩
  have hr : r.length = m := by simpa using hm
  subst hr
  rw [List.dropLast_concat, List.set_append_right _ _ (Nat.le_refl _)]
  simp

/-- Text, at whichever node -/
theorem text_any (h : AR B w R L cp vn) (k : Nat) (n : QN) (hn : L[k]? = some n) (s : List UInt8) (hl : n.inn.length + 1 ≤ 8000000) (hsl : s.length ≤ 100000000) (hx : ∀ p ∈ n.inn, p.tx.length ≤ 100000000) :
    Calls Try.prog 21 #[.pointer (some ⟨R, 0, none⟩), .int .i64 (k : Int), .string ⟨s.toArray⟩] w (TextPost B R cp L vn k n (mtext (n.inn.map abp) s) w) := by
  by_cases hs : s = []
  · subst hs
    exact text_none h k n hn
  · by_cases hlast : ∀ p, n.inn.getLast? = some p → p.el ≠ 0
    · rw [mtext_new _ _ hs (fun p hp => by
        rw [List.getLast?_map] at hp
        cases hq : n.inn.getLast? with
        | none => rw [hq] at hp; cases hp
        | some q => rw [hq] at hp; cases hp; exact hlast q hq)]
      exact text_new h k n hn s hs hl hsl hlast
    · have : ∃ p, n.inn.getLast? = some p ∧ p.el = 0 := by
        refine Classical.byContradiction fun hc => hlast fun p hp h0 => hc ⟨p, hp, h0⟩
      obtain ⟨p, hp, hp0⟩ := this
      obtain ⟨m, hm⟩ : ∃ m, n.inn.length = m + 1 := ⟨n.inn.length - 1, by
        cases hi : n.inn with
        | nil => rw [hi] at hp; cases hp
        | cons => simp⟩
      have hpm : n.inn[m]? = some p := by rw [List.getLast?_eq_getElem?, hm] at hp; exact hp
      rw [mtext_more _ _ hs m p.tx (by rw [List.length_map, hm]) (by rw [List.getElem?_map, hpm]; simp [abp, hp0])]
      exact text_more h k m n p hn s hs hm hpm hp0 hl (by have := hx p (mem_of_at hpm); omega)
end Go.Proofs.Ytpnjjpbgbdicoaa
