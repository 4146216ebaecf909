/- The arena's Append, walked: where the parent isn't met from the node's own. -/
import Derived.Test.YtpnjjpbgbdicoaaTake
namespace Go.Proofs.Ytpnjjpbgbdicoaa
open Go.RowKit Go.Lib
open At (Str cellsA cellsA_len Sl)

variable {B R cp : Nat} {L : List QN} {vn : Value} {w : World}

/-- what takeOut leaves -/
def TookPost (B R cp : Nat) (vn : Value) (Q : List QN → Prop) (w : World) (e : Ending) (w' : World) : Prop :=
  e = .returned (.tuple #[]) ∧ ∃ L1, AR B w' R L1 cp vn ∧ Chg B w w' ∧ Q L1

/-- what Append does behind that -/
def AppPost (B R cp : Nat) (vn : Value) (Q : List QN → Prop) (k i : Nat) (w : World) (e : Ending) (w' : World) : Prop :=
  e = .returned (.tuple #[]) ∧ ∃ L1 ni nk vi, Q L1 ∧ L1[i]? = some ni ∧ L1[k]? = some nk ∧
    AR B w' R ((L1.set i { ni with par := (k : Int) }).set k { nk with inn := nk.inn ++ [⟨i, [], .slice none 0 0⟩], vi := vi }) cp vn ∧ Chg B w w'

theorem below_drew (w : World) : Below w.heap.size w w.drew := ⟨rfl, rfl, rfl, Nat.le_refl _, fun _ _ => rfl⟩

set_option maxHeartbeats 4000000 in
set_option maxRecDepth 100000 in
theorem append_any (h : AR B w R L cp vn) (k i : Nat) (hk : k < L.length) (hi : i < L.length) (hi0 : i ≠ 0) (hki : k ≠ i) (no : QN) (ho : L[i]? = some no) (m : Nat) (hnu : NU L i m (k : Int)) (Q : List QN → Prop)
    (hT : Calls Try.prog 48 #[.pointer (some ⟨R, 0, none⟩), .int .i64 (i : Int)] w (TookPost B R cp vn Q w))
    (hQ : ∀ L1, Q L1 → L1.length = L.length ∧ ∀ n ∈ L1, n.inn.length + 1 ≤ 8000000) :
    Calls Try.prog 19 #[.pointer (some ⟨R, 0, none⟩), .int .i64 (k : Int), .int .i64 (i : Int)] w (AppPost B R cp vn Q k i w) := by
  have cH := has_any h k hk
  have cE := isElement_any h i hi
  rw [decide_eq_true hi0] at cE
  have cU := under_false h i no ho m (k : Int) hnu
  obtain ⟨g, c, hvn, -⟩ := h.node ho
  have main : ∀ w1, TookPost B R cp vn Q w (.returned (.tuple #[])) w1 → ∃ av n cv a' c' w4,
      w1.cell? ⟨R, 0, none⟩ = some vn ∧ w1.frozen? ⟨g, i * 4 + 2, none⟩ = false ∧ (∃ u, w1.cell? ⟨g, i * 4 + 2, none⟩ = some u) ∧
      (w1.setCell ⟨g, i * 4 + 2, none⟩ (.int .i64 (k : Int))).cell? ⟨R, 0, none⟩ = some vn ∧
      (w1.setCell ⟨g, i * 4 + 2, none⟩ (.int .i64 (k : Int))).cell? ⟨g, k * 4 + 3, none⟩ = some (.slice av n cv) ∧
      ((w1.setCell ⟨g, i * 4 + 2, none⟩ (.int .i64 (k : Int))).alloc (.cells #[.int .i64 (i : Int), .slice none 0 0] 93)).cell? ⟨R, 0, none⟩ = some vn ∧
      ((w1.setCell ⟨g, i * 4 + 2, none⟩ (.int .i64 (k : Int))).alloc (.cells #[.int .i64 (i : Int), .slice none 0 0] 93)).cell? ⟨g, k * 4 + 3, none⟩ = some (.slice av n cv) ∧
      (Builtin.append_ #[74, 74] 74 #[.slice av n cv, .slice (some ⟨w1.heap.size, 0, none⟩) 1 1]).run Try.prog ((w1.setCell ⟨g, i * 4 + 2, none⟩ (.int .i64 (k : Int))).drew.alloc (.cells #[.int .i64 (i : Int), .slice none 0 0] 93)) = .ok (.slice a' (n + 1) c') w4 ∧
      w4.cell? ⟨R, 0, none⟩ = some vn ∧ w4.frozen? ⟨g, k * 4 + 3, none⟩ = false ∧ w4.cell? ⟨g, k * 4 + 3, none⟩ = some (.slice av n cv) ∧
      AppPost B R cp vn Q k i w (.returned (.tuple #[])) (w4.setCell ⟨g, k * 4 + 3, none⟩ (.slice a' (n + 1) c')) := by
    rintro w1 ⟨-, L1, h1, hc1, hq⟩
    obtain ⟨hlen, hin⟩ := hQ L1 hq
    obtain ⟨ni, hni⟩ : ∃ ni, L1[i]? = some ni := ⟨_, List.getElem?_eq_getElem (by omega)⟩
    obtain ⟨nk, hnk⟩ : ∃ nk, L1[k]? = some nk := ⟨_, List.getElem?_eq_getElem (by omega)⟩
    obtain ⟨g1, c1, hv1, -, -, -, -, -, -, d2, -, hf1⟩ := h1.node hni
    have hvn1 : vn = .slice (some ⟨g, 0, none⟩) L1.length c := by rw [hvn, hlen]
    have hgg : g1 = g := by rw [hvn] at hv1; injection hv1 with e1; injection e1 with e1; injection e1 with e1; exact e1.symm
    subst hgg
    obtain ⟨h2, hc2⟩ := h1.updPar hni (k : Int) hvn1
    have h3 := h2.below (below_drew _)
    have hnk' : (L1.set i { ni with par := (k : Int) })[k]? = some nk := by rw [List.getElem?_set_ne (fun e => hki e.symm)]; exact hnk
    have hBw1 : B ≤ (w1.setCell ⟨g1, i * 4 + 2, none⟩ (.int .i64 (k : Int))).heap.size := Nat.le_trans h2.hB (Nat.le_of_lt h2.lt)
    obtain ⟨av, cv, hvi, -⟩ := (h3.inner nk (mem_of_at hnk')).slice
    obtain ⟨g2, c2, hv2, -, -, -, hT2, -, -, -, f3, -⟩ := h3.node hnk'
    have hgg : g2 = g1 := by rw [hvn] at hv2; injection hv2 with e1; injection e1 with e1; injection e1 with e1; exact e1.symm
    subst hgg
    obtain ⟨a', c', w4, g3, cn, e1, -, -, hr, e4, e5, e6, -, e8, e9⟩ := app_part h3 hnk' ⟨i, [], .slice none 0 0⟩ none 0 0 rfl (Rw.nil _ _ _ _) (fun u _ => Or.inl rfl) (hin nk (mem_of_at hnk))
    have hgg : g3 = g2 := by rw [hvn] at e1; injection e1 with e1; injection e1 with e1; injection e1 with e1; exact e1.symm
    subst hgg
    have hA : Below (w1.setCell ⟨g3, i * 4 + 2, none⟩ (.int .i64 (k : Int))).drew.heap.size (w1.setCell ⟨g3, i * 4 + 2, none⟩ (.int .i64 (k : Int))).drew ((w1.setCell ⟨g3, i * 4 + 2, none⟩ (.int .i64 (k : Int))).drew.alloc (.cells #[.int .i64 (i : Int), .slice none 0 0] 93)) := At.below_alloc _
    refine ⟨av, nk.inn.length, cv, a', c', w4, h1.c0, hf1 2 (by decide), ⟨_, d2⟩, h3.c0, f3.trans (by rw [hvi]), (h3.below hA).c0, ?_, by rw [← hvi, ← World.size_setCell w1 ⟨g3, i * 4 + 2, none⟩ (.int .i64 (k : Int))]; exact hr, e4, e5, by rw [e6, hvi], rfl, L1, ni, nk, _, hq, hni, hnk, e8, ?_⟩
    · exact (World.cell?_of_block (a := ⟨g3, k * 4 + 3, none⟩) (hA.block g3 hT2.lt)).trans (by rw [f3, hvi])
    · exact ((hc1.trans hc2).trans (Chg.of_below hBw1 (below_drew _))).trans e9
  have HM := Lib.hid main
  have HV := Lib.hid hvn
  have hiI : (i : Int) < (L.length : Int) := by omega
  have hkI : (k : Int) < (L.length : Int) := by omega
  clear main h hvn ho hnu hQ
  go_enter Try.func19, Try.ntmps19
  go_wp2_with fail
  refine cH.mono ?_
  rintro e w' ⟨rfl, rfl⟩
  go_wp2_with fail
  refine cE.mono ?_
  rintro e w' ⟨rfl, rfl⟩
  go_wp2_with fail
  refine cU.mono ?_
  rintro e w' ⟨rfl, rfl⟩
  go_wp2_with fail
  refine hT.mono ?_
  intro e w1 ht
  obtain rfl : e = .returned (.tuple #[]) := ht.1
  obtain ⟨av, n, cv, a', c', w4, q0, hf1, hs1, q1, q2, q3, q4, hr, q5, hf2, q6, hpost⟩ := HM.out w1 ht
  rw [HV.out] at q0 q1 q3 q5
  have HR := Lib.hid hr
  have HP := Lib.hid hpost
  clear hr hpost ht hT cH cE cU
  obtain ⟨u, hs1⟩ := hs1
  go_wp2_with fail
  go_region_law (first
      | (refine step_run rfl (.tmp 45) (.tmp 48) 74 74 rfl _ _ rfl rfl _ w4 HR.out ?_))
  all_goals (go_wp2; go_end0; exact HP.out)
/-- a node that stands in none, put into another one -/
def FreshPost (B R cp : Nat) (L : List QN) (vn : Value) (k i : Nat) (nk ni : QN) (w : World) (e : Ending) (w' : World) : Prop :=
  e = .returned (.tuple #[]) ∧ ∃ vi, AR B w' R ((L.set i { ni with par := (k : Int) }).set k { nk with inn := nk.inn ++ [⟨i, [], .slice none 0 0⟩], vi := vi }) cp vn ∧ Chg B w w'

theorem append_fresh (h : AR B w R L cp vn) (k i : Nat) (hi0 : i ≠ 0) (nk ni : QN) (hnk : L[k]? = some nk) (hni : L[i]? = some ni) (hpar : ni.par = -1) (m : Nat) (hnu : NU L i m (k : Int)) (hb : ∀ n ∈ L, n.inn.length + 1 ≤ 8000000) :
    Calls Try.prog 19 #[.pointer (some ⟨R, 0, none⟩), .int .i64 (k : Int), .int .i64 (i : Int)] w (FreshPost B R cp L vn k i nk ni w) := by
  have hki : k ≠ i := fun e => hnu.ne (by rw [e])
  have hT : Calls Try.prog 48 #[.pointer (some ⟨R, 0, none⟩), .int .i64 (i : Int)] w (TookPost B R cp vn (fun L1 => L1 = L) w) := by
    refine (takeOut_none h i ni hni hpar).mono ?_
    rintro e w' ⟨rfl, rfl⟩
    exact ⟨rfl, L, h, Chg.refl _ _, rfl⟩
  refine (append_any h k i (List.getElem?_eq_some_iff.1 hnk).1 (List.getElem?_eq_some_iff.1 hni).1 hi0 hki ni hni m hnu _ hT (fun L1 hL => by subst hL; exact ⟨rfl, hb⟩)).mono ?_
  rintro e w' ⟨rfl, L1, n1, nk1, vi, rfl, h1, h2, h3, h4⟩
  rw [hni] at h1
  injection h1 with h1
  rw [hnk] at h2
  injection h2 with h2
  subst h1 h2
  exact ⟨rfl, vi, h3, h4⟩

/-- a node that stands in another one, taken out and put elsewhere -/
def MovedPost (B R cp : Nat) (L : List QN) (vn : Value) (k i p j : Nat) (ni np : QN) (w : World) (e : Ending) (w' : World) : Prop :=
  AppPost B R cp vn (fun L1 => ∃ vp, L1 = (L.set p { np with inn := np.inn.eraseIdx j, vi := vp }).set i { ni with par := -1 }) k i w e w'

theorem append_moved (h : AR B w R L cp vn) (k i p j : Nat) (hi0 : i ≠ 0) (hk : k < L.length) (ni np : QN) (q : QP) (hni : L[i]? = some ni) (hpar : ni.par = (p : Int)) (hp : L[p]? = some np) (hpi : p ≠ i) (hq : np.inn[j]? = some q) (hqi : q.el = i)
    (hlast : ∀ k x, j < k → np.inn[k]? = some x → x.el ≠ i) (m : Nat) (hnu : NU L i m (k : Int)) (hb : ∀ n ∈ L, n.inn.length + 1 ≤ 8000000) :
    Calls Try.prog 19 #[.pointer (some ⟨R, 0, none⟩), .int .i64 (k : Int), .int .i64 (i : Int)] w (MovedPost B R cp L vn k i p j ni np w) := by
  have hki : k ≠ i := fun e => hnu.ne (by rw [e])
  have hT : Calls Try.prog 48 #[.pointer (some ⟨R, 0, none⟩), .int .i64 (i : Int)] w (TookPost B R cp vn (fun L1 => ∃ vp, L1 = (L.set p { np with inn := np.inn.eraseIdx j, vi := vp }).set i { ni with par := -1 }) w) := by
    refine (takeOut_some h i p j ni np q hni hpar hp hpi hq hqi hlast (by have := hb np (mem_of_at hp); omega)).mono ?_
    rintro e w' ⟨rfl, vi, h1, h2⟩
    exact ⟨rfl, _, h1, h2, vi, rfl⟩
  refine append_any h k i hk (List.getElem?_eq_some_iff.1 hni).1 hi0 hki ni hni m hnu _ hT ?_
  rintro L1 ⟨vp, rfl⟩
  refine ⟨by simp, fun n hn => ?_⟩
  rcases mem_set hn with hn | rfl
  · rcases mem_set hn with hn | rfl
    · exact hb n hn
    · have := hb np (mem_of_at hp)
      have := (List.eraseIdx_sublist np.inn j).length_le
      show (np.inn.eraseIdx j).length + 1 ≤ 8000000
      omega
  · exact hb ni (mem_of_at hni)
end Go.Proofs.Ytpnjjpbgbdicoaa
