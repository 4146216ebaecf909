/- What the rows of this seat hand in, read as forests: their size is at most the bulk of what is read. -/
import Derived.Test.YtpnjjpbgbdicoaaApp
import Derived.Test.YtpnjjpbgbdicoaaChecked
import Derived.Test.YtpnjjpbgbdicoaaRows
import Derived.WalkKit
import Derived.ProofKit
import Derived.OpenShut
import Derived.ChangeOld
import Derived.ChangeArms
import Derived.ChangeSame
import Derived.JoinedCond
namespace Go.Proofs.Ytpnjjpbgbdicoaa
open Go.ChangeShapes Go.WideShapes Go.ChangeAt Go.RowKit
open At (Str cellsA cellsA_len Sl)

theorem own : ownKnob Try.prog.godebug = none := by kernel_rfl
theorem laidOut : laidOutB Try.prog = true := by kernel_rfl

variable {H : Type} {enc : TypeId × Value → H} {W : World}

theorem bulk_le {d : DataW H} {l : List (DataW H)} (h : d ∈ l) : Rows.uptoBulk d ≤ Rows.uptoBulkAll l := by
  induction l with
  | nil => cases h
  | cons x r ih =>
    simp only [Rows.uptoBulkAll]
    cases List.mem_cons.1 h with
    | inl e => subst e; omega
    | inr e => have := ih e; omega
theorem bulk_append (l r : List (DataW H)) : Rows.uptoBulkAll (l ++ r) = Rows.uptoBulkAll l + Rows.uptoBulkAll r := by
  induction l with
  | nil => simp [Rows.uptoBulkAll]
  | cons x l ih => simp only [List.cons_append, Rows.uptoBulkAll, ih]; omega

theorem str_list (s : ByteArray) : ∃ l : Str, s = ⟨l.toArray⟩ := ⟨s.data.toList, rfl⟩

/-- attributes, one behind the other -/
theorem open_ats_list (n : Nat) (a : Addr) : ∀ (l : List (DataW H × List MemPlace)) (i0 : Nat),
    (∀ j y, l[j]? = some y → (W.cells? 0 (a.add ((i0 + j) * 2)) 2).bind (DataW.trod enc Try.prog W 0 (fun _ => true) true n 82) = some y) →
    ∃ L : List At.At, L.length = l.length ∧ F.atw L ≤ Rows.uptoBulkAll (l.map (·.1)) ∧ ∀ (j : Nat) (u : Value), (cellsA L)[j]? = some u → W.cell? ((a.add (i0 * 2)).add j) = some u := by
  intro l
  induction l with
  | nil => intro i0 _; exact ⟨[], rfl, Nat.zero_le _, fun j u h => by simp [cellsA] at h⟩
  | cons y l ih =>
    intro i0 h
    obtain ⟨L, hL, hw, hc⟩ := ih (i0 + 1) (fun j z hz => by
      have := h (j + 1) z (by simpa using hz)
      rw [show i0 + (j + 1) = i0 + 1 + j by omega] at this
      exact this)
    have h0 := h 0 y rfl
    rw [Nat.add_zero] at h0
    obtain ⟨cs, hcs, ht⟩ := Option.bind_eq_some_iff.1 h0
    obtain ⟨-, hl2, hcell⟩ := World.cells?_some hcs
    obtain ⟨y0, y1, m, rfl, -, t0, t1⟩ := trod_struct2 Try.underlying82 ht
    obtain ⟨s0, e0, rfl, -⟩ := DataW.trod_string Try.underlying9 t0
    obtain ⟨s1, e1, rfl, -⟩ := DataW.trod_string Try.underlying9 t1
    match cs, hl2 with
    | [v0, v1], _ =>
      have e0' : v0 = .string s0 := by simpa [show Try.prog.cellsOf 9 = 1 by kernel_rfl] using e0
      have e1' : v1 = .string s1 := by simpa [show Try.prog.cellsOf 9 = 1 by kernel_rfl] using e1
      subst e0' e1'
      refine ⟨(s0.data.toList, s1.data.toList) :: L, by simp [hL], ?_, fun j u hj => ?_⟩
      · simp only [F.atw, List.map_cons, Rows.uptoBulkAll, Rows.uptoBulk]
        omega
      · match j, hj with
        | 0, hj => cases hj; exact hcell 0 (by decide)
        | 1, hj => cases hj; exact hcell 1 (by decide)
        | j + 2, hj =>
          have := hc j u hj
          rw [← this]
          congr 1
          unfold Addr.add
          rcases a with ⟨b, o, sp⟩
          simp only
          split <;> split <;> split <;> simp_all <;> omega

/-- a slice of attributes -/
theorem open_ats {fuel : Nat} {cs : List Value} {x : DataW H × List MemPlace} (h : DataW.trod enc Try.prog W 0 (fun _ => true) true fuel 33 cs = some x) :
    ∃ (L : List At.At) (a : Option Addr) (c : Nat), cs = [.slice a L.length c] ∧ Sl L a c W ∧ F.atw L + 1 ≤ Rows.uptoBulk x.1 := by
  rcases DataW.trod_slice Try.underlying33 h with ⟨rfl, rfl⟩ | ⟨a, len, cap, elems, rest, n, -, rfl, rfl, -, hl, -, hlen, hel, -⟩
  · exact ⟨[], none, 0, rfl, ⟨Nat.le_refl _, fun _ => ⟨rfl, rfl⟩, Or.inl rfl⟩, Nat.le_refl _⟩
  · obtain ⟨L, hL, hw, hc⟩ := open_ats_list (enc := enc) (W := W) n a elems 0 (fun j y hj => by
      have hjl : j < len := by rw [← hlen]; exact (List.getElem?_eq_some_iff.1 hj).1
      have := hel j hjl
      rw [show Try.prog.cellsOf 82 = 2 by kernel_rfl, hj] at this
      rw [Nat.zero_add]
      exact this)
    refine ⟨L, some a, cap, by rw [hL, hlen], ⟨by omega, fun h => (by cases h), ?_⟩, ?_⟩
    · by_cases h0 : L = []
      · exact Or.inl h0
      · right
        have hpos : 0 < L.length := List.length_pos_iff.2 h0
        obtain ⟨b, off, spot⟩ := a
        have h1 := hc 0 _ (At.cellsA_at L 0 hpos).1
        have hspot : spot = none := by simpa [Addr.add] using World.cell?_spot h1
        subst hspot
        refine ⟨b, off, rfl, fun i hi => ?_⟩
        obtain ⟨e1, e2⟩ := At.cellsA_at L i hi
        have k1 := hc _ _ e1
        have k2 := hc _ _ e2
        rw [At.add_lit, At.add_lit, Nat.zero_mul, Nat.add_zero] at k1 k2
        exact ⟨k1, by rw [Nat.add_assoc]; exact k2⟩
    · simp only [Rows.uptoBulk]
      omega

/-- nodes, one behind the other -/
theorem open_nodes_list (n : Nat) (a : Addr)
    (ih : ∀ m, m ≤ n → ∀ (cs : List Value) (x : DataW H × List MemPlace), DataW.trod enc Try.prog W 0 (fun _ => true) true m 54 cs = some x → ∃ (f : F) (a : Option Addr) (c : Nat), cs = [.slice a f.len c] ∧ NSl W (fun _ => True) f a c ∧ f.wt + 1 ≤ Rows.uptoBulk x.1) :
    ∀ (l : List (DataW H × List MemPlace)) (i0 : Nat),
    (∀ j y, l[j]? = some y → (W.cells? 0 (a.add ((i0 + j) * 4)) 4).bind (DataW.trod enc Try.prog W 0 (fun _ => true) true n 69) = some y) →
    ∃ (f : F) (us : List Value), f.len = l.length ∧ f.wt ≤ Rows.uptoBulkAll (l.map (·.1)) ∧ NV W (fun _ => True) f us ∧ ∀ (j : Nat) (u : Value), us[j]? = some u → W.cell? ((a.add (i0 * 4)).add j) = some u := by
  intro l
  induction l with
  | nil => intro i0 _; exact ⟨.nil, [], rfl, Nat.zero_le _, rfl, fun j u h => by simp at h⟩
  | cons y l ihl =>
    intro i0 h
    obtain ⟨f, us, hL, hw, hv, hc⟩ := ihl (i0 + 1) (fun j z hz => by
      have := h (j + 1) z (by simpa using hz)
      rw [show i0 + (j + 1) = i0 + 1 + j by omega] at this
      exact this)
    have h0 := h 0 y rfl
    rw [Nat.add_zero] at h0
    obtain ⟨cs, hcs, ht⟩ := Option.bind_eq_some_iff.1 h0
    obtain ⟨-, hl4, hcell⟩ := World.cells?_some hcs
    obtain ⟨xs, m, hnm, rfl, -, hxs, hf⟩ := DataW.trod_struct Try.underlying69 ht
    have c9 : Try.prog.cellsOf 9 = 1 := by kernel_rfl
    have c33 : Try.prog.cellsOf 33 = 1 := by kernel_rfl
    have c54 : Try.prog.cellsOf 54 = 1 := by kernel_rfl
    match cs, hl4, xs, hxs with
    | [v0, v1, v2, v3], _, [y0, y1, y2, y3], _ =>
      have t0 : DataW.trod enc Try.prog W 0 (fun _ => true) true m 9 (([v0, v1, v2, v3].drop 0).take (Try.prog.cellsOf 9)) = some y0 := hf 0 _ rfl
      have t1 : DataW.trod enc Try.prog W 0 (fun _ => true) true m 33 (([v0, v1, v2, v3].drop 1).take (Try.prog.cellsOf 33)) = some y1 := hf 1 _ rfl
      have t2 : DataW.trod enc Try.prog W 0 (fun _ => true) true m 9 (([v0, v1, v2, v3].drop 2).take (Try.prog.cellsOf 9)) = some y2 := hf 2 _ rfl
      have t3 : DataW.trod enc Try.prog W 0 (fun _ => true) true m 54 (([v0, v1, v2, v3].drop 3).take (Try.prog.cellsOf 54)) = some y3 := hf 3 _ rfl
      rw [c9] at t0 t2
      rw [c33] at t1
      rw [c54] at t3
      obtain ⟨s0, e0, rfl, -⟩ := DataW.trod_string Try.underlying9 t0
      obtain ⟨A, aa, ca, e1, hA, hAw⟩ := open_ats t1
      obtain ⟨s2, e2, rfl, -⟩ := DataW.trod_string Try.underlying9 t2
      obtain ⟨g, ga, gc, e3, hG, hGw⟩ := ih m (by omega) _ _ t3
      have e0' : v0 = .string s0 := by simpa using e0
      have e1' : v1 = .slice aa A.length ca := by simpa using e1
      have e2' : v2 = .string s2 := by simpa using e2
      have e3' : v3 = .slice ga g.len gc := by simpa using e3
      subst e0' e1' e2' e3'
      obtain ⟨hfit, vs, hvs, hvn⟩ := hG.nv
      refine ⟨.cons s0.data.toList A s2.data.toList g f, .string s0 :: .slice aa A.length ca :: .string s2 :: .slice ga g.len gc :: us, by simp only [F.len, hL, List.length_cons], ?_, ⟨aa, ca, ga, gc, vs, us, rfl, ⟨hA, fun _ _ _ => trivial⟩, ⟨hfit, hvs⟩, hvn, hv⟩, fun j u hj => ?_⟩
      · simp only [F.wt, List.map_cons, List.map_nil, Rows.uptoBulkAll, Rows.uptoBulk]
        omega
      · match j, hj with
        | 0, hj => cases hj; exact hcell 0 (by decide)
        | 1, hj => cases hj; exact hcell 1 (by decide)
        | 2, hj => cases hj; exact hcell 2 (by decide)
        | 3, hj => cases hj; exact hcell 3 (by decide)
        | j + 4, hj =>
          have := hc j u hj
          rw [← this]
          congr 1
          unfold Addr.add
          rcases a with ⟨b, o, sp⟩
          simp only
          split <;> split <;> split <;> simp_all <;> omega

/-- a slice of nodes that came in is a forest -/
theorem open_nodes : ∀ (fuel : Nat) (cs : List Value) (x : DataW H × List MemPlace), DataW.trod enc Try.prog W 0 (fun _ => true) true fuel 54 cs = some x →
    ∃ (f : F) (a : Option Addr) (c : Nat), cs = [.slice a f.len c] ∧ NSl W (fun _ => True) f a c ∧ f.wt + 1 ≤ Rows.uptoBulk x.1 := by
  intro fuel
  induction fuel using Nat.strongRecOn with
  | _ fuel ih =>
    intro cs x h
    rcases DataW.trod_slice Try.underlying54 h with ⟨rfl, rfl⟩ | ⟨a, len, cap, elems, rest, n, hfn, rfl, rfl, -, hl, -, hlen, hel, -⟩
    · exact ⟨.nil, none, 0, rfl, ⟨⟨Nat.le_refl _, fun _ => ⟨rfl, rfl⟩⟩, Or.inl rfl⟩, Nat.le_refl _⟩
    · obtain ⟨f, us, hL, hw, hv, hc⟩ := open_nodes_list (enc := enc) (W := W) n a (fun m hm cs x hx => ih m (by omega) cs x hx) elems 0 (fun j y hj => by
        have hjl : j < len := by rw [← hlen]; exact (List.getElem?_eq_some_iff.1 hj).1
        have := hel j hjl
        rw [show Try.prog.cellsOf 69 = 4 by kernel_rfl, hj] at this
        rw [Nat.zero_add]
        exact this)
      refine ⟨f, some a, cap, by rw [hL, hlen], ⟨⟨by omega, fun h => (by cases h)⟩, ?_⟩, ?_⟩
      · by_cases h0 : f = .nil
        · exact Or.inl h0
        · right
          have hus := hv.len
          have hpos : 0 < f.len := Nat.pos_of_ne_zero fun h => h0 (F.len_zero h)
          obtain ⟨b, off, spot⟩ := a
          have h1 := hc 0 _ (List.getElem?_eq_getElem (by omega))
          have hspot : spot = none := by simpa [Addr.add] using World.cell?_spot h1
          subst hspot
          refine ⟨b, off, us, rfl, trivial, fun j u hj => ?_, hv⟩
          have := hc j u hj
          rw [At.add_lit, At.add_lit, Nat.zero_mul, Nat.add_zero] at this
          exact this
      · simp only [Rows.uptoBulk]
        omega
end Go.Proofs.Ytpnjjpbgbdicoaa
