/- Lists of attributes as plain lists of pairs of byte lists: the value of a name, an attribute more, whether two are the same. No program here. -/
import Derived.Test.YtndcmapifihgeaaGreatDoorProg
import Derived.WalkKit
import Derived.LoopTactic
import Derived.Below
import Derived.Lib.Hide
import Derived.Lib.AppendZeros
import Derived.Maps.AppendAt
import Derived.Laws.AppendOwnNone
import Derived.Deep.QuietTactic
import Derived.BigQuiet
import Derived.Laws.StructEq
namespace Go.Proofs.YtndcmapifihgeaaGreatDoor.At

abbrev Str := List UInt8
abbrev At := Str × Str

def at0 (L : List At) (i : Nat) : At := L.getD i ([], [])

theorem at0_zero (a : At) (r : List At) : at0 (a :: r) 0 = a := rfl
theorem at0_succ (a : At) (r : List At) (i : Nat) : at0 (a :: r) (i + 1) = at0 r i := rfl
theorem at0_get {L : List At} {i : Nat} (h : i < L.length) : L[i]? = some (at0 L i) := by
  unfold at0; rw [List.getD_eq_getElem?_getD, List.getElem?_eq_getElem h]; rfl
theorem at0_mem {L : List At} {i : Nat} (h : i < L.length) : at0 L i ∈ L := List.mem_of_getElem? (at0_get h)
theorem at0_of_mem {L : List At} {a : At} (h : a ∈ L) : ∃ i, i < L.length ∧ at0 L i = a := by
  obtain ⟨i, hi, he⟩ := List.getElem_of_mem h
  refine ⟨i, hi, ?_⟩
  have := at0_get hi
  rw [List.getElem?_eq_getElem hi, he] at this
  exact (Option.some.inj this).symm
theorem take_snoc {L : List At} {i : Nat} (h : i < L.length) : L.take (i + 1) = L.take i ++ [at0 L i] := by
  rw [List.take_succ_eq_append_getElem h]
  have := at0_get h
  rw [List.getElem?_eq_getElem h] at this
  rw [Option.some.inj this]
theorem at0_take {L : List At} {i k : Nat} (h : i < k) : at0 (L.take k) i = at0 L i := by
  unfold at0
  rw [List.getD_eq_getElem?_getD, List.getD_eq_getElem?_getD, List.getElem?_take_of_lt h]
theorem at0_left {L M : List At} {i : Nat} (h : i < L.length) : at0 (L ++ M) i = at0 L i := by
  unfold at0
  rw [List.getD_eq_getElem?_getD, List.getD_eq_getElem?_getD, List.getElem?_append_left h]
theorem ext_at {L M : List At} (hl : L.length = M.length) (h : ∀ i, i < L.length → at0 L i = at0 M i) : L = M := by
  apply List.ext_getElem? 
  intro i
  by_cases hi : i < L.length
  · rw [at0_get hi, at0_get (hl ▸ hi), h i hi]
  · rw [List.getElem?_eq_none (by omega), List.getElem?_eq_none (by omega)]

/-- the place of the first attribute of a name -/
def ix : List At → Str → Option Nat
  | [], _ => none
  | a :: r, n => if a.1 = n then some 0 else (ix r n).map (· + 1)

/-- its value -/
def get : List At → Str → Option Str
  | [], _ => none
  | a :: r, n => if a.1 = n then some a.2 else get r n

theorem ix_at : ∀ {L : List At} {n : Str} {k : Nat}, (∀ j, j < k → (at0 L j).1 ≠ n) → k < L.length → (at0 L k).1 = n → ix L n = some k
  | [], _, _, _, h, _ => absurd h (by simp)
  | a :: r, n, 0, _, _, h => by unfold ix; exact if_pos h
  | a :: r, n, k + 1, hj, hk, h => by
    have h0 : a.1 ≠ n := hj 0 (by omega)
    have ih : ix r n = some k := ix_at (fun j hjk => hj (j + 1) (by omega)) (by simpa using hk) h
    unfold ix; rw [if_neg h0, ih]; rfl
theorem ix_none : ∀ {L : List At} {n : Str}, (∀ j, j < L.length → (at0 L j).1 ≠ n) → ix L n = none
  | [], _, _ => rfl
  | a :: r, n, h => by
    have h0 : a.1 ≠ n := h 0 (by simp)
    have ih : ix r n = none := ix_none (fun j hj => h (j + 1) (by simpa using hj))
    unfold ix; rw [if_neg h0, ih]; rfl
theorem ix_some : ∀ {L : List At} {n : Str} {k : Nat}, ix L n = some k → k < L.length ∧ (at0 L k).1 = n ∧ get L n = some (at0 L k).2
  | [], _, _, h => by simp [ix] at h
  | a :: r, n, k, h => by
    unfold ix at h
    unfold get
    by_cases h0 : a.1 = n
    · rw [if_pos h0] at h ⊢
      obtain rfl := Option.some.inj h
      exact ⟨by simp, h0, rfl⟩
    · rw [if_neg h0] at h ⊢
      cases hi : ix r n with
      | none => rw [hi] at h; cases h
      | some j =>
        rw [hi] at h
        obtain rfl := Option.some.inj h
        obtain ⟨h1, h2, h3⟩ := ix_some hi
        exact ⟨by simp; omega, h2, h3⟩
theorem get_ix_none : ∀ {L : List At} {n : Str}, ix L n = none → get L n = none
  | [], _, _ => rfl
  | a :: r, n, h => by
    unfold ix at h
    unfold get
    by_cases h0 : a.1 = n
    · rw [if_pos h0] at h; cases h
    · rw [if_neg h0] at h ⊢
      cases hi : ix r n with
      | none => exact get_ix_none hi
      | some j => rw [hi] at h; cases h

def place (L : List At) (n : Str) : Int := match ix L n with | some k => (k : Int) | none => -1

theorem get_at {L : List At} {n : Str} {k : Nat} (h : ∀ j, j < k → (at0 L j).1 ≠ n) (hk : k < L.length) (he : (at0 L k).1 = n) : get L n = some (at0 L k).2 := (ix_some (ix_at h hk he)).2.2
theorem get_none {L : List At} {n : Str} (h : ∀ j, j < L.length → (at0 L j).1 ≠ n) : get L n = none := get_ix_none (ix_none h)
theorem ahead_succ {L : List At} {n : Str} {k : Nat} (h : ∀ j, j < k → (at0 L j).1 ≠ n) (hk : (at0 L k).1 ≠ n) : ∀ j, j < k + 1 → (at0 L j).1 ≠ n := by
  intro j hj
  rcases Nat.lt_or_ge j k with g | g
  · exact h j g
  · obtain rfl : j = k := by omega
    exact hk

/-- an attribute more, unless its name is there -/
def add (L : List At) (x : At) : List At := match get L x.1 with | some _ => L | none => L ++ [x]
theorem add_some {L : List At} {x : At} {v : Str} (h : get L x.1 = some v) : add L x = L := by unfold add; rw [h]
theorem add_none {L : List At} {x : At} (h : get L x.1 = none) : add L x = L ++ [x] := by unfold add; rw [h]
theorem add_len (L : List At) (x : At) : L.length ≤ (add L x).length ∧ (add L x).length ≤ L.length + 1 := by
  cases h : get L x.1 with
  | none => rw [add_none h]; simp
  | some v => rw [add_some h]; omega

/-- has a list that name with that value? -/
def has (M : List At) (a : At) : Bool := get M a.1 == some a.2
def within (L M : List At) : Bool := L.all (has M)
def same (L M : List At) : Bool := decide (L.length = M.length) && (within L M && within M L)

theorem has_none {M : List At} {a : At} (h : get M a.1 = none) : has M a = false := by unfold has; rw [h]; rfl
theorem has_some {M : List At} {a : At} {v : Str} (h : get M a.1 = some v) : has M a = (v == a.2) := by unfold has; rw [h]; rfl

theorem within_take {L M : List At} {i : Nat} (h : i < L.length) (hw : within (L.take i) M = true) (hh : has M (at0 L i) = true) : within (L.take (i + 1)) M = true := by
  unfold within at *
  rw [take_snoc h, List.all_append, hw]
  simp [hh]
theorem within_not {L M : List At} {i : Nat} (h : i < L.length) (hh : has M (at0 L i) = false) : within L M = false := by
  unfold within
  rw [List.all_eq_false]
  exact ⟨at0 L i, at0_mem h, by simp [hh]⟩
theorem within_all {L M : List At} {i : Nat} (h : i = L.length) (hw : within (L.take i) M = true) : within L M = true := by
  rw [h, List.take_length] at hw; exact hw

theorem same_len {L M : List At} (h : L.length ≠ M.length) : same L M = false := by unfold same; rw [decide_eq_false h]; rfl
theorem same_in {L M : List At} (h : L.length = M.length) : same L M = (within L M && within M L) := by unfold same; rw [decide_eq_true h]; rfl
theorem same_comm (L M : List At) : same L M = same M L := by
  unfold same
  rw [Bool.and_comm (within L M), show decide (L.length = M.length) = decide (M.length = L.length) from decide_eq_decide.2 ⟨Eq.symm, Eq.symm⟩]

end Go.Proofs.YtndcmapifihgeaaGreatDoor.At

/- Lists of attributes in memory: a slice of structs of two strings reads as a list; a row of one's own likewise. -/
namespace Go.Proofs.YtndcmapifihgeaaGreatDoor.At
open Go.RowKit Go.Lib

/-- a slice of attributes that is not nil: what its cells hold -/
def Cells (L : List At) (b off : Nat) (w : World) : Prop :=
  ∀ i, i < L.length → w.cell? ⟨b, off + i * 2, none⟩ = some (.string ⟨(at0 L i).1.toArray⟩) ∧ w.cell? ⟨b, off + i * 2 + 1, none⟩ = some (.string ⟨(at0 L i).2.toArray⟩)

/-- a slice of attributes, nil or not -/
def Sl (L : List At) (a : Option Addr) (cap : Nat) (w : World) : Prop :=
  L.length ≤ cap ∧ (a = none → L.length = 0 ∧ cap = 0) ∧ (L = [] ∨ ∃ b off, a = some ⟨b, off, none⟩ ∧ Cells L b off w)

theorem Cells.below {L : List At} {b off : Nat} {w w' : World} (h : Cells L b off w) (hb : Below w.heap.size w w') : Cells L b off w' := by
  intro i hi
  obtain ⟨h1, h2⟩ := h i hi
  have hlt : b < w.heap.size := World.block_lt_of_cell? w _ h1
  exact ⟨(World.cell?_of_block (hb.block b hlt)).trans h1, (World.cell?_of_block (hb.block b hlt)).trans h2⟩

theorem Sl.below {L : List At} {a : Option Addr} {cap : Nat} {w w' : World} (h : Sl L a cap w) (hb : Below w.heap.size w w') : Sl L a cap w' := by
  obtain ⟨h1, h2, h3 | ⟨b, off, rfl, hc⟩⟩ := h
  · exact ⟨h1, h2, Or.inl h3⟩
  · exact ⟨h1, h2, Or.inr ⟨b, off, rfl, hc.below hb⟩⟩

theorem Cells.block {L : List At} {b off : Nat} {w w' : World} (h : Cells L b off w) (hb : w'.heap[b]? = w.heap[b]?) : Cells L b off w' := by
  intro i hi
  obtain ⟨h1, h2⟩ := h i hi
  exact ⟨(World.cell?_of_block hb).trans h1, (World.cell?_of_block hb).trans h2⟩

/-- the cells of a list -/
def cellsA (L : List At) : List Value := L.flatMap fun a => [.string ⟨a.1.toArray⟩, .string ⟨a.2.toArray⟩]
theorem cellsA_nil : cellsA [] = [] := rfl
theorem cellsA_len (L : List At) : (cellsA L).length = L.length * 2 := by
  induction L with
  | nil => rfl
  | cons a r ih => unfold cellsA at *; rw [List.flatMap_cons, List.length_append, ih]; simp; omega
theorem cellsA_append (L M : List At) : cellsA (L ++ M) = cellsA L ++ cellsA M := by unfold cellsA; rw [List.flatMap_append]
theorem cellsA_at : ∀ (L : List At) (i : Nat), i < L.length → (cellsA L)[i * 2]? = some (.string ⟨(at0 L i).1.toArray⟩) ∧ (cellsA L)[i * 2 + 1]? = some (.string ⟨(at0 L i).2.toArray⟩)
  | [], _, h => absurd h (by simp)
  | a :: r, 0, _ => ⟨rfl, rfl⟩
  | a :: r, i + 1, h => by
    have ih := cellsA_at r i (by simpa using h)
    rw [show (i + 1) * 2 = i * 2 + 1 + 1 by omega]
    exact ih
theorem cellsA_one (L : List At) : ∀ u ∈ cellsA L, u.oneCell' = true := by
  intro u hu
  unfold cellsA at hu
  obtain ⟨a, _, ha⟩ := List.mem_flatMap.1 hu
  simp at ha
  rcases ha with rfl | rfl <;> rfl

theorem add_lit (b off j : Nat) : (⟨b, off, none⟩ : Addr).add j = ⟨b, off + j, none⟩ := by unfold Addr.add; split <;> simp_all

/-- the cells, one behind the other -/
theorem Cells.news {L : List At} {b off : Nat} {w : World} (h : Cells L b off w) : ∀ (j : Nat) (u : Value), (cellsA L)[j]? = some u → w.cell? ((⟨b, off, none⟩ : Addr).add j) = some u := by
  intro j u hj
  have hjl : j < L.length * 2 := by
    rcases Nat.lt_or_ge j (L.length * 2) with k | k
    · exact k
    · rw [List.getElem?_eq_none (by rw [cellsA_len]; exact k)] at hj; cases hj
  rw [add_lit]
  have hi : j / 2 < L.length := by omega
  obtain ⟨h1, h2⟩ := h (j / 2) hi
  obtain ⟨e1, e2⟩ := cellsA_at L (j / 2) hi
  rcases Nat.mod_two_eq_zero_or_one j with m | m
  · have ej : j / 2 * 2 = j := by omega
    rw [ej] at h1 e1
    rw [h1, ← e1, hj]
  · have ej : j / 2 * 2 + 1 = j := by omega
    rw [Nat.add_assoc, ej] at h2
    rw [ej] at e2
    rw [h2, ← e2, hj]

/-- a row of one's own as a slice -/
theorem sl_own {w : World} {B : Nat} {e : TypeId} {v : Value} {L : List At} (h : w.ownsRow B e 2 v L.length (cellsA L)) :
    ∃ a cap, v = .slice a L.length cap ∧ Sl L a cap w := by
  rcases h.2 with ⟨hv, h0⟩ | ⟨g, cap, cur, hv, hg, hh, hn, hm, hs, ht⟩
  · obtain rfl : L = [] := List.eq_nil_of_length_eq_zero h0
    exact ⟨none, 0, hv, Nat.le_refl _, fun _ => ⟨rfl, rfl⟩, Or.inl rfl⟩
  · refine ⟨_, cap, hv, hn, (fun h => by cases h), Or.inr ⟨g, 0, rfl, fun i hi => ?_⟩⟩
    have hc := h.cells (g := g) (by rw [hv]; rfl)
    obtain ⟨e1, e2⟩ := cellsA_at L i hi
    have h1 := hc _ _ e1
    have h2 := hc _ _ e2
    rw [add_lit] at h1 h2
    exact ⟨h1, by rw [Nat.add_assoc]; exact h2⟩

theorem grown_of_below {w w' : World} (h : Below w.heap.size w w') : w.grownBy w' none := ⟨h.os, h.tape, h.output, h.size, fun k hk _ => h.block k hk⟩

theorem ownsRow_below {w w' : World} {base : Nat} {e : TypeId} {size : Nat} {v : Value} {n : Nat} {xs : List Value} (h : w.ownsRow base e size v n xs) (hb : Below w.heap.size w w') : w'.ownsRow base e size v n xs := by
  refine h.kept (grown_of_below hb) ?_
  cases v.ownBlock with
  | none => exact Or.inl rfl
  | some g => exact Or.inr (by simp)

theorem ownsRow_base {w : World} {base B : Nat} {e : TypeId} {size : Nat} {v : Value} {n : Nat} {xs : List Value} (h : w.ownsRow base e size v n xs) (hB : B ≤ base) : w.ownsRow B e size v n xs := by
  refine ⟨h.1, ?_⟩
  rcases h.2 with hn | ⟨g, cap, cur, rfl, hb, r⟩
  · exact Or.inl hn
  · exact Or.inr ⟨g, cap, cur, rfl, by omega, r⟩

theorem below_alloc {w : World} (o : Obj) : Below w.heap.size w (w.alloc o) := (Below.refl _ w).alloc (Nat.le_refl _) _

theorem ret_bool {a b : Bool} (h : a = b) : Ending.returned (.bool a) = .returned (.bool b) := by rw [h]
end Go.Proofs.YtndcmapifihgeaaGreatDoor.At

/- The reference's Get, walked. -/
namespace Go.Proofs.YtndcmapifihgeaaGreatDoor.At
open Go.RowKit Go.Lib

/-- what Get answers -/
def resG (o : Option Str) : Value := match o with | some v => .tuple #[.string ⟨v.toArray⟩, .bool true] | none => .tuple #[.string ⟨#[]⟩, .bool false]

set_option maxHeartbeats 1000000 in
set_option maxRecDepth 100000 in
theorem rget_any (L : List At) (a : Option Addr) (cap : Nat) (n : Str) (w : World) (hs : Sl L a cap w) (hl : L.length ≤ 1000000) :
    Calls Tryz.prog 64 #[.slice a L.length cap, .string ⟨n.toArray⟩] w fun e w' => e = .returned (resG (get L n)) ∧ w = w' := by
  go_enter Tryz.func64, Tryz.ntmps64
  go_wp2
  go_loop [6] (fun v => ∃ k : Nat, v = .int .i64 k ∧ k ≤ L.length ∧ ∀ j, j < k → (at0 L j).1 ≠ n) (fun v => L.length - (RowKit.intOf v).toNat)
  case atStart => exact ⟨0, rfl, by omega, fun j hj => absurd hj (by omega)⟩
  case round =>
    obtain ⟨k, rfl, hk, hah⟩ := hrel
    have HA := Lib.hid hah
    clear hah
    by_cases hlt : k < L.length
    · obtain ⟨hcap, hnil, h0 | ⟨b, off, rfl, hc⟩⟩ := hs
      · subst h0; simp at hlt
      · obtain ⟨c1, c2⟩ := hc k hlt
        have h1 : (k : Int) < (L.length : Int) := by omega
        clear hnil hc
        cases he : ((at0 L k).1 == n)
        · have hne : (at0 L k).1 ≠ n := by simpa using he
          have HA2 := Lib.hid (ahead_succ HA.out hne)
          clear hne
          go_wp2
          go_round
          case rel => exact ⟨k + 1, by go_num, by omega, HA2.out⟩
          case measure => simp [RowKit.intOf]; omega
        · have hq : (at0 L k).1 = n := by simpa using he
          have HG := Lib.hid (get_at HA.out hlt hq)
          clear hq
          go_wp2
          go_ret2
          rw [HG.out]
          exact ⟨rfl, rfl⟩
    · have h1 : ¬ ((k : Int) < (L.length : Int)) := by omega
      have HG := Lib.hid (get_none (L := L) (n := n) fun j hj => HA.out j (by omega))
      go_wp2
      go_ret2
      rw [HG.out]
      exact ⟨rfl, rfl⟩
end Go.Proofs.YtndcmapifihgeaaGreatDoor.At

/- The program's find and Get, walked: the library's IndexFunc with the closure that holds a name against another one. -/
namespace Go.Proofs.YtndcmapifihgeaaGreatDoor.At
open Go.RowKit Go.Lib

end Go.Proofs.YtndcmapifihgeaaGreatDoor.At

/- within, Same and the reference's Same, walked. -/
namespace Go.Proofs.YtndcmapifihgeaaGreatDoor.At
open Go.RowKit Go.Lib

theorem resG_none {o : Option Str} (h : o = none) : resG o = .tuple #[.string ⟨#[]⟩, .bool false] := by rw [h]; rfl
theorem resG_some {o : Option Str} {v : Str} (h : o = some v) : resG o = .tuple #[.string ⟨v.toArray⟩, .bool true] := by rw [h]; rfl

/-- a struct of two cells in a block of its own, behind a call -/
theorem two_kept {w w2 : World} {x y : Value} {t : TypeId} (hb : Below (w.alloc (.cells #[x, y] t)).heap.size (w.alloc (.cells #[x, y] t)) w2) :
    w2.cell? ⟨w.heap.size, 0, none⟩ = some x ∧ w2.cell? ⟨w.heap.size, 1, none⟩ = some y := by
  have hlt : w.heap.size < (w.alloc (.cells #[x, y] t)).heap.size := by simp
  exact ⟨(World.cell?_of_block (hb.block _ hlt)).trans (by simp), (World.cell?_of_block (hb.block _ hlt)).trans (by simp)⟩

end Go.Proofs.YtndcmapifihgeaaGreatDoor.At

/- The reference's Same, walked. -/
namespace Go.Proofs.YtndcmapifihgeaaGreatDoor.At
open Go.RowKit Go.Lib

theorem resG_pair (o : Option Str) : resG o = .tuple #[.string ⟨(o.getD []).toArray⟩, .bool o.isSome] := by cases o <;> rfl
theorem has_pair (M : List At) (x1 x2 : Str) : has M (x1, x2) = ((get M x1).isSome && ((get M x1).getD [] == x2)) := by
  unfold has
  cases get M x1 <;> rfl

/-- as far as one has looked, all is there -/
def Both (L M : List At) (k : Nat) : Prop := within (L.take k) M = true ∧ within (M.take k) L = true

theorem both_end {L M : List At} {k : Nat} (hq : L.length = M.length) (hk : ¬ k < L.length) (h : Both L M k) : same L M = true := by
  rw [same_in hq]
  have h1 : L.take k = L := List.take_of_length_le (by omega)
  have h2 : M.take k = M := List.take_of_length_le (by omega)
  unfold Both at h
  rw [h1, h2] at h
  rw [h.1, h.2]; rfl
theorem both_not1 {L M : List At} {k : Nat} (hq : L.length = M.length) (hk : k < L.length) (h : has M (at0 L k) = false) : same L M = false := by
  rw [same_in hq, within_not hk h]; rfl
theorem both_not2 {L M : List At} {k : Nat} (hq : L.length = M.length) (hk : k < L.length) (h : has L (at0 M k) = false) : same L M = false := by
  rw [same_in hq, within_not (L := M) (by omega) h, Bool.and_false]
theorem both_succ {L M : List At} {k : Nat} (hq : L.length = M.length) (hk : k < L.length) (h : Both L M k) (h1 : has M (at0 L k) = true) (h2 : has L (at0 M k) = true) : Both L M (k + 1) :=
  ⟨within_take hk h.1 h1, within_take (by omega) h.2 h2⟩

end Go.Proofs.YtndcmapifihgeaaGreatDoor.At

/- Appends of attributes behind a row of one's own, and what Of, To and both Add make. -/
namespace Go.Proofs.YtndcmapifihgeaaGreatDoor.At
open Go.RowKit Go.Lib

/-- a slice type whose elements are structs of two strings -/
structure Elem (t e : TypeId) : Prop where
  ht : Tryz.prog.underlying t = some (.slice e)
  info : ∃ j, Tryz.prog.info? e = some j ∧ (j.zero, j.size, j.bytes) = (some (.agg #[.string ByteArray.empty, .string ByteArray.empty]), 2, 32)

theorem elem22 : Elem 29 69 := ⟨Tryz.underlying29, Option.map_eq_some_iff.1 (by kernel_rfl : (Tryz.prog.info? 69).map (fun i => (i.zero, i.size, i.bytes)) = some (some (.agg #[.string ByteArray.empty, .string ByteArray.empty]), 2, 32))⟩
theorem elem26 : Elem 24 75 := ⟨Tryz.underlying24, Option.map_eq_some_iff.1 (by kernel_rfl : (Tryz.prog.info? 75).map (fun i => (i.zero, i.size, i.bytes)) = some (some (.agg #[.string ByteArray.empty, .string ByteArray.empty]), 2, 32))⟩

/-- a slice behind a row of one's own -/
theorem app_sl {t e : TypeId} (E : Elem t e) (w : World) (B : Nat) (v : Value) (L M : List At) (a : Option Addr) (cap : Nat) (hown : w.ownsRow B e 2 v L.length (cellsA L)) (hs : Sl M a cap w) (hl : L.length + M.length ≤ 1000000) (hB : B ≤ w.heap.size) :
    ∃ v' w', (Builtin.append_ #[t, t] t #[v, .slice a M.length cap]).run Tryz.prog w = .ok v' w' ∧ w'.ownsRow B e 2 v' (L ++ M).length (cellsA (L ++ M)) ∧ w.grownBy w' v.ownBlock ∧ (v'.ownBlock = v.ownBlock ∨ v'.ownBlock = some w.heap.size) := by
  obtain ⟨i, hi, hp⟩ := E.info
  simp only [Prod.mk.injEq] at hp
  obtain ⟨hz, hsz, hby⟩ := hp
  rw [List.length_append, cellsA_append]
  cases a with
  | none =>
    obtain ⟨h0, rfl⟩ := hs.2.1 rfl
    obtain rfl : M = [] := List.eq_nil_of_length_eq_zero h0
    have hr := run_append_owned_none (P := Tryz.prog) (w := w) B t t e i 2 E.ht hi v L.length (cellsA L) hown
    refine ⟨v, w, hr, ?_, ⟨rfl, rfl, rfl, Nat.le_refl _, fun _ _ _ => rfl⟩, Or.inl rfl⟩
    rw [cellsA_nil, List.append_nil]
    exact hown
  | some ad =>
    have hc : ∀ (j : Nat) (u : Value), (cellsA M)[j]? = some u → w.cell? (ad.add j) = some u := by
      obtain ⟨-, -, h2 | ⟨b, off, hb, hc⟩⟩ := hs
      · intro j u hj; subst h2; simp [cellsA] at hj
      · cases hb
        exact hc.news
    obtain ⟨v', w', hr, h1, h2, -, h4⟩ := run_append_own_at (P := Tryz.prog) w B t t e i _ 2 32 E.ht hi hz hsz hby rfl (by decide) v L.length (cellsA L) hown ad M.length cap (cellsA M) (cellsA_len M) hc (cellsA_one M) (by unfold maxLen; omega) (by omega) hB
    exact ⟨v', w', hr, h1, h2, h4⟩

theorem sl_one (w : World) (x : At) (e : TypeId) (g : Nat) (hg : g = w.heap.size) : Sl [x] (some ⟨g, 0, none⟩) 1 (w.alloc (.cells #[.string ⟨x.1.toArray⟩, .string ⟨x.2.toArray⟩] e)) := by
  subst hg
  refine ⟨by simp, (fun h => by cases h), Or.inr ⟨_, 0, rfl, ?_⟩⟩
  intro i hi
  obtain rfl : i = 0 := by simp at hi; omega
  exact ⟨by simp [at0], by simp [at0]⟩

/-- one attribute behind a row of one's own: it is laid in a block first -/
theorem app_one {t e : TypeId} (E : Elem t e) (w : World) (B : Nat) (v : Value) (L : List At) (x : At) (g : Nat) (hg : g = w.heap.size) (hown : w.ownsRow B e 2 v L.length (cellsA L)) (hl : L.length + 1 ≤ 1000000) (hB : B ≤ w.heap.size) :
    ∃ v' w', (Builtin.append_ #[t, t] t #[v, .slice (some ⟨g, 0, none⟩) 1 1]).run Tryz.prog (w.alloc (.cells #[.string ⟨x.1.toArray⟩, .string ⟨x.2.toArray⟩] e)) = .ok v' w' ∧
      w'.ownsRow B e 2 v' (L ++ [x]).length (cellsA (L ++ [x])) ∧ w.grownBy w' v.ownBlock ∧ (v'.ownBlock = v.ownBlock ∨ v'.ownBlock = some (w.heap.size + 1)) := by
  obtain ⟨v', w', h1, h2, h3, h4⟩ := app_sl E _ B v L [x] (some ⟨g, 0, none⟩) 1 (hown.alloc (.cells #[.string ⟨x.1.toArray⟩, .string ⟨x.2.toArray⟩] e)) (sl_one w x e g hg) (by simpa using hl) (by simp; omega)
  refine ⟨v', w', h1, h2, (World.grownBy_alloc w _ v.ownBlock).trans h3, ?_⟩
  simpa using h4

set_option maxHeartbeats 2000000 in
set_option maxRecDepth 100000 in
theorem to_any (L : List At) (a : Option Addr) (cap : Nat) (w : World) (hs : Sl L a cap w) (hl : L.length ≤ 100000) :
    Calls Tryz.prog 24 #[.slice a L.length cap] w fun e w' => ∃ v, e = .returned v ∧ w'.ownsRow w.heap.size 69 2 v L.length (cellsA L) ∧ Below w.heap.size w w' := by
  go_enter Tryz.func24, Tryz.ntmps24
  go_wp2
  go_loopw [3, 8] (fun o v wr => ∃ k : Nat, v = .int .i64 k ∧ k ≤ L.length ∧ wr.ownsRow w.heap.size 69 2 o (L.take k).length (cellsA (L.take k)) ∧ Below w.heap.size w wr) (fun _ v _ => L.length - (RowKit.intOf v).toNat)
  case atStart => exact ⟨0, rfl, by omega, World.ownsRow_nil _ _ _ _, Below.refl _ _⟩
  case round =>
    obtain ⟨k, rfl, hk, hown, hbw⟩ := hrel
    by_cases hlt : k < L.length
    · obtain ⟨hcap, hnil, h0 | ⟨b, off, rfl, hc⟩⟩ := hs.below hbw
      · subst h0; simp at hlt
      · obtain ⟨c1, c2⟩ := hc k hlt
        have h1 : (k : Int) < (L.length : Int) := by omega
        have HT := Lib.hid (take_snoc hlt)
        obtain ⟨⟨x1, x2⟩, hx⟩ : ∃ x, at0 L k = x := ⟨_, rfl⟩
        rw [hx] at c1 c2 HT
        simp only at c1 c2
        have hsz := hbw.size
        have hA : Below wr.heap.size wr (wr.alloc (.cells #[.string ⟨x1.toArray⟩, .string ⟨x2.toArray⟩] 75)) := below_alloc _
        obtain ⟨v', w3, hr, hown3, hgr, -⟩ := app_one elem22 (wr.alloc (.cells #[.string ⟨x1.toArray⟩, .string ⟨x2.toArray⟩] 75)) w.heap.size _ (L.take k) (x1, x2) (wr.heap.size + 1) (by simp) (hown.alloc _) (by simp; omega) (by simp; omega)
        have HR := Lib.hid hr
        have HO := Lib.hid hown3
        have HB := Lib.hid ((hbw.trans (hA.mono hbw.size)).grown hgr (by simp; omega) (fun g hg => (hown.lt g hg).1))
        clear hx hc hnil hr hown3 hgr hA hown hbw
        go_wp2_with (at_builtin; refine Lib.wpList_append_run _ rfl (.tmp 12) (.tmp 14) 29 29 rfl _ _ rfl rfl v' w3 HR.out ?_)
        go_roundw
        case rel => exact ⟨k + 1, by go_num, by omega, by rw [HT.out]; exact HO.out, HB.out⟩
        case measure => simp [RowKit.intOf]; omega
    · have h1 : ¬ ((k : Int) < (L.length : Int)) := by omega
      have h2 : L.take k = L := List.take_of_length_le (by omega)
      rw [h2] at hown
      have HO := Lib.hid hown
      have HB := Lib.hid hbw
      clear hown hbw h2
      go_wp2
      go_ret
      exact ⟨_, rfl, HO.out, HB.out⟩
end Go.Proofs.YtndcmapifihgeaaGreatDoor.At

/- The program's Add and the reference's, walked. -/
namespace Go.Proofs.YtndcmapifihgeaaGreatDoor.At
open Go.RowKit Go.Lib

theorem below_grown {B : Nat} {w w1 w2 : World} {r : Option Nat} (h : Below B w w1) (hg : w1.grownBy w2 r) (hB : B ≤ w.heap.size) (hr : ∀ k, r = some k → B ≤ k) : Below B w w2 := h.grown hg (by have := h.size; omega) hr

theorem cell_two (w : World) (x y : Value) (t : TypeId) : (w.alloc (.cells #[x, y] t)).cell? ⟨w.heap.size, 0, none⟩ = some x ∧ (w.alloc (.cells #[x, y] t)).cell? ⟨w.heap.size, 1, none⟩ = some y := ⟨by simp, by simp⟩

set_option maxHeartbeats 4000000 in
set_option maxRecDepth 100000 in
theorem radd_any (L : List At) (a : Option Addr) (cap : Nat) (x : At) (w : World) (hs : Sl L a cap w) (hl : L.length ≤ 100000) :
    Calls Tryz.prog 41 #[.slice a L.length cap, .agg #[.string ⟨x.1.toArray⟩, .string ⟨x.2.toArray⟩]] w fun e w' => ∃ v, e = .returned v ∧ w'.ownsRow w.heap.size 69 2 v (add L x).length (cellsA (add L x)) ∧ Below w.heap.size w w' := by
  obtain ⟨x1, x2⟩ := x
  simp only
  have hbA : Below w.heap.size w (w.alloc (.cells #[.string ⟨x1.toArray⟩, .string ⟨x2.toArray⟩] 69)) := below_alloc _
  have hsA := hs.below hbA
  have hb2 : Below (w.alloc (.cells #[.string ⟨x1.toArray⟩, .string ⟨x2.toArray⟩] 69)).heap.size (w.alloc (.cells #[.string ⟨x1.toArray⟩, .string ⟨x2.toArray⟩] 69)) ((w.alloc (.cells #[.string ⟨x1.toArray⟩, .string ⟨x2.toArray⟩] 69)).alloc (.cells #[] 69)) := below_alloc _
  have own2 : ((w.alloc (.cells #[.string ⟨x1.toArray⟩, .string ⟨x2.toArray⟩] 69)).alloc (.cells #[] 69)).ownsRow (w.heap.size + 1) 69 2 (.slice (some ⟨w.heap.size + 1, 0, none⟩) 0 0) ([] : List At).length (cellsA []) := by
    have := World.ownsRow_made (base := w.heap.size + 1) (e := 69) (size := 2) (w.alloc (.cells #[.string ⟨x1.toArray⟩, .string ⟨x2.toArray⟩] 69)) #[] 0 (by simp) (by simp) (by simp)
    simpa [cellsA] using this
  have hz2 : w.heap.size + 1 ≤ ((w.alloc (.cells #[.string ⟨x1.toArray⟩, .string ⟨x2.toArray⟩] 69)).alloc (.cells #[] 69)).heap.size := by have := hb2.size; simp
  obtain ⟨v3, W3, hr3, own3, gr3, -⟩ := app_sl elem22 _ (w.heap.size + 1) _ [] L a cap own2 (hsA.below hb2) (by simp; omega) hz2
  rw [List.nil_append] at own3
  have hb3 : Below (w.alloc (.cells #[.string ⟨x1.toArray⟩, .string ⟨x2.toArray⟩] 69)).heap.size (w.alloc (.cells #[.string ⟨x1.toArray⟩, .string ⟨x2.toArray⟩] 69)) W3 :=
    below_grown hb2 gr3 (Nat.le_refl _) (fun k hk => by have := (own2.lt k hk).1; simpa using this)
  obtain ⟨d1, d2⟩ := two_kept hb3
  have cF := rget_any L a cap x1 W3 (hsA.below hb3) (by omega)
  have HR3 := Lib.hid hr3
  have hbW : Below w.heap.size w W3 := hbA.trans (hb3.mono (by simp))
  have hz3 : w.heap.size + 1 ≤ W3.heap.size := by have := hb3.size; simpa using this
  clear own2 hr3 gr3 hb2 hsA hs hz2 hb3 hbA
  cases hg : get L x1 with
  | none =>
    have HG := Lib.hid (add_none (x := (x1, x2)) hg)
    rw [resG_none hg] at cF
    clear hg
    obtain ⟨v5, W5, hr5, own5, gr5, -⟩ := app_one elem22 W3 (w.heap.size + 1) v3 L (x1, x2) W3.heap.size rfl own3 (by omega) hz3
    have HR5 := Lib.hid hr5
    have HO := Lib.hid (ownsRow_base own5 (B := w.heap.size) (by omega))
    have HB := Lib.hid (below_grown hbW gr5 (Nat.le_refl _) (fun k hk => by have := (own3.lt k hk).1; omega))
    clear hr5 own5 gr5 own3 hbW
    go_enter Tryz.func41, Tryz.ntmps41
    go_wp2_with (at_builtin; refine Lib.wpList_append_run _ rfl (.tmp 8) (.tmp 9) 29 29 rfl _ _ rfl rfl v3 W3 HR3.out ?_)
    refine cF.mono ?_
    rintro e W4 ⟨rfl, rfl⟩
    go_wp2_with (at_builtin; refine Lib.wpList_append_run _ rfl (.tmp 20) (.tmp 22) 29 29 rfl _ _ rfl rfl v5 W5 HR5.out ?_)
    go_ret
    rw [HG.out]
    exact ⟨_, rfl, HO.out, HB.out⟩
  | some u =>
    have HG := Lib.hid (add_some (x := (x1, x2)) hg)
    rw [resG_some hg] at cF
    clear hg
    have HO := Lib.hid (ownsRow_base own3 (B := w.heap.size) (by omega))
    have HB := Lib.hid hbW
    clear own3 hbW
    go_enter Tryz.func41, Tryz.ntmps41
    go_wp2_with (at_builtin; refine Lib.wpList_append_run _ rfl (.tmp 8) (.tmp 9) 29 29 rfl _ _ rfl rfl v3 W3 HR3.out ?_)
    refine cF.mono ?_
    rintro e W4 ⟨rfl, rfl⟩
    go_wp2
    go_ret
    rw [HG.out]
    exact ⟨_, rfl, HO.out, HB.out⟩
end Go.Proofs.YtndcmapifihgeaaGreatDoor.At

/- The reference's Alike, walked. -/
namespace Go.Proofs.YtndcmapifihgeaaGreatDoor.At
open Go.RowKit Go.Lib

def alike (L M : List At) : Bool := decide (L = M)

/-- as far as one has looked they are the same -/
def Front (L M : List At) (k : Nat) : Prop := ∀ j, j < k → at0 L j = at0 M j

theorem front_succ {L M : List At} {k : Nat} (h : Front L M k) (he : at0 L k = at0 M k) : Front L M (k + 1) := by
  intro j hj
  rcases Nat.lt_or_ge j k with g | g
  · exact h j g
  · obtain rfl : j = k := by omega
    exact he
theorem alike_not {L M : List At} {k : Nat} (h : at0 L k ≠ at0 M k) : alike L M = false := decide_eq_false (fun e => h (by rw [e]))
theorem alike_yes {L M : List At} (hq : L.length = M.length) (h : ∀ j, j < L.length → at0 L j = at0 M j) : alike L M = true := decide_eq_true (ext_at hq h)

theorem below_drewN {B : Nat} {w w' : World} (h : Below B w w') (n : Nat) : Below B w (w'.drewN n) := ⟨h.os, h.tape, h.output, h.size, h.block⟩

theorem eq24 (x1 x2 y1 y2 : Str) (w : World) : (Op.equalIn 10000 69 (.agg #[.string ⟨x1.toArray⟩, .string ⟨x2.toArray⟩]) (.agg #[.string ⟨y1.toArray⟩, .string ⟨y2.toArray⟩])).run Tryz.prog w = .ok (decide ((x1, x2) = (y1, y2))) w := by
  have hS : Tryz.prog.underlying 69 = some (.struct (Tryz.prog.fieldsOf 69)) := by kernel_rfl
  have hp : Tryz.prog.stoodInHeld 69 = false := by kernel_rfl
  have u9 := Tryz.underlying9
  have a9 := Tryz.isAgg9
  have z9 := Tryz.sizeOf9
  rw [show (10000 : Nat) = 9999 + 1 from rfl, run_equalIn_agg w 9999 69 _ _ hS hp]
  simp only [Program.fieldsOf, Tryz.underlying69]
  go_simp
  by_cases h1 : x1 = y1 <;> by_cases h2 : x2 = y2 <;> simp [h1, h2]

set_option maxHeartbeats 4000000 in
set_option maxRecDepth 100000 in
theorem alike_in (L : List At) (b off cap : Nat) (M : List At) (b2 off2 cap2 : Nat) (w : World) (hc : Cells L b off w) (hc2 : Cells M b2 off2 w) (hl : L.length ≤ 1000000) (hq : L.length = M.length) :
    Calls Tryz.prog 23 #[.slice (some ⟨b, off, none⟩) L.length cap, .slice (some ⟨b2, off2, none⟩) M.length cap2] w fun e w' => e = .returned (.bool (alike L M)) ∧ Below w.heap.size w w' := by
  have e1 : ((L.length : Int) != (M.length : Int)) = false := by simp [hq]
  have HQ := Lib.hid hq
  clear hq
  go_enter Tryz.func23, Tryz.ntmps23
  go_wp2
  go_loopw [5] (fun v wr => ∃ k : Nat, v = .int .i64 k ∧ k ≤ L.length ∧ Front L M k ∧ Below w.heap.size w wr) (fun v _ => L.length - (RowKit.intOf v).toNat)
  case atStart => exact ⟨0, rfl, by omega, fun j hj => absurd hj (by omega), Below.refl _ _⟩
  case round =>
    obtain ⟨k, rfl, hk, hah, hbw⟩ := hrel
    have HA := Lib.hid hah
    have HB := Lib.hid hbw
    have hc' := hc.below hbw
    have hc2' := hc2.below hbw
    clear hah e1 hbw hc hc2
    by_cases hlt : k < L.length
    · obtain ⟨c1, c2⟩ := hc' k hlt
      have hlt2 : k < M.length := by have := HQ.out; omega
      obtain ⟨d1, d2⟩ := hc2' k hlt2
      have h1 : (k : Int) < (L.length : Int) := by omega
      have h2 : (k : Int) < (M.length : Int) := by omega
      obtain ⟨⟨x1, x2⟩, hx⟩ : ∃ x, at0 L k = x := ⟨_, rfl⟩
      obtain ⟨⟨y1, y2⟩, hy⟩ : ∃ x, at0 M k = x := ⟨_, rfl⟩
      rw [hx] at c1 c2
      rw [hy] at d1 d2
      simp only at c1 c2 d1 d2
      have HX := Lib.hid hx
      have HY := Lib.hid hy
      clear hx hy hc' hc2'
      have hE := eq24 x1 x2 y1 y2
      have hm : Tryz.prog.eqGuardType Tryz.prog.depth 69 = false := by kernel_rfl
      by_cases he : (x1, x2) = (y1, y2)
      · rw [decide_eq_true he] at hE
        have HF := Lib.hid (front_succ HA.out (by rw [HX.out, HY.out, he]))
        clear he HX HY HA
        go_wp2
        go_quiet (fail)
        go_wp2
        go_roundw
        case rel => exact ⟨k + 1, by go_num, by omega, HF.out, below_drewN HB.out _⟩
        case measure => simp [RowKit.intOf]; omega
      · rw [decide_eq_false he] at hE
        have HN := Lib.hid (alike_not (L := L) (M := M) (k := k) (by rw [HX.out, HY.out]; exact he))
        clear he HX HY HA
        go_wp2
        go_quiet (fail)
        go_wp2
        go_ret
        exact ⟨ret_bool HN.out.symm, below_drewN HB.out _⟩
    · have h1 : ¬ ((k : Int) < (L.length : Int)) := by omega
      have HN := Lib.hid (alike_yes HQ.out (fun j hj => HA.out j (by omega)))
      go_wp2
      go_ret
      exact ⟨ret_bool HN.out.symm, HB.out⟩

set_option maxHeartbeats 2000000 in
set_option maxRecDepth 100000 in
theorem alike_nil (a : Option Addr) (cap : Nat) (a2 : Option Addr) (cap2 : Nat) (w : World) :
    Calls Tryz.prog 23 #[.slice a 0 cap, .slice a2 0 cap2] w fun e w' => e = .returned (.bool true) ∧ Below w.heap.size w w' := by
  go_enter Tryz.func23, Tryz.ntmps23
  go_wp2
  go_loop [5] (fun v => v = .int .i64 0) (fun _ => 0)
  case atStart => rfl
  case round =>
    subst hrel
    go_wp2
    go_ret
    exact ⟨rfl, Below.refl _ _⟩

set_option maxHeartbeats 2000000 in
set_option maxRecDepth 100000 in
theorem alike_any (L : List At) (a : Option Addr) (cap : Nat) (M : List At) (a2 : Option Addr) (cap2 : Nat) (w : World) (hs : Sl L a cap w) (hs2 : Sl M a2 cap2 w) (hl : L.length ≤ 1000000) :
    Calls Tryz.prog 23 #[.slice a L.length cap, .slice a2 M.length cap2] w fun e w' => e = .returned (.bool (alike L M)) ∧ Below w.heap.size w w' := by
  by_cases hq : L.length = M.length
  · obtain ⟨hcap, -, h0 | ⟨b, off, rfl, hc⟩⟩ := hs
    · subst h0
      obtain rfl : M = [] := List.eq_nil_of_length_eq_zero hq.symm
      exact alike_nil a cap a2 cap2 w
    · obtain ⟨hcap2, -, h0 | ⟨b2, off2, rfl, hc2⟩⟩ := hs2
      · subst h0
        obtain rfl : L = [] := List.eq_nil_of_length_eq_zero hq
        exact alike_nil _ cap a2 cap2 w
      · exact alike_in L b off cap M b2 off2 cap2 w hc hc2 hl hq
  · rw [show alike L M = false from decide_eq_false (fun h => hq (by rw [h]))]
    have h1 : ((L.length : Int) != (M.length : Int)) = true := by simp; omega
    clear hq
    go_enter Tryz.func23, Tryz.ntmps23
    go_wp2
    go_ret
    exact ⟨rfl, Below.refl _ _⟩
end Go.Proofs.YtndcmapifihgeaaGreatDoor.At

/- The chapter's example, walked. -/
namespace Go.Proofs.YtndcmapifihgeaaGreatDoor.At
open Go.RowKit Go.Lib

def exA : List At := [([97], [49]), ([98], [50])]
def exB : List At := [([98], [50]), ([97], [49])]

/-- a block that holds just a list's cells -/
theorem sl_block {w : World} {g : Nat} {L : List At} {t : TypeId} {f : Nat × Nat} (h : w.heap[g]? = some (.cells (cellsA L).toArray t f)) : Sl L (some ⟨g, 0, none⟩) L.length w := by
  refine ⟨Nat.le_refl _, (fun h => by cases h), Or.inr ⟨g, 0, rfl, fun i hi => ?_⟩⟩
  obtain ⟨e1, e2⟩ := cellsA_at L i hi
  have k1 := cell_of_row w g (i * 2) _ t f h
  have k2 := cell_of_row w g (i * 2 + 1) _ t f h
  refine ⟨?_, ?_⟩
  · rw [Nat.zero_add, k1]; simpa using e1
  · rw [Nat.zero_add, k2]; simpa using e2

theorem ex_world (w : World) : Sl exA (some ⟨w.heap.size, 0, none⟩) 2 ((w.alloc (.cells (cellsA exA).toArray 75)).alloc (.cells (cellsA exB).toArray 75)) ∧
    Sl exB (some ⟨w.heap.size + 1, 0, none⟩) 2 ((w.alloc (.cells (cellsA exA).toArray 75)).alloc (.cells (cellsA exB).toArray 75)) ∧
    Below w.heap.size w ((w.alloc (.cells (cellsA exA).toArray 75)).alloc (.cells (cellsA exB).toArray 75)) := by
  have hA : (w.alloc (.cells (cellsA exA).toArray 75)).heap[w.heap.size]? = some (.cells (cellsA exA).toArray 75) := heap_alloc_new w _
  have hB : ((w.alloc (.cells (cellsA exA).toArray 75)).alloc (.cells (cellsA exB).toArray 75)).heap[(w.alloc (.cells (cellsA exA).toArray 75)).heap.size]? = some (.cells (cellsA exB).toArray 75) := heap_alloc_new _ _
  have hz : (w.alloc (.cells (cellsA exA).toArray 75)).heap.size = w.heap.size + 1 := by simp
  rw [hz] at hB
  have hb1 : Below w.heap.size w (w.alloc (.cells (cellsA exA).toArray 75)) := below_alloc _
  have hb2 : Below (w.alloc (.cells (cellsA exA).toArray 75)).heap.size (w.alloc (.cells (cellsA exA).toArray 75)) ((w.alloc (.cells (cellsA exA).toArray 75)).alloc (.cells (cellsA exB).toArray 75)) := below_alloc _
  exact ⟨(sl_block hA).below hb2, sl_block hB, hb1.trans (hb2.mono hb1.size)⟩

theorem len_int {n : Nat} (h : n = 3) : ((n : Int) == 3) = true := by subst h; rfl

end Go.Proofs.YtndcmapifihgeaaGreatDoor.At

/- The law AttrGets, walked. -/
namespace Go.Proofs.YtndcmapifihgeaaGreatDoor.At
open Go.RowKit Go.Lib

theorem get_hit {a : At} {r : List At} {n : Str} (h : a.1 = n) : get (a :: r) n = some a.2 := if_pos h
theorem get_miss {a : At} {r : List At} {n : Str} (h : a.1 ≠ n) : get (a :: r) n = get r n := if_neg h
theorem get_append : ∀ (L M : List At) (n : Str), get (L ++ M) n = (match get L n with | some v => some v | none => get M n)
  | [], _, _ => rfl
  | a :: r, M, n => by
    rw [List.cons_append]
    by_cases h : a.1 = n
    · rw [get_hit h, get_hit h]
    · rw [get_miss h, get_miss h]; exact get_append r M n
theorem get_add_some {L : List At} {x : At} {u : Str} (h : get L x.1 = some u) : get (add L x) x.1 = some u := by rw [add_some h, h]
theorem get_add_none {L : List At} {x : At} (h : get L x.1 = none) : get (add L x) x.1 = some x.2 := by
  rw [add_none h, get_append, h]
  show get [x] x.1 = _
  unfold get
  rw [if_pos rfl]
theorem get_add_other {L : List At} {x : At} {n : Str} (h : x.1 ≠ n) : get (add L x) n = get L n := by
  cases hg : get L x.1 with
  | some u => rw [add_some hg]
  | none =>
    rw [add_none hg, get_append]
    cases get L n with
    | some v => rfl
    | none =>
      show get [x] n = none
      unfold get
      rw [if_neg h]
      rfl

/-- what the boxed attribute holds, in a later world -/
theorem box_at {w w2 : World} {x y : Value} {t : TypeId} (hb : Below (w.alloc (.cells #[x, y] t)).heap.size (w.alloc (.cells #[x, y] t)) w2) :
    w2.cell? ⟨w.heap.size, 0, none⟩ = some x ∧ w2.cell? ⟨w.heap.size, 1, none⟩ = some y := two_kept hb

theorem below_trans {w w1 w2 : World} (h : Below w.heap.size w w1) (h2 : Below w1.heap.size w1 w2) : Below w.heap.size w w2 := h.trans (h2.mono h.size)

end Go.Proofs.YtndcmapifihgeaaGreatDoor.At
