/- The kinds of a name: the program's ten switches over strings, walked by one lemma a switch: each adds its bit just where the name is one of its words. -/
import Derived.Test.YtjdnhlmepceckaaProg
import Derived.WalkKit
import Derived.Below
import Derived.KernelRfl
namespace Go.Proofs.Ytjdnhlmepceckaa
open Go.RowKit

def w0 : List (List UInt8) := [[97, 114, 101, 97], [98, 97, 115, 101], [98, 97, 115, 101, 102, 111, 110, 116], [98, 103, 115, 111, 117, 110, 100], [98, 114], [101, 109, 98, 101, 100], [104, 114], [105, 109, 103], [105, 110, 112, 117, 116], [107, 101, 121, 103, 101, 110], [108, 105, 110, 107], [109, 101, 116, 97], [112, 97, 114, 97, 109], [115, 111, 117, 114, 99, 101], [116, 114, 97, 99, 107], [119, 98, 114]]
def w1 : List (List UInt8) := [[97, 100, 100, 114, 101, 115, 115], [97, 114, 116, 105, 99, 108, 101], [97, 115, 105, 100, 101], [98, 108, 111, 99, 107, 113, 117, 111, 116, 101], [99, 101, 110, 116, 101, 114], [100, 100], [100, 101, 116, 97, 105, 108, 115], [100, 105, 97, 108, 111, 103], [100, 105, 114], [100, 105, 118], [100, 108], [100, 116], [102, 105, 101, 108, 100, 115, 101, 116], [102, 105, 103, 99, 97, 112, 116, 105, 111, 110], [102, 105, 103, 117, 114, 101], [102, 111, 111, 116, 101, 114], [102, 111, 114, 109], [104, 49], [104, 50], [104, 51], [104, 52], [104, 53], [104, 54], [104, 101, 97, 100, 101, 114], [104, 103, 114, 111, 117, 112], [104, 114], [108, 105], [108, 105, 115, 116, 105, 110, 103], [109, 97, 105, 110], [109, 101, 110, 117], [110, 97, 118], [111, 108], [112], [112, 108, 97, 105, 110, 116, 101, 120, 116], [112, 114, 101], [115, 101, 99, 116, 105, 111, 110], [115, 117, 109, 109, 97, 114, 121], [116, 97, 98, 108, 101], [117, 108], [120, 109, 112]]
def w2 : List (List UInt8) := [[104, 49], [104, 50], [104, 51], [104, 52], [104, 53], [104, 54]]
def w3 : List (List UInt8) := [[97], [98], [98, 105, 103], [99, 111, 100, 101], [101, 109], [102, 111, 110, 116], [105], [110, 111, 98, 114], [115], [115, 109, 97, 108, 108], [115, 116, 114, 105, 107, 101], [115, 116, 114, 111, 110, 103], [116, 116], [117]]
def w4 : List (List UInt8) := [[97, 100, 100, 114, 101, 115, 115], [97, 112, 112, 108, 101, 116], [97, 114, 101, 97], [97, 114, 116, 105, 99, 108, 101], [97, 115, 105, 100, 101], [98, 97, 115, 101], [98, 97, 115, 101, 102, 111, 110, 116], [98, 103, 115, 111, 117, 110, 100], [98, 108, 111, 99, 107, 113, 117, 111, 116, 101], [98, 114], [98, 117, 116, 116, 111, 110], [99, 101, 110, 116, 101, 114], [100, 100], [100, 101, 116, 97, 105, 108, 115], [100, 105, 114], [100, 105, 118], [100, 108], [100, 116], [101, 109, 98, 101, 100], [102, 105, 101, 108, 100, 115, 101, 116], [102, 105, 103, 99, 97, 112, 116, 105, 111, 110], [102, 105, 103, 117, 114, 101], [102, 111, 111, 116, 101, 114], [102, 111, 114, 109], [104, 49], [104, 50], [104, 51], [104, 52], [104, 53], [104, 54], [104, 101, 97, 100, 101, 114], [104, 103, 114, 111, 117, 112], [104, 114], [105, 102, 114, 97, 109, 101], [105, 109, 103], [105, 110, 112, 117, 116], [107, 101, 121, 103, 101, 110], [108, 105], [108, 105, 110, 107], [108, 105, 115, 116, 105, 110, 103], [109, 97, 105, 110], [109, 97, 114, 113, 117, 101, 101], [109, 101, 110, 117], [109, 101, 116, 97], [110, 97, 118], [110, 111, 101, 109, 98, 101, 100], [110, 111, 102, 114, 97, 109, 101, 115], [111, 98, 106, 101, 99, 116], [111, 108], [112], [112, 97, 114, 97, 109], [112, 108, 97, 105, 110, 116, 101, 120, 116], [112, 114, 101], [115, 99, 114, 105, 112, 116], [115, 101, 99, 116, 105, 111, 110], [115, 101, 108, 101, 99, 116], [115, 111, 117, 114, 99, 101], [115, 116, 121, 108, 101], [115, 117, 109, 109, 97, 114, 121], [116, 97, 98, 108, 101], [116, 101, 109, 112, 108, 97, 116, 101], [116, 101, 120, 116, 97, 114, 101, 97], [116, 105, 116, 108, 101], [116, 114, 97, 99, 107], [117, 108], [119, 98, 114], [120, 109, 112]]
def w5 : List (List UInt8) := [[97, 112, 112, 108, 101, 116], [109, 97, 114, 113, 117, 101, 101], [111, 98, 106, 101, 99, 116], [116, 97, 98, 108, 101], [116, 101, 109, 112, 108, 97, 116, 101]]
def w6 : List (List UInt8) := [[98, 111, 100, 121], [99, 97, 112, 116, 105, 111, 110], [99, 111, 108], [99, 111, 108, 103, 114, 111, 117, 112], [102, 114, 97, 109, 101], [102, 114, 97, 109, 101, 115, 101, 116], [104, 101, 97, 100], [104, 116, 109, 108], [116, 98, 111, 100, 121], [116, 100], [116, 102, 111, 111, 116], [116, 104], [116, 104, 101, 97, 100], [116, 114]]
def w7 : List (List UInt8) := [[100, 100], [100, 116], [108, 105], [111, 112, 116, 103, 114, 111, 117, 112], [111, 112, 116, 105, 111, 110], [112], [114, 98], [114, 112], [114, 116], [114, 116, 99]]
def w8 : List (List UInt8) := [[97, 112, 112, 108, 101, 116], [109, 97, 114, 113, 117, 101, 101], [111, 98, 106, 101, 99, 116]]
def w9 : List (List UInt8) := [[97], [97, 98, 98, 114], [97, 100, 100, 114, 101, 115, 115], [97, 114, 116, 105, 99, 108, 101], [97, 115, 105, 100, 101], [98], [98, 100, 105], [98, 100, 111], [98, 105, 103], [98, 108, 111, 99, 107, 113, 117, 111, 116, 101], [98, 114], [99, 101, 110, 116, 101, 114], [99, 105, 116, 101], [99, 111, 100, 101], [100, 100], [100, 101, 108], [100, 102, 110], [100, 105, 114], [100, 105, 118], [100, 108], [100, 116], [101, 109], [102, 105, 103, 99, 97, 112, 116, 105, 111, 110], [102, 105, 103, 117, 114, 101], [102, 111, 110, 116], [102, 111, 111, 116, 101, 114], [104, 49], [104, 50], [104, 51], [104, 52], [104, 53], [104, 54], [104, 101, 97, 100, 101, 114], [104, 114], [105], [105, 109, 103], [105, 110, 115], [107, 98, 100], [108, 105], [109, 97, 105, 110], [109, 97, 114, 107], [110, 97, 118], [111, 108], [112], [112, 114, 101], [113], [115], [115, 97, 109, 112], [115, 101, 99, 116, 105, 111, 110], [115, 109, 97, 108, 108], [115, 112, 97, 110], [115, 116, 114, 105, 107, 101], [115, 116, 114, 111, 110, 103], [115, 117, 98], [115, 117, 112], [116, 105, 109, 101], [116, 116], [117], [117, 108], [118, 97, 114], [119, 98, 114]]

/-- one comparison of a switch -/
def eqR (pos : String) (r tag b tmp : Nat) (x : List UInt8) : Code :=
  .region r (List.toArray [{ dst := some tmp, op := .binOp .eql 9 (.tmp tag) (.const (.string ⟨x.toArray⟩)) 9, type := 4, pos := pos, after := #[], guard := none },
    { dst := some b, op := .assign (.tmp tmp), type := 4, pos := pos, after := #[{ on := 0, ground := .data }], guard := none }]) false

theorem eqR_wp {Q : Exit → Act → World → Prop} {a : Act} {w : World} (pos : String) (r tag b tmp : Nat) (x l : List UInt8)
    (ht : a.tmps[tag]? = some (.string ⟨l.toArray⟩)) (hs : tmp < a.tmps.size)
    (h : Q .normal { a with tmps := (a.tmps.setIfInBounds tmp (.bool (l == x))).setIfInBounds b (.bool (l == x)) } w) : (eqR pos r tag b tmp x).wp Try.prog Q a w := by
  refine wp_region_lit (wpList_plain rfl fun K hK => ?_)
  go_simp
  apply hK
  refine wpList_plain rfl fun K hK => ?_
  go_simp
  apply hK
  exact h

/-- all comparisons of a switch, one behind the other -/
def chain (pos : String) (tag b : Nat) : Nat → Nat → List (List UInt8) → Code
  | _, _, [] => .skip
  | r, tmp, [x] => eqR pos r tag b tmp x
  | r, tmp, x :: y :: l => (eqR pos r tag b tmp x).seq (.cond (.tmp b) .skip (chain pos tag b (r + 1) (tmp + 1) (y :: l)))

theorem put2 (t : Array Value) (i b tmp : Nat) (v u : Value) (hi : i < b) (hb : b < tmp) :
    ((t.setIfInBounds tmp v).setIfInBounds b u)[i]? = t[i]? := by
  rw [Array.getElem?_setIfInBounds_ne (by omega), Array.getElem?_setIfInBounds_ne (by omega)]

theorem chain_wp {Q : Exit → Act → World → Prop} {w : World} (pos : String) (tag b : Nat) (l : List UInt8) (htb : tag < b) :
    ∀ (ws : List (List UInt8)) (r tmp : Nat) (a : Act), ws ≠ [] → b < tmp → tmp + ws.length ≤ a.tmps.size → a.tmps[tag]? = some (.string ⟨l.toArray⟩) →
      (∀ a' : Act, a'.tmps.size = a.tmps.size → a'.defers = a.defers → (∀ i, i < b → a'.tmps[i]? = a.tmps[i]?) → a'.tmps[b]? = some (.bool (ws.contains l)) → Q .normal a' w) →
      (chain pos tag b r tmp ws).wp Try.prog Q a w := by
  intro ws
  induction ws with
  | nil => intro _ _ _ h; exact absurd rfl h
  | cons x ws ih =>
    intro r tmp a _ hbt hsz ht hq
    simp only [List.length_cons] at hsz
    have hset : ∀ u : Value, ((a.tmps.setIfInBounds tmp u).setIfInBounds b u)[b]? = some u := by
      intro u
      rw [Array.getElem?_setIfInBounds_self_of_lt (by simp; omega)]
    cases ws with
    | nil =>
      refine eqR_wp pos r tag b tmp x l ht (by omega) (hq _ (by simp) rfl (fun i hi => put2 _ _ _ _ _ _ hi hbt) ?_)
      rw [hset, List.contains_cons, List.contains_nil, Bool.or_false]
    | cons y ws =>
      refine wp_seq (eqR_wp pos r tag b tmp x l ht (by omega) ?_)
      show Code.wp _ _ _ _ _
      have he : Act.eval { a with tmps := (a.tmps.setIfInBounds tmp (.bool (l == x))).setIfInBounds b (.bool (l == x)) } (.tmp b) = .bool (l == x) := by
        simp only [Act.eval, Array.getD_eq_getD_getElem?, hset, Option.getD_some]
      refine wp_cond_split he ?_ ?_
      · intro hx
        refine wp_skip (hq _ (by simp) rfl (fun i hi => put2 _ _ _ _ _ _ hi hbt) ?_)
        rw [hset, List.contains_cons, hx, Bool.true_or]
      · intro hx
        refine ih (r + 1) (tmp + 1) _ (by simp) (by omega) (by simp at hsz ⊢; omega) ?_ ?_
        · show ((a.tmps.setIfInBounds tmp (.bool (l == x))).setIfInBounds b (.bool (l == x)))[tag]? = _
          rw [put2 _ _ _ _ _ _ htb hbt, ht]
        · intro a' h1 h2 h3 h4
          refine hq a' (by rw [h1]; simp) h2 (fun i hi => (h3 i hi).trans (put2 _ _ _ _ _ _ hi hbt)) ?_
          rw [h4, show (x :: y :: ws).contains l = (l == x || (y :: ws).contains l) from List.contains_cons, hx, Bool.false_or]

/-- a switch whose one case adds a bit -/
def sw (p1 p2 p3 : String) (r id tag : Nat) (bit : Nat) (ws : List (List UInt8)) : Code :=
  (Code.region r (List.toArray [{ dst := some tag, op := .move (.tmp 0), type := 9, pos := p1, after := #[], guard := none }]) false).seq
    (.block id ((chain p2 tag (tag + 1) (r + 1) (tag + 2) ws).seq
      (.cond (.tmp (tag + 1))
        (.region (r + 1 + ws.length) (List.toArray [
          { dst := some (tag + 2 + ws.length), op := .move (.tmp 3), type := 3, pos := p3, after := #[], guard := none },
          { dst := some (tag + 3 + ws.length), op := .binOp .or 3 (.tmp (tag + 2 + ws.length)) (.const (.int .i64 (bit : Int))) 3, type := 3, pos := p3, after := #[{ on := 0, ground := .data }], guard := none },
          { dst := some 3, op := .assign (.tmp (tag + 3 + ws.length)), type := 3, pos := p3, after := #[{ on := 1, ground := .data }, { on := 0, ground := .phase }, { on := 1, ground := .phase }], guard := none }]) false)
        .skip)))

/-- the frame between two switches -/
structure Fr (a : Act) (l : List UInt8) (k : Nat) : Prop where
  size : a.tmps.size = 281
  name : a.tmps[0]? = some (.string ⟨l.toArray⟩)
  kinds : a.tmps[3]? = some (.int .i64 (k : Int))
  defers : a.defers = []

theorem or_bit64 (k j : Nat) (hk : k < 2 ^ j) (h10 : j < 10) : bits .or .i64 (k : Int) ((2 ^ j : Nat) : Int) = ((k + 2 ^ j : Nat) : Int) := by
  have hj : 2 ^ j < 2 ^ 10 := Nat.pow_lt_pow_right (by decide) h10
  have h1 : (BitVec.ofInt 64 (k : Int)).toNat = k := by
    rw [BitVec.ofInt_natCast, BitVec.toNat_ofNat]; exact Nat.mod_eq_of_lt (by omega)
  have h2 : (BitVec.ofInt 64 ((2 ^ j : Nat) : Int)).toNat = 2 ^ j := by
    rw [BitVec.ofInt_natCast, BitVec.toNat_ofNat]; exact Nat.mod_eq_of_lt (by omega)
  show IntKind.i64.wrap ((BitVec.ofInt 64 (k : Int) ||| BitVec.ofInt 64 ((2 ^ j : Nat) : Int)).toNat : Int) = _
  have h3 : k ||| 2 ^ j = k + 2 ^ j := by
    have := Nat.two_pow_add_eq_or_of_lt hk 1
    rw [Nat.mul_one] at this
    rw [Nat.or_comm, ← this, Nat.add_comm]
  rw [BitVec.toNat_or, h1, h2, h3]
  have hm : k + 2 ^ j < 2048 := by omega
  generalize k + 2 ^ j = m at hm
  simp [IntKind.wrap, IntKind.bits, IntKind.signed]
  split <;> omega

theorem sw_wp {Q : Exit → Act → World → Prop} {w : World} (p1 p2 p3 : String) (r id tag j : Nat) (ws : List (List UInt8)) (l : List UInt8) (k : Nat) (a : Act)
    (h : Fr a l k) (hj : k < 2 ^ j) (h10 : j < 10) (bit : Nat) (hbit : bit = 2 ^ j) (ht : 4 ≤ tag) (hs : tag + 4 + ws.length ≤ 281) (hw : ws ≠ [])
    (hq : ∀ a', Fr a' l (k + if ws.contains l then bit else 0) → Q .normal a' w) : (sw p1 p2 p3 r id tag bit ws).wp Try.prog Q a w := by
  obtain ⟨hz, hn, hk, hd⟩ := h
  have Z : Hid (a.tmps.size = 281) := hz
  have B : Hid (bit = 2 ^ j) := hbit
  clear hz hbit
  refine wp_seq (wp_region_lit (wpList_plain rfl fun K hK => ?_))
  go_simp
  apply hK
  have hz := Z.out
  refine wp_block (wp_seq (chain_wp p2 tag (tag + 1) l (by omega) ws (r + 1) (tag + 2) _ hw (by omega) (by simp; omega) ?_ ?_))
  · show (a.tmps.setIfInBounds tag _)[tag]? = _
    rw [Array.getElem?_setIfInBounds_self_of_lt (by omega)]
  · clear hK
    intro a' h1 h2 h3 h4
    show Code.wp _ _ _ _ _
    have he : Act.eval a' (.tmp (tag + 1)) = .bool (ws.contains l) := by
      simp only [Act.eval, Array.getD_eq_getD_getElem?, h4, Option.getD_some]
    have k0 : a'.tmps[0]? = some (.string ⟨l.toArray⟩) := by rw [h3 0 (by omega)]; show (a.tmps.setIfInBounds tag _)[0]? = _; rw [Array.getElem?_setIfInBounds_ne (by omega)]; exact hn
    have k3 : a'.tmps[3]? = some (.int .i64 (k : Int)) := by rw [h3 3 (by omega)]; show (a.tmps.setIfInBounds tag _)[3]? = _; rw [Array.getElem?_setIfInBounds_ne (by omega)]; exact hk
    have ks : a'.tmps.size = 281 := by rw [h1]; simp [hz]
    have kd : a'.defers = [] := by rw [h2]
    refine wp_cond_split he ?_ ?_
    · intro hc
      rw [if_pos hc] at hq
      have Z : Hid (a'.tmps.size = 281) := ks
      clear ks hz h1 h2 h3 h4 he
      refine wp_region_lit (wpList_plain rfl fun K hK => ?_)
      go_simp
      apply hK
      clear hK
      have hb1 : tag + 2 + ws.length < a'.tmps.size := by rw [Z.out]; omega
      have hb2 : tag + 3 + ws.length < a'.tmps.size := by rw [Z.out]; omega
      have hb3 : 3 < a'.tmps.size := by rw [Z.out]; omega
      refine wpList_plain rfl fun K hK => ?_
      go_simp
      apply hK
      clear hK
      refine wpList_plain rfl fun K hK => ?_
      go_simp
      apply hK
      clear hK
      refine hq _ ⟨by simp [Z.out], ?_, ?_, rfl⟩
      · show ((((a'.tmps.setIfInBounds _ _).setIfInBounds _ _)).setIfInBounds _ _)[0]? = _
        rw [Array.getElem?_setIfInBounds_ne (by omega), Array.getElem?_setIfInBounds_ne (by omega), Array.getElem?_setIfInBounds_ne (by omega), k0]
      · show ((((a'.tmps.setIfInBounds _ _).setIfInBounds _ _)).setIfInBounds _ _)[3]? = _
        rw [Array.getElem?_setIfInBounds_self_of_lt (by simp; omega), B.out, or_bit64 k j hj h10]
    · intro hc
      rw [if_neg (by rw [hc]; exact Bool.false_ne_true)] at hq
      exact wp_skip (hq _ ⟨ks, k0, k3, kd⟩)
/-- the ten lists -/
def W : Nat → List (List UInt8)
  | 0 => w0 | 1 => w1 | 2 => w2 | 3 => w3 | 4 => w4 | 5 => w5 | 6 => w6 | 7 => w7 | 8 => w8 | 9 => w9 | _ => []

/-- the first j kinds of a name, added -/
def kinds (l : List UInt8) : Nat → Nat
  | 0 => 0
  | j + 1 => kinds l j + if (W j).contains l then 2 ^ j else 0

theorem kinds_lt (l : List UInt8) (j : Nat) : kinds l j < 2 ^ j := by
  induction j with
  | zero => exact Nat.one_pos
  | succ j ih =>
    have : kinds l (j + 1) = kinds l j + if (W j).contains l then 2 ^ j else 0 := rfl
    have h2 : 2 ^ (j + 1) = 2 ^ j * 2 := Nat.pow_succ 2 j
    split at this <;> omega

def r0 : Code := .region 0 (List.toArray [{ dst := some 2, op := .assign (.const (.int .i64 0)), type := 3, pos := "kind.go:36", after := #[], guard := none }]) false
def r1 : Code := .region 1 (List.toArray [{ dst := some 3, op := .assign (.const (.int .i64 0)), type := 3, pos := "kind.go:37", after := #[], guard := none }]) false
def rEnd : Code := .region 258 (List.toArray [{ dst := some 280, op := .move (.tmp 3), type := 3, pos := "kind.go:78", after := #[], guard := none },
  { dst := some 2, op := .assign (.tmp 280), type := 3, pos := "kind.go:78", after := #[{ on := 0, ground := .data }, { on := 0, ground := .phase }], guard := none }]) false

def ofBody : Code := r0.seq (r1.seq (((sw "kind.go:38" "kind.go:39" "kind.go:40" 2 0 4 1 w0)).seq (((sw "kind.go:42" "kind.go:43" "kind.go:44" 20 1 24 2 w1)).seq (((sw "kind.go:46" "kind.go:47" "kind.go:48" 62 2 68 4 w2)).seq (((sw "kind.go:50" "kind.go:51" "kind.go:52" 70 3 78 8 w3)).seq (((sw "kind.go:54" "kind.go:55" "kind.go:56" 86 4 96 16 w4)).seq (((sw "kind.go:58" "kind.go:59" "kind.go:60" 155 5 167 32 w5)).seq (((sw "kind.go:62" "kind.go:63" "kind.go:64" 162 6 176 64 w6)).seq (((sw "kind.go:66" "kind.go:67" "kind.go:68" 178 7 194 128 w7)).seq (((sw "kind.go:70" "kind.go:71" "kind.go:72" 190 8 208 256 w8)).seq (((sw "kind.go:74" "kind.go:75" "kind.go:76" 195 9 215 512 w9)).seq ((rEnd).seq .ret))))))))))))

theorem ofBody_eq : Try.f6.body = some ofBody := by kernel_rfl

set_option maxRecDepth 100000 in
theorem of_any (l : List UInt8) (w : World) :
    Calls Try.prog 6 #[.string ⟨l.toArray⟩] w fun e w' => e = .returned (.int .i64 (kinds l 10 : Nat)) ∧ w = w' := by
  refine calls_of_wp Try.func6 ofBody_eq ?_
  refine wp_seq (wp_region_lit (wpList_plain rfl fun K hK => ?_))
  go_simp
  apply hK; clear hK
  refine wp_seq (wp_region_lit (wpList_plain rfl fun K hK => ?_))
  go_simp
  apply hK; clear hK
  show Code.wp _ _ _ _ _
  refine wp_seq (sw_wp _ _ _ _ _ 4 0 w0 l (kinds l 0) _ ⟨by simp, by simp, by simp; rfl, rfl⟩ (kinds_lt l 0) (by decide) 1 rfl (by decide) (by decide) (by decide) fun a0 f0 => ?_)
  refine wp_seq (sw_wp _ _ _ _ _ 24 1 w1 l (kinds l 1) a0 f0 (kinds_lt l 1) (by decide) 2 rfl (by decide) (by decide) (by decide) fun a1 f1 => ?_)
  refine wp_seq (sw_wp _ _ _ _ _ 68 2 w2 l (kinds l 2) a1 f1 (kinds_lt l 2) (by decide) 4 rfl (by decide) (by decide) (by decide) fun a2 f2 => ?_)
  refine wp_seq (sw_wp _ _ _ _ _ 78 3 w3 l (kinds l 3) a2 f2 (kinds_lt l 3) (by decide) 8 rfl (by decide) (by decide) (by decide) fun a3 f3 => ?_)
  refine wp_seq (sw_wp _ _ _ _ _ 96 4 w4 l (kinds l 4) a3 f3 (kinds_lt l 4) (by decide) 16 rfl (by decide) (by decide) (by decide) fun a4 f4 => ?_)
  refine wp_seq (sw_wp _ _ _ _ _ 167 5 w5 l (kinds l 5) a4 f4 (kinds_lt l 5) (by decide) 32 rfl (by decide) (by decide) (by decide) fun a5 f5 => ?_)
  refine wp_seq (sw_wp _ _ _ _ _ 176 6 w6 l (kinds l 6) a5 f5 (kinds_lt l 6) (by decide) 64 rfl (by decide) (by decide) (by decide) fun a6 f6 => ?_)
  refine wp_seq (sw_wp _ _ _ _ _ 194 7 w7 l (kinds l 7) a6 f6 (kinds_lt l 7) (by decide) 128 rfl (by decide) (by decide) (by decide) fun a7 f7 => ?_)
  refine wp_seq (sw_wp _ _ _ _ _ 208 8 w8 l (kinds l 8) a7 f7 (kinds_lt l 8) (by decide) 256 rfl (by decide) (by decide) (by decide) fun a8 f8 => ?_)
  refine wp_seq (sw_wp _ _ _ _ _ 215 9 w9 l (kinds l 9) a8 f8 (kinds_lt l 9) (by decide) 512 rfl (by decide) (by decide) (by decide) fun a9 f9 => ?_)
  obtain ⟨hz, hn, hk, hd⟩ := f9
  have Z : Hid (a9.tmps.size = 281) := hz
  have hb1 : 280 < a9.tmps.size := by omega
  have hb2 : 2 < a9.tmps.size := by omega
  clear hz hn
  have he : kinds l 9 + (if w9.contains l = true then 512 else 0) = kinds l 10 := rfl
  rw [he] at hk
  generalize kinds l 10 = n at hk
  refine wp_seq (wp_region_lit (wpList_plain rfl fun K hK => ?_))
  go_simp
  apply hK; clear hK
  refine wpList_plain rfl fun K hK => ?_
  go_simp
  apply hK; clear hK
  show Code.wp _ _ _ _ _
  refine wp_ret ⟨rfl, .int .i64 (n : Int), ?_, rfl, rfl⟩
  simp [results, Try.f6, hb2]
  trace_state

end Go.Proofs.Ytjdnhlmepceckaa
