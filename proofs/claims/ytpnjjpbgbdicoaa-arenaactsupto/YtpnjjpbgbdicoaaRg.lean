/- The document's arena: what Append's last steps need, whatever stood ahead. -/
import Derived.Test.YtpnjjpbgbdicoaaRf
namespace Go.Proofs.Ytpnjjpbgbdicoaa
open Go.RowKit Go.Lib
open At (Str cellsA cellsA_len Sl below_drewN)

/-- a new empty row and an item, both there: the items copied behind the one, then the other -/
theorem ext_items2 {U U2 : World} {b1 b2 : Nat} (hb : Below U.heap.size U U2) (hf : Rw U.heap.size 88 2 (.slice (some ⟨b1, 0, none⟩) 0 0) 0 [] U2) (i : Nat) (h0 : U2.cell? ⟨b2, 0, none⟩ = some (.string ⟨#[]⟩)) (h1 : U2.cell? ⟨b2, 1, none⟩ = some (.int .i64 (i : Int))) (hne : b2 ≠ b1) {v : Value} {l : List (Nat × List UInt8)} (h : Its U2 v l) (hl : l.length + 1 ≤ 8000000) :
    ∃ v1 u1 a2 c2 u2, (Builtin.append_ #[85, 85] 85 #[.slice (some ⟨b1, 0, none⟩) 0 0, v]).run Try.prog U2 = .ok v1 u1 ∧ (Builtin.append_ #[85, 85] 85 #[v1, .slice (some ⟨b2, 0, none⟩) 1 1]).run Try.prog u1 = .ok (.slice a2 (l.length + 1) c2) u2 ∧
      Its u2 (.slice a2 (l.length + 1) c2) (l ++ [(i, [])]) ∧ Below U.heap.size U u1 ∧ Below U.heap.size U u2 := by
  obtain ⟨j, z, hj, hz, hsz, hby, hzs⟩ := row85.info
  obtain ⟨v1, u1, r1, q1, q2, -, -⟩ := hf.append (P := Try.prog) 85 85 j z 24 row85.ht hj hz hsz hby hzs v l.length (icells l) (row_src row85 h (icells_one l)) (by unfold maxLen; omega) (by omega) hb.size
  rw [Nat.zero_add, List.nil_append] at q1
  have hB1 : Below U.heap.size U u1 := hb.grown q2 hb.size (fun q hq => (hf.lt q hq).1)
  have hlt : b2 < U2.heap.size := World.block_lt_of_cell? U2 _ h0
  have hk := q2.block b2 hlt (fun e => by injection e with e; exact hne e)
  have k0 := (World.cell?_of_block (a := ⟨b2, 0, none⟩) hk).trans h0
  have k1 := (World.cell?_of_block (a := ⟨b2, 1, none⟩) hk).trans h1
  have hs : Src Try.prog 2 85 (.slice (some ⟨b2, 0, none⟩) 1 1) 1 [.string ⟨#[]⟩, .int .i64 (i : Int)] u1 :=
    Src.ofSlice (P := Try.prog) _ (tx := 85) (e' := 88) row85.ht ⟨b2, 0, none⟩ 1 1 _ rfl (fun j x hj => by
      rw [At.add_lit, Nat.zero_add]
      match j, hj with
      | 0, hj => cases hj; exact k0
      | 1, hj => cases hj; exact k1) (fun x hx => by
      simp only [List.mem_cons, List.not_mem_nil, or_false] at hx
      rcases hx with rfl | rfl <;> rfl)
  obtain ⟨v2, u2, r2, q3, q4, -, -⟩ := q1.append (P := Try.prog) 85 85 j z 24 row85.ht hj hz hsz hby hzs _ 1 _ hs (by unfold maxLen; omega) (by omega) hB1.size
  obtain ⟨a2, c2, rfl, -⟩ := q3.slice
  refine ⟨v1, u1, a2, c2, u2, r1, r2, ?_, hB1, hB1.grown q4 hB1.size (fun q hq => (q1.lt q hq).1)⟩
  unfold Its
  rw [List.length_append, icells_append]
  exact q3.base (Nat.zero_le _)

/-- three orders in which the new row and the item come about -/
theorem ext_items3 {U : World} {v : Value} {l : List (Nat × List UInt8)} (h : Its U v l) (i : Nat) (hl : l.length + 1 ≤ 8000000) :
    (∃ v1 u1 a2 c2 u2, (Builtin.append_ #[85, 85] 85 #[.slice (some ⟨U.heap.size, 0, none⟩) 0 0, v]).run Try.prog (U.alloc (.cells #[] 88)) = .ok v1 u1 ∧ (Builtin.append_ #[85, 85] 85 #[v1, .slice (some ⟨u1.heap.size, 0, none⟩) 1 1]).run Try.prog (u1.alloc (.cells #[.string ⟨#[]⟩, .int .i64 (i : Int)] 88)) = .ok (.slice a2 (l.length + 1) c2) u2 ∧
      Its u2 (.slice a2 (l.length + 1) c2) (l ++ [(i, [])]) ∧ Below U.heap.size U u1 ∧ Below U.heap.size U u2 ∧ Below U.heap.size U (u1.alloc (.cells #[.string ⟨#[]⟩, .int .i64 (i : Int)] 88))) ∧
    (∃ v1 u1 a2 c2 u2, (Builtin.append_ #[85, 85] 85 #[.slice (some ⟨U.heap.size, 0, none⟩) 0 0, v]).run Try.prog ((U.alloc (.cells #[] 88)).alloc (.cells #[.string ⟨#[]⟩, .int .i64 (i : Int)] 88)) = .ok v1 u1 ∧ (Builtin.append_ #[85, 85] 85 #[v1, .slice (some ⟨U.heap.size + 1, 0, none⟩) 1 1]).run Try.prog u1 = .ok (.slice a2 (l.length + 1) c2) u2 ∧
      Its u2 (.slice a2 (l.length + 1) c2) (l ++ [(i, [])]) ∧ Below U.heap.size U u1 ∧ Below U.heap.size U u2) ∧
    (∃ v1 u1 a2 c2 u2, (Builtin.append_ #[85, 85] 85 #[.slice (some ⟨U.heap.size + 1, 0, none⟩) 0 0, v]).run Try.prog ((U.alloc (.cells #[.string ⟨#[]⟩, .int .i64 (i : Int)] 88)).alloc (.cells #[] 88)) = .ok v1 u1 ∧ (Builtin.append_ #[85, 85] 85 #[v1, .slice (some ⟨U.heap.size, 0, none⟩) 1 1]).run Try.prog u1 = .ok (.slice a2 (l.length + 1) c2) u2 ∧
      Its u2 (.slice a2 (l.length + 1) c2) (l ++ [(i, [])]) ∧ Below U.heap.size U u1 ∧ Below U.heap.size U u2) := by
  refine ⟨?_, ?_, ?_⟩
  · obtain ⟨v1, u1, a2, c2, u2, r1, r2, h2, b1, b2⟩ := ext_row row85 U h (icells_one _) [.string ⟨#[]⟩, .int .i64 (i : Int)] rfl (fun x hx => by
      simp only [List.mem_cons, List.not_mem_nil, or_false] at hx
      rcases hx with rfl | rfl <;> rfl) hl (by decide)
    refine ⟨v1, u1, a2, c2, u2, r1, r2, ?_, b1, b2, b1.trans ((At.below_alloc _).mono b1.size)⟩
    unfold Its
    rw [List.length_append, icells_append]
    exact h2.base (Nat.zero_le _)
  · have hA : Below U.heap.size U (U.alloc (.cells #[] 88)) := At.below_alloc _
    have hb : Below U.heap.size U ((U.alloc (.cells #[] 88)).alloc (.cells #[.string ⟨#[]⟩, .int .i64 (i : Int)] 88)) := hA.alloc (by simp) _
    have hx := heap_alloc_new (U.alloc (.cells #[] 88)) (.cells #[.string ⟨#[]⟩, .int .i64 (i : Int)] 88)
    have hz : (U.alloc (.cells #[] 88)).heap.size = U.heap.size + 1 := by simp
    rw [hz] at hx
    exact ext_items2 hb ((fresh_row U 88 2).below (At.below_alloc _)) i ((cell_of_heap hx 0).trans rfl) ((cell_of_heap hx 1).trans rfl) (by omega) (Rw.below h hb) hl
  · have hA : Below U.heap.size U (U.alloc (.cells #[.string ⟨#[]⟩, .int .i64 (i : Int)] 88)) := At.below_alloc _
    have hb : Below U.heap.size U ((U.alloc (.cells #[.string ⟨#[]⟩, .int .i64 (i : Int)] 88)).alloc (.cells #[] 88)) := hA.alloc (by simp) _
    have hz : (U.alloc (.cells #[.string ⟨#[]⟩, .int .i64 (i : Int)] 88)).heap.size = U.heap.size + 1 := by simp
    have hf := fresh_row (U.alloc (.cells #[.string ⟨#[]⟩, .int .i64 (i : Int)] 88)) 88 2
    rw [hz] at hf
    have hx := (At.below_alloc (w := U.alloc (.cells #[.string ⟨#[]⟩, .int .i64 (i : Int)] 88)) (.cells #[] 88)).block U.heap.size (by simp)
    rw [heap_alloc_new U _] at hx
    exact ext_items2 hb (hf.base (Nat.le_succ _)) i ((cell_of_heap hx 0).trans rfl) ((cell_of_heap hx 1).trans rfl) (by omega) (Rw.below h hb) hl

/-- the same, in the walk's own spelling: the draw stands behind the new blocks -/
theorem ext_items4 {X F I FI IF : World} {v : Value} {l : List (Nat × List UInt8)} (i : Nat) (hF : X.alloc (.cells #[] 88) = F) (hI : X.alloc (.cells #[.string ⟨#[]⟩, .int .i64 (i : Int)] 88) = I) (hFI : F.alloc (.cells #[.string ⟨#[]⟩, .int .i64 (i : Int)] 88) = FI) (hIF : I.alloc (.cells #[] 88) = IF) (h : Its X.drew v l) (hl : l.length + 1 ≤ 8000000) :
    (∃ v1 u1 a2 c2 u2, (Builtin.append_ #[85, 85] 85 #[.slice (some ⟨X.heap.size, 0, none⟩) 0 0, v]).run Try.prog F.drew = .ok v1 u1 ∧ (Builtin.append_ #[85, 85] 85 #[v1, .slice (some ⟨u1.heap.size, 0, none⟩) 1 1]).run Try.prog (u1.alloc (.cells #[.string ⟨#[]⟩, .int .i64 (i : Int)] 88)) = .ok (.slice a2 (l.length + 1) c2) u2 ∧
      Its u2 (.slice a2 (l.length + 1) c2) (l ++ [(i, [])]) ∧ Below X.drew.heap.size X.drew u1 ∧ Below X.drew.heap.size X.drew u2 ∧ Below X.drew.heap.size X.drew (u1.alloc (.cells #[.string ⟨#[]⟩, .int .i64 (i : Int)] 88))) ∧
    (∃ v1 u1 a2 c2 u2, (Builtin.append_ #[85, 85] 85 #[.slice (some ⟨X.heap.size, 0, none⟩) 0 0, v]).run Try.prog FI.drew = .ok v1 u1 ∧ (Builtin.append_ #[85, 85] 85 #[v1, .slice (some ⟨F.heap.size, 0, none⟩) 1 1]).run Try.prog u1 = .ok (.slice a2 (l.length + 1) c2) u2 ∧
      Its u2 (.slice a2 (l.length + 1) c2) (l ++ [(i, [])]) ∧ Below X.drew.heap.size X.drew u1 ∧ Below X.drew.heap.size X.drew u2) ∧
    (∃ v1 u1 a2 c2 u2, (Builtin.append_ #[85, 85] 85 #[.slice (some ⟨I.heap.size, 0, none⟩) 0 0, v]).run Try.prog IF.drew = .ok v1 u1 ∧ (Builtin.append_ #[85, 85] 85 #[v1, .slice (some ⟨X.heap.size, 0, none⟩) 1 1]).run Try.prog u1 = .ok (.slice a2 (l.length + 1) c2) u2 ∧
      Its u2 (.slice a2 (l.length + 1) c2) (l ++ [(i, [])]) ∧ Below X.drew.heap.size X.drew u1 ∧ Below X.drew.heap.size X.drew u2) ∧
    Below X.drew.heap.size X.drew F.drew ∧ Below X.drew.heap.size X.drew I.drew ∧ Below X.drew.heap.size X.drew FI.drew ∧ Below X.drew.heap.size X.drew IF.drew := by
  have z1 : F.heap.size = X.heap.size + 1 := by rw [← hF]; simp
  have z2 : I.heap.size = X.heap.size + 1 := by rw [← hI]; simp
  have e := ext_items3 h i hl
  have d1 : F.drew = X.drew.alloc (.cells #[] 88) := by rw [← hF]; rfl
  have d2 : I.drew = X.drew.alloc (.cells #[.string ⟨#[]⟩, .int .i64 (i : Int)] 88) := by rw [← hI]; rfl
  have d3 : FI.drew = (X.drew.alloc (.cells #[] 88)).alloc (.cells #[.string ⟨#[]⟩, .int .i64 (i : Int)] 88) := by rw [← hFI, ← hF]; rfl
  have d4 : IF.drew = (X.drew.alloc (.cells #[.string ⟨#[]⟩, .int .i64 (i : Int)] 88)).alloc (.cells #[] 88) := by rw [← hIF, ← hI]; rfl
  rw [z1, z2, d1, d2, d3, d4]
  exact ⟨e.1, e.2.1, e.2.2, At.below_alloc _, At.below_alloc _, (At.below_alloc _).alloc (by simp) _, (At.below_alloc _).alloc (by simp) _⟩

/-- a store of items into a node's place, the answer's cells beside it -/
structure En (b0 cp : Nat) (w : World) (s0 s1 s2 s3 : Value) (g k : Nat) (old x : Value) (M' : List MN) (u : World) : Prop where
  e1 : u.cell? ⟨w.heap.size, 2, none⟩ = some s2
  e2 : u.cell? ⟨g, k, none⟩ = some old
  e3 : u.frozen? ⟨g, k, none⟩ = false
  bb : BB w s0 s1 s2 s3 cp (u.setCell ⟨g, k, none⟩ x)
  ra : RA b0 (u.setCell ⟨g, k, none⟩ x) s0 s1 s2 s3 M'

/-- from a world in which both rows are the call's own: the store, and what is read on the way -/
theorem en_of {b0 cp : Nat} {w X : World} {s0 s1 s3 : Value} {M : List MN} {g c len k : Nat} {nk : MN} (hbb : BB w s0 s1 (.slice (some ⟨g, 0, none⟩) len c) s3 cp X) (hra : RA b0 X s0 s1 (.slice (some ⟨g, 0, none⟩) len c) s3 M) (hlen : M.length = len) (hgw : w.heap.size ≤ g) (hgb : b0 ≤ g) (hk : M[k]? = some nk) :
    ∃ a cc, Its X (.slice a nk.inn.length cc) nk.inn ∧ (∀ u, Below X.heap.size X u → u.cell? ⟨w.heap.size, 2, none⟩ = some (.slice (some ⟨g, 0, none⟩) len c) ∧ u.cell? ⟨g, k, none⟩ = some (.slice a nk.inn.length cc)) ∧
      ∀ u x inn', Below X.heap.size X u → Its u x inn' → En b0 cp w s0 s1 (.slice (some ⟨g, 0, none⟩) len c) s3 g k (.slice a nk.inn.length cc) x (M.set k { nk with inn := inn' }) u := by
  subst hlen
  obtain ⟨xj, hj1, hj2⟩ := hra.inn
  obtain ⟨vk, hvk, hik⟩ := hj2 k nk hk
  obtain ⟨a, cc, rfl, -⟩ := hik.slice
  have get : ∀ u, Below X.heap.size X u → ∃ (_ : Ty u g 85), u.cell? ⟨g, k, none⟩ = some (.slice a nk.inn.length cc) ∧ u.frozen? ⟨g, k, none⟩ = false := by
    intro u hu
    obtain ⟨g', c', hv, -, hT, -, h1, h2⟩ := (hj1.below hu).el hvk
    have hgg : g' = g := by injection hv with e1; injection e1 with e1; injection e1 with e1; exact e1.symm
    subst hgg
    exact ⟨hT, h1, h2⟩
  refine ⟨a, cc, hik, fun u hu => ?_, fun u x inn' hu hx => ?_⟩
  · obtain ⟨-, h1, -⟩ := get u hu
    exact ⟨(hbb.grow hu).cells.1.2.2.1, h1⟩
  · obtain ⟨hT, h1, h2⟩ := get u hu
    exact ⟨(hbb.grow hu).cells.1.2.2.1, h1, h2, (hbb.grow hu).other hgw ⟨85, hT, by decide⟩ _ _, (hra.below hu).setInn hk rfl hgb _ _ hx⟩
end Go.Proofs.Ytpnjjpbgbdicoaa
