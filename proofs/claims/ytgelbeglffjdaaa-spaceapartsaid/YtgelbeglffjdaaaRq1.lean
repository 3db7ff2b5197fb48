/- The document's space: a space by value; may, what is left of an area. -/
import Derived.Test.YtgelbeglffjdaaaSqQ
import Derived.Test.YtgelbeglffjdaaaRsC
namespace Go.Proofs.Ytgelbeglffjdaaa
open Go Go.RowKit Go.Shelf
attribute [local go_sem] Oper.semAt_some

/-- The document's space by value: areas, blocks. -/
def rqR (t : SpS) (vl : Value) : List Value := [.int .i64 0, .int .i64 0, .int .i64 t.a1.f, .int .i64 t.a1.l, .int .i64 t.a2.f, .int .i64 t.a2.l, vl]
def rqV (t : SpS) (vl : Value) : Value := .agg (rqR t vl).toArray
theorem rq_ar {W : World} {g : Nat} {t : SpS} {vl : Value} (h : Bx W g 31 (rqR t vl)) : W.rangeAt g 2 (sR t.a1) ∧ W.rangeAt g 4 (sR t.a2) ∧ W.cell? ⟨g, 6, none⟩ = some vl := ⟨h.range 2 (sR t.a1) rfl, h.range 4 (sR t.a2) rfl, by rw [h.cell]; rfl⟩
set_option maxRecDepth 100000 in
set_option maxHeartbeats 1000000 in
theorem rmay12_any (s : Spn) (w : World) : Calls Try.prog 72 #[sV s] w fun e w' => e = .returned (.bool (mayOB s)) ∧ Below w.heap.size w w' := by
  have HB := Lib.hid ((Below.refl w.heap.size w).alloc (Nat.le_refl _) (.cells (sR s).toArray 27))
  have hr := rangeAll (Bx.new w 27 (sR s))
  have c0 := rng0 hr
  have c1 := rng1 hr
  have HM := Lib.hid (show mayOB s = decide (16 ≤ s.f ∧ s.f ≤ s.l ∧ s.l ≤ 1048575) from rfl)
  rw [show sV s = .agg (sR s).toArray from rfl]
  generalize mayOB s = r at *
  clear hr
  go_enter Try.func72, Try.ntmps72
  go_wp2
  all_goals (go_ret; refine ⟨?_, HB.out⟩; rw [HM.out]; simp_all <;> omega)
theorem cutAll_next {bs : List Blk} {l : List Spn} {i : Nat} {b : Blk} (h : bs[i]? = some b) : cutAll l (bs.take (i + 1)) = cutS (cutAll l (bs.take i)) b.s := by
  unfold cutAll
  rw [List.take_add_one, h, List.foldl_append]
  rfl
theorem cutAll_length : ∀ (bs : List Blk) (l : List Spn), (∀ b ∈ bs, mayO b.s) → (cutAll l bs).length ≤ (cutAll l bs).length := fun _ _ _ => Nat.le_refl _
set_option maxRecDepth 100000 in
set_option maxHeartbeats 2000000 in
theorem rleft0_any (t : SpS) (vl : Value) (k : Int) (w : World) (h : k < 0 ∨ 2 < k) : Calls Try.prog 49 #[rqV t vl, .int .i64 k] w fun e w' => e = .returned (.slice none 0 0) ∧ Below w.heap.size w w' := by
  have HB := Lib.hid ((Below.refl w.heap.size w).alloc (Nat.le_refl _) (.cells (rqR t vl).toArray 31))
  rw [show rqV t vl = .agg (rqR t vl).toArray from rfl]
  by_cases h0 : k < 0
  · go_enter Try.func49, Try.ntmps49
    go_wp2
    go_ret
    exact ⟨rfl, HB.out⟩
  · have h2 : 2 < k := by omega
    go_enter Try.func49, Try.ntmps49
    go_wp2
    go_ret
    exact ⟨rfl, HB.out⟩
end Go.Proofs.Ytgelbeglffjdaaa
