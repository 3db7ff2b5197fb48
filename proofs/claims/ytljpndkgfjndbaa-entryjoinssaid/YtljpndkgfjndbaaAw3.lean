/- The live examples of layer 3's statements hold. -/
import Derived.Test.YtljpndkgfjndbaaEnt3
import Derived.Test.YtljpndkgfjndbaaEnt5
import Derived.Test.YtljpndkgfjndbaaReg
import Derived.Test.YtljpndkgfjndbaaRef2
namespace Go.Proofs.Ytljpndkgfjndbaa
open Go Go.RowKit

theorem IsE.head {w : World} {a : Option Addr} {n cap : Nat} {l : List Ent} (h : IsE w (.slice a n cap) l) {k : Nat} (hk : k ≤ l.length) : IsE w (.slice a k cap) (l.take k) := by
  obtain ⟨rfl, h1, h2, h0, h3⟩ := h.cells
  have hl : (l.take k).length = k := by simp; omega
  refine ⟨a, cap, by rw [hl], by omega, h2, fun e he => h0 e (List.mem_of_mem_take he), fun hp => ?_⟩
  rw [hl] at hp
  obtain ⟨b, off, rfl, hlt, hc⟩ := h3 (by omega)
  exact ⟨b, off, rfl, hlt, fun i e hi => hc i e (by rw [List.getElem?_take] at hi; split at hi <;> simp_all)⟩
theorem IsE.tail {w : World} {a : Option Addr} {n cap : Nat} {l : List Ent} (h : IsE w (.slice a n cap) l) {k : Nat} (hk : k ≤ l.length) :
    IsE w (.slice (if cap = k then a else a.map (·.add (k * 4))) (n - k) (cap - k)) (l.drop k) := by
  obtain ⟨rfl, h1, h2, h0, h3⟩ := h.cells
  have hl : (l.drop k).length = l.length - k := by simp
  refine ⟨(if cap = k then a else a.map (·.add (k * 4))), cap - k, by rw [hl], by omega, by unfold maxLen at *; omega, fun e he => h0 e (List.mem_of_mem_drop he), fun hp => ?_⟩
  rw [hl] at hp
  obtain ⟨b, off, rfl, hlt, hc⟩ := h3 (by omega)
  refine ⟨b, off + k * 4, by rw [if_neg (by omega)]; simp [plain_add], hlt, fun i e hi => ?_⟩
  rw [List.getElem?_drop] at hi
  have := hc _ e hi
  rw [show off + (k + i) * 4 = off + k * 4 + i * 4 by omega] at this
  exact this
/-- A slice of one entry that was just built. -/
theorem isE_built (W : World) (e : Ent) (he : e.ok) : IsE (W.alloc (.cells #[.int .i64 e.L, .int .u8 e.C, .bool e.B, .int .u8 e.T] 23)) (.slice (some ⟨W.heap.size, 0, none⟩) 1 1) [e] := by
  refine ⟨_, _, rfl, Nat.le_refl _, by unfold maxLen; omega, fun x hx => by simp at hx; subst hx; exact he, fun _ => ⟨_, 0, rfl, by simp, fun i x hi => ?_⟩⟩
  obtain ⟨h1, h2⟩ := List.getElem?_eq_some_iff.1 hi
  simp at h1
  subst h1
  simp at h2
  subst h2
  obtain ⟨c0, c1, c2, c3⟩ := four_cells (World.alloc_heap_new W (.cells #[.int .i64 e.L, .int .u8 e.C, .bool e.B, .int .u8 e.T] 23))
  exact ⟨c0, c1, c2, c3⟩

def ex3A : Ent := ⟨16, 3, true, 64⟩
def ex3B : Ent := ⟨16, 0, false, 1⟩
theorem ex3_pack (w : World) : Calls Try.prog 9 #[.agg #[.int .i64 16, .int .u8 3, .bool true, .int .u8 64]] w fun x w' => (∃ a cap, x = .returned (.tuple #[.slice a 4 cap, .int .i64 0]) ∧ IsB w' (.slice a 4 cap) [0, 1, 7, 64]) ∧ Below w.heap.size w w' := by
  have := pack_any ex3A w ⟨by decide, by decide, by decide, by decide⟩
  rw [show packC ex3A = 0 from rfl, show packB ex3A = [0, 1, 7, 64] by kernel_rfl] at this
  refine this.mono ?_
  rintro x w' ⟨⟨a, n, cap, rfl, hB⟩, hb⟩
  obtain ⟨rfl, -⟩ := hB.cells
  exact ⟨⟨a, cap, rfl, hB⟩, hb⟩
theorem ex3_unpack (a : Option Addr) (n cap : Nat) (w : World) (h : IsB w (.slice a n cap) [0, 1, 7, 64]) : Calls Try.prog 11 #[.slice a n cap] w fun x w' => x = .returned (.tuple #[.agg #[.int .i64 16, .int .u8 3, .bool true, .int .u8 64], .int .i64 0]) ∧ Below w.heap.size w w' := by
  have := unpack_any a n cap _ w h
  rw [show unpE [0, 1, 7, 64] = ex3A by kernel_rfl, show unpC [0, 1, 7, 64] = 0 by kernel_rfl] at this
  exact this
theorem ex3_stack (a : Option Addr) (n cap : Nat) (w : World) (h : IsB w (.slice a n cap) [0, 1, 0, 1, 0, 1, 7, 64, 9]) : Calls Try.prog 13 #[.slice a n cap] w fun x w' => (∃ a cap, x = .returned (.tuple #[.slice a 2 cap, .int .i64 8, .int .i64 0]) ∧ IsE w' (.slice a 2 cap) [ex3B, ex3A]) ∧ Below w.heap.size w w' := by
  have := stack_any a n cap _ w h
  rw [show stk 16 [0, 1, 0, 1, 0, 1, 7, 64, 9] = ([ex3B, ex3A], 0) by kernel_rfl] at this
  refine this.mono ?_
  rintro x w' ⟨⟨a, n, cap, rfl, hB⟩, hb⟩
  obtain ⟨rfl, -⟩ := hB.cells
  exact ⟨⟨a, cap, rfl, hB⟩, hb⟩
theorem ex3_same (a b : Option Addr) (n m ca cb : Nat) (w : World) (hl : IsE w (.slice a n ca) [ex3A]) (hk : IsE w (.slice b m cb) [ex3A]) :
    Calls Try.prog 18 #[.slice a n ca, .slice b m cb] w fun r w' => r = .returned (.bool true) ∧ Below w.heap.size w w' := same_any a b n m ca cb _ _ w hl hk (by decide)
theorem ex3_other (a b : Option Addr) (n m ca cb : Nat) (w : World) (hl : IsE w (.slice a n ca) [ex3B, ex3A]) (hk : IsE w (.slice b m cb) [ex3B]) :
    Calls Try.prog 18 #[.slice a n ca, .slice b m cb] w fun r w' => r = .returned (.bool false) ∧ Below w.heap.size w w' := same_any a b n m ca cb _ _ w hl hk (by decide)

set_option maxHeartbeats 2000000 in
theorem awake3_any (w : World) :
    Calls Try.prog 8 #[] w fun e w' => e = .returned (.bool true) ∧ Below w.heap.size w w' := by
  go_enter Try.func8, Try.ntmps8
  go_wp2_with (go_at_call 9; refine (ex3_pack _).mono ?_; rintro e w1 ⟨⟨a1, c1, rfl, i1⟩, b1⟩; refine Hid.out ?_)
  refine Lib.hid ?_
  have HU := Lib.hid (ex3_unpack _ _ _ _ i1)
  have hr1 : w1.heap[w.heap.size]? = _ := (b1.block w.heap.size (by simp)).trans (World.alloc_heap_new w (.cells #[.int .i64 16, .int .u8 3, .bool true, .int .u8 64] 23))
  have HI1 := Lib.hid i1
  have b1' := below_up ((Below.refl _ _).alloc (Nat.le_refl _) _) b1 (by simp)
  clear b1 i1
  go_wp2_with (go_at_call 11; refine HU.out.mono ?_; rintro e w2 ⟨rfl, b2⟩; refine Hid.out ?_)
  refine Lib.hid ?_
  have hr2 : w2.heap[w.heap.size]? = _ := (b2.block w.heap.size (Array.getElem?_eq_some_iff.1 hr1).1).trans hr1
  have i2 := HI1.out.below b2
  have b2' := below_up b1' b2 b1'.size
  clear b1' b2 hr1 HI1 HU
  have hr3 := (Below.heap_alloc w2 (.cells #[.int .i64 16, .int .u8 3, .bool true, .int .u8 64] 23) _ (Array.getElem?_eq_some_iff.1 hr2).1).trans hr2
  have hr4 := World.alloc_heap_new w2 (.cells #[.int .i64 16, .int .u8 3, .bool true, .int .u8 64] 23)
  have i3 := i2.below ((Below.refl _ _).alloc (Nat.le_refl _) (.cells #[.int .i64 16, .int .u8 3, .bool true, .int .u8 64] 23))
  have b3 := b2'.alloc b2'.size (.cells #[.int .i64 16, .int .u8 3, .bool true, .int .u8 64] 23)
  have HS := Lib.hid (ex3_stack _ _ _ _ (isB_built (w2.alloc (.cells #[.int .i64 16, .int .u8 3, .bool true, .int .u8 64] 23)) [0, 1, 0, 1, 0, 1, 7, 64, 9] _ rfl (by decide)))
  rw [World.size_alloc] at HS
  have HR3 := Lib.hid hr3
  have HR4 := Lib.hid hr4
  have HI3 := Lib.hid i3
  have HB3 := Lib.hid b3
  clear hr2 hr3 hr4 i2 i3 b2' b3
  go_wp2_with (go_at_call 13; refine HS.out.mono ?_; rintro e w5 ⟨⟨a5, c5, rfl, e5⟩, b5⟩; refine Hid.out ?_)
  refine Lib.hid ?_
  have h43 : Below (w2.alloc (.cells #[.int .i64 16, .int .u8 3, .bool true, .int .u8 64] 23)).heap.size (w2.alloc (.cells #[.int .i64 16, .int .u8 3, .bool true, .int .u8 64] 23)) w5 := below_up ((Below.refl _ _).alloc (Nat.le_refl _) _) b5 (by simp)
  have hra : w5.heap[w.heap.size]? = some (.cells #[.int .i64 16, .int .u8 3, .bool true, .int .u8 64] 23 (0, 0)) := (h43.block _ (Array.getElem?_eq_some_iff.1 HR3.out).1).trans HR3.out
  have hrb : w5.heap[w2.heap.size]? = some (.cells #[.int .i64 16, .int .u8 3, .bool true, .int .u8 64] 23 (0, 0)) := (h43.block _ (Array.getElem?_eq_some_iff.1 HR4.out).1).trans HR4.out
  have i5 := HI3.out.below h43
  have b5' := below_up HB3.out h43 HB3.out.size
  obtain ⟨-, q5, m5, -, hop⟩ := e5.cells
  obtain ⟨g5, o5, rfl, -⟩ := hop (by simp)
  unfold maxLen at m5
  simp only [List.length_cons, List.length_nil] at q5
  have n5 : ¬ c5 = 1 := by omega
  have p5 : (1 : Int) ≤ (c5 : Int) := by omega
  have HT5 := Lib.hid (e5.tail (k := 1) (by simp))
  have HH5 := Lib.hid (e5.head (k := 1) (by simp))
  rw [if_neg n5, Option.map_some, plain_add] at HT5
  clear hop
  have HC2 : Hid (∀ W, Below w5.heap.size w5 W → Below w5.heap.size w5 W ∧ (convert 24 9 (.slice a1 4 c1)).run Try.prog W = .ok (.string ⟨#[0, 1, 7, 64]⟩) W ∧ W.cell? ⟨w.heap.size, 0, none⟩ = some (.int .i64 16) ∧ W.cell? ⟨w.heap.size, 1, none⟩ = some (.int .u8 3) ∧ W.cell? ⟨w.heap.size, 2, none⟩ = some (.bool true) ∧ W.cell? ⟨w.heap.size, 3, none⟩ = some (.int .u8 64) ∧ W.cell? ⟨w2.heap.size, 0, none⟩ = some (.int .i64 16) ∧ W.cell? ⟨w2.heap.size, 1, none⟩ = some (.int .u8 3) ∧ W.cell? ⟨w2.heap.size, 2, none⟩ = some (.bool true) ∧ W.cell? ⟨w2.heap.size, 3, none⟩ = some (.int .u8 64)) := by
    intro W hb
    obtain ⟨k0, k1, k2, k3⟩ := four_cells ((hb.block _ (Array.getElem?_eq_some_iff.1 hra).1).trans hra)
    obtain ⟨j0, j1, j2, j3⟩ := four_cells ((hb.block _ (Array.getElem?_eq_some_iff.1 hrb).1).trans hrb)
    exact ⟨hb, (i5.below hb).conv Try.underlying24 Try.underlying5 Try.underlying9, k0, k1, k2, k3, j0, j1, j2, j3⟩
  have HE5 := Lib.hid e5
  have HB5 := Lib.hid b5'
  clear h43 hra hrb i5 b5 b5' e5 HR3 HR4 HI3 HB3 HS
  go_wp2_with fail
  refine wp_region_noPanic ?_
  refine wp_region_held_drew (S := fun W => Below w5.heap.size w5 W ∧ (convert 24 9 (.slice a1 4 c1)).run Try.prog W = .ok (.string ⟨#[0, 1, 7, 64]⟩) W ∧ W.cell? ⟨w.heap.size, 0, none⟩ = some (.int .i64 16) ∧ W.cell? ⟨w.heap.size, 1, none⟩ = some (.int .u8 3) ∧ W.cell? ⟨w.heap.size, 2, none⟩ = some (.bool true) ∧ W.cell? ⟨w.heap.size, 3, none⟩ = some (.int .u8 64) ∧ W.cell? ⟨w2.heap.size, 0, none⟩ = some (.int .i64 16) ∧ W.cell? ⟨w2.heap.size, 1, none⟩ = some (.int .u8 3) ∧ W.cell? ⟨w2.heap.size, 2, none⟩ = some (.bool true) ∧ W.cell? ⟨w2.heap.size, 3, none⟩ = some (.int .u8 64)) (by kernel_rfl) (HC2.out _ ((Below.refl _ _).drew)) (fun hHeld => ?_)
  refine held_take (v := ?v119) 0 rfl (by kernel_rfl) (by kernel_rfl) (by kernel_rfl) (fun _ _ _ h => h) (by rfl) ?y119 (by assumption) ?_
  case y119 => (intro w hSw; (try dsimp only at hSw); go_simp; try with_reducible rfl)
  simp only [List.setIfInBounds_toArray, List.set_cons_zero, List.set_cons_succ]
  refine held_take (v := ?v122) 1 rfl (by kernel_rfl) (by kernel_rfl) (by kernel_rfl) (fun _ _ _ h => h) (by rfl) ?y122 (by assumption) ?_
  case y122 => (intro w hSw; (try dsimp only at hSw); go_simp; try with_reducible rfl)
  simp only [List.setIfInBounds_toArray, List.set_cons_zero, List.set_cons_succ]
  refine held_take (v := ?v125) 2 rfl (by kernel_rfl) (by kernel_rfl) (by kernel_rfl) (fun _ _ _ h => h) (by rfl) ?y125 (by assumption) ?_
  case y125 => (intro w hSw; (try dsimp only at hSw); go_simp; try with_reducible rfl)
  simp only [List.setIfInBounds_toArray, List.set_cons_zero, List.set_cons_succ]
  refine held_take (v := ?v128) 3 rfl (by kernel_rfl) (by kernel_rfl) (by kernel_rfl) (fun _ _ _ h => h) (by rfl) ?y128 (by assumption) ?_
  case y128 => (intro w hSw; (try dsimp only at hSw); go_simp; try with_reducible rfl)
  simp only [List.setIfInBounds_toArray, List.set_cons_zero, List.set_cons_succ]
  refine held_take (v := ?v131) 4 rfl (by kernel_rfl) (by kernel_rfl) (by kernel_rfl) (fun _ _ _ h => h) (by rfl) ?y131 (by assumption) ?_
  case y131 => (intro w hSw; (try dsimp only at hSw); go_simp; try with_reducible rfl)
  simp only [List.setIfInBounds_toArray, List.set_cons_zero, List.set_cons_succ]
  refine held_take (v := ?v134) 5 rfl (by kernel_rfl) (by kernel_rfl) (by kernel_rfl) (fun _ _ _ h => h) (by rfl) ?y134 (by assumption) ?_
  case y134 => (intro w hSw; (try dsimp only at hSw); go_simp; try with_reducible rfl)
  simp only [List.setIfInBounds_toArray, List.set_cons_zero, List.set_cons_succ]
  refine held_take (v := ?v137) 6 rfl (by kernel_rfl) (by kernel_rfl) (by kernel_rfl) (fun _ _ _ h => h) (by rfl) ?y137 (by assumption) ?_
  case y137 => (intro w hSw; (try dsimp only at hSw); go_simp; try with_reducible rfl)
  simp only [List.setIfInBounds_toArray, List.set_cons_zero, List.set_cons_succ]
  refine held_take (v := ?v140) 7 rfl (by kernel_rfl) (by kernel_rfl) (by kernel_rfl) (fun _ _ _ h => h) (by rfl) ?y140 (by assumption) ?_
  case y140 => (intro w hSw; (try dsimp only at hSw); go_simp; try with_reducible rfl)
  simp only [List.setIfInBounds_toArray, List.set_cons_zero, List.set_cons_succ]
  refine held_take (v := ?v143) 8 rfl (by kernel_rfl) (by kernel_rfl) (by kernel_rfl) (fun _ _ _ h => h) (by rfl) ?y143 (by assumption) ?_
  case y143 => (intro w hSw; (try dsimp only at hSw); go_simp; try with_reducible rfl)
  simp only [List.setIfInBounds_toArray, List.set_cons_zero, List.set_cons_succ]
  refine held_take (v := ?v146) 9 rfl (by kernel_rfl) (by kernel_rfl) (by kernel_rfl) (fun _ _ _ h => h) (by rfl) ?y146 (by assumption) ?_
  case y146 => (intro w hSw; (try dsimp only at hSw); go_simp; try with_reducible rfl)
  simp only [List.setIfInBounds_toArray, List.set_cons_zero, List.set_cons_succ]
  refine held_take (v := ?v149) 10 rfl (by kernel_rfl) (by kernel_rfl) (by kernel_rfl) (fun _ _ _ h => h) (by rfl) ?y149 (by assumption) ?_
  case y149 => (intro w hSw; (try dsimp only at hSw); go_simp; try with_reducible rfl)
  simp only [List.setIfInBounds_toArray, List.set_cons_zero, List.set_cons_succ]
  refine held_take (v := ?v152) 11 rfl (by kernel_rfl) (by kernel_rfl) (by kernel_rfl) (fun _ _ _ h => h) (by rfl) ?y152 (by assumption) ?_
  case y152 => (intro w hSw; (try dsimp only at hSw); go_simp; try with_reducible rfl)
  simp only [List.setIfInBounds_toArray, List.set_cons_zero, List.set_cons_succ]
  refine held_take (v := ?v155) 12 rfl (by kernel_rfl) (by kernel_rfl) (by kernel_rfl) (fun _ _ _ h => h) (by rfl) ?y155 (by assumption) ?_
  case y155 => (intro w hSw; (try dsimp only at hSw); go_simp; try with_reducible rfl)
  simp only [List.setIfInBounds_toArray, List.set_cons_zero, List.set_cons_succ]
  refine held_take (v := ?v158) 13 rfl (by kernel_rfl) (by kernel_rfl) (by kernel_rfl) (fun _ _ _ h => h) (by rfl) ?y158 (by assumption) ?_
  case y158 => (intro w hSw; (try dsimp only at hSw); go_simp; try with_reducible rfl)
  simp only [List.setIfInBounds_toArray, List.set_cons_zero, List.set_cons_succ]
  refine held_take (v := ?v161) 14 rfl (by kernel_rfl) (by kernel_rfl) (by kernel_rfl) (fun _ _ _ h => h) (by rfl) ?y161 (by assumption) ?_
  case y161 => (intro w hSw; (try dsimp only at hSw); go_simp; try with_reducible rfl)
  simp only [List.setIfInBounds_toArray, List.set_cons_zero, List.set_cons_succ]
  refine held_take (v := ?v164) 15 rfl (by kernel_rfl) (by kernel_rfl) (by kernel_rfl) (fun _ _ _ h => h) (by rfl) ?y164 (by assumption) ?_
  case y164 => (intro w hSw; (try dsimp only at hSw); go_simp; try with_reducible rfl)
  simp only [List.setIfInBounds_toArray, List.set_cons_zero, List.set_cons_succ]
  refine held_take (v := ?v167) 16 rfl (by kernel_rfl) (by kernel_rfl) (by kernel_rfl) (fun _ _ _ h => h) (by rfl) ?y167 (by assumption) ?_
  case y167 => (intro w hSw; (try dsimp only at hSw); go_simp; try with_reducible rfl)
  simp only [List.setIfInBounds_toArray, List.set_cons_zero, List.set_cons_succ]
  refine held_take (v := ?v170) 17 rfl (by kernel_rfl) (by kernel_rfl) (by kernel_rfl) (fun _ _ _ h => h) (by rfl) ?y170 (by assumption) ?_
  case y170 => (intro w hSw; (try dsimp only at hSw); go_simp; try with_reducible rfl)
  simp only [List.setIfInBounds_toArray, List.set_cons_zero, List.set_cons_succ]
  refine held_take (v := ?v173) 18 rfl (by kernel_rfl) (by kernel_rfl) (by kernel_rfl) (fun _ _ _ h => h) (by rfl) ?y173 (by assumption) ?_
  case y173 => (intro w hSw; (try dsimp only at hSw); go_simp; try with_reducible rfl)
  simp only [List.setIfInBounds_toArray, List.set_cons_zero, List.set_cons_succ]
  refine held_take (v := ?v176) 19 rfl (by kernel_rfl) (by kernel_rfl) (by kernel_rfl) (fun _ _ _ h => h) (by rfl) ?y176 (by assumption) ?_
  case y176 => (intro w hSw; (try dsimp only at hSw); go_simp; try with_reducible rfl)
  simp only [List.setIfInBounds_toArray, List.set_cons_zero, List.set_cons_succ]
  refine held_take (v := ?v179) 20 rfl (by kernel_rfl) (by kernel_rfl) (by kernel_rfl) (fun _ _ _ h => h) (by rfl) ?y179 (by assumption) ?_
  case y179 => (intro w hSw; (try dsimp only at hSw); go_simp; try with_reducible rfl)
  simp only [List.setIfInBounds_toArray, List.set_cons_zero, List.set_cons_succ]
  refine held_take (v := ?v182) 21 rfl (by kernel_rfl) (by kernel_rfl) (by kernel_rfl) (fun _ _ _ h => h) (by rfl) ?y182 (by assumption) ?_
  case y182 => (intro w hSw; (try dsimp only at hSw); go_simp; try with_reducible rfl)
  simp only [List.setIfInBounds_toArray, List.set_cons_zero, List.set_cons_succ]
  refine held_take (v := ?v185) 22 rfl (by kernel_rfl) (by kernel_rfl) (by kernel_rfl) (fun _ _ _ h => h) (by rfl) ?y185 (by assumption) ?_
  case y185 => (intro w hSw; (try dsimp only at hSw); go_simp; try with_reducible rfl)
  simp only [List.setIfInBounds_toArray, List.set_cons_zero, List.set_cons_succ]
  refine held_take (v := ?v188) 23 rfl (by kernel_rfl) (by kernel_rfl) (by kernel_rfl) (fun _ _ _ h => h) (by rfl) ?y188 (by assumption) ?_
  case y188 => (intro w hSw; (try dsimp only at hSw); go_simp; try with_reducible rfl)
  simp only [List.setIfInBounds_toArray, List.set_cons_zero, List.set_cons_succ]
  refine held_take (v := ?v191) 24 rfl (by kernel_rfl) (by kernel_rfl) (by kernel_rfl) (fun _ _ _ h => h) (by rfl) ?y191 (by assumption) ?_
  case y191 => (intro w hSw; (try dsimp only at hSw); go_simp; try with_reducible rfl)
  simp only [List.setIfInBounds_toArray, List.set_cons_zero, List.set_cons_succ]
  refine held_take (v := ?v194) 25 rfl (by kernel_rfl) (by kernel_rfl) (by kernel_rfl) (fun _ _ _ h => h) (by rfl) ?y194 (by assumption) ?_
  case y194 => (intro w hSw; (try dsimp only at hSw); go_simp; try with_reducible rfl)
  simp only [List.setIfInBounds_toArray, List.set_cons_zero, List.set_cons_succ]
  refine held_take (v := ?v197) 26 rfl (by kernel_rfl) (by kernel_rfl) (by kernel_rfl) (fun _ _ _ h => h) (by rfl) ?y197 (by assumption) ?_
  case y197 => (intro w hSw; (try dsimp only at hSw); go_simp; try with_reducible rfl)
  simp only [List.setIfInBounds_toArray, List.set_cons_zero, List.set_cons_succ]
  refine held_take (v := ?v200) 27 rfl (by kernel_rfl) (by kernel_rfl) (by kernel_rfl) (fun _ _ _ h => h) (by rfl) ?y200 (by assumption) ?_
  case y200 => (intro w hSw; (try dsimp only at hSw); go_simp; try with_reducible rfl)
  simp only [List.setIfInBounds_toArray, List.set_cons_zero, List.set_cons_succ]
  refine held_take (v := ?v203) 28 rfl (by kernel_rfl) (by kernel_rfl) (by kernel_rfl) (fun _ _ _ h => h) (by rfl) ?y203 (by assumption) ?_
  case y203 => (intro w hSw; (try dsimp only at hSw); go_simp; try with_reducible rfl)
  simp only [List.setIfInBounds_toArray, List.set_cons_zero, List.set_cons_succ]
  refine held_take (v := ?v206) 29 rfl (by kernel_rfl) (by kernel_rfl) (by kernel_rfl) (fun _ _ _ h => h) (by rfl) ?y206 (by assumption) ?_
  case y206 => (intro w hSw; (try dsimp only at hSw); go_simp; try with_reducible rfl)
  simp only [List.setIfInBounds_toArray, List.set_cons_zero, List.set_cons_succ]
  refine held_take (v := ?v209) 30 rfl (by kernel_rfl) (by kernel_rfl) (by kernel_rfl) (fun _ _ _ h => h) (by rfl) ?y209 (by assumption) ?_
  case y209 => (intro w hSw; (try dsimp only at hSw); go_simp; try with_reducible rfl)
  simp only [List.setIfInBounds_toArray, List.set_cons_zero, List.set_cons_succ]
  refine held_take (v := ?v212) 31 rfl (by kernel_rfl) (by kernel_rfl) (by kernel_rfl) (fun _ _ _ h => h) (by rfl) ?y212 (by assumption) ?_
  case y212 => (intro w hSw; (try dsimp only at hSw); go_simp; try with_reducible rfl)
  simp only [List.setIfInBounds_toArray, List.set_cons_zero, List.set_cons_succ]
  refine held_take (v := ?v215) 32 rfl (by kernel_rfl) (by kernel_rfl) (by kernel_rfl) (fun _ _ _ h => h) (by rfl) ?y215 (by assumption) ?_
  case y215 => (intro w hSw; (try dsimp only at hSw); go_simp; try with_reducible rfl)
  simp only [List.setIfInBounds_toArray, List.set_cons_zero, List.set_cons_succ]
  refine held_one 33 rfl (by kernel_rfl) (by rfl) (fun K hK => ?_)
  go_simp
  refine hK.out _ _ (HC2.out _ (((Below.refl _ _).alloc (Nat.le_refl _) _).drew)) (fun hHeld1 => ?_)
  clear hK K hHeld
  refine held_one 34 rfl (by kernel_rfl) (by rfl) (fun K hK => ?_)
  go_simp
  have g6 : Below w5.heap.size w5 (w5.alloc (.cells #[.int .i64 16, .int .u8 3, .bool true, .int .u8 64] 23)).drew := ((Below.refl _ _).alloc (Nat.le_refl _) _).drew
  refine (ex3_same _ _ _ _ _ _ _ (HT5.out.below g6) ((isE_built w5 ex3A ⟨by decide, by decide, by decide, by decide⟩).below ((Below.refl _ _).drew))).mono ?_
  rintro e w7 ⟨rfl, b7⟩
  have g7 : Below w5.heap.size w5 w7 := below_up g6 b7 g6.size
  refine hK.out _ _ (HC2.out _ g7) (fun hHeld2 => ?_)
  clear hK K hHeld1 b7 g6
  refine held_take (v := ?v230) 35 rfl (by kernel_rfl) (by kernel_rfl) (by kernel_rfl) (fun _ _ _ h => h) (by rfl) ?y230 (by assumption) ?_
  case y230 => (intro w hSw; (try dsimp only at hSw); go_simp; try with_reducible rfl)
  simp only [List.setIfInBounds_toArray, List.set_cons_zero, List.set_cons_succ]
  refine held_take (v := ?v233) 36 rfl (by kernel_rfl) (by kernel_rfl) (by kernel_rfl) (fun _ _ _ h => h) (by rfl) ?y233 (by assumption) ?_
  case y233 => (intro w hSw; (try dsimp only at hSw); go_simp; try with_reducible rfl)
  simp only [List.setIfInBounds_toArray, List.set_cons_zero, List.set_cons_succ]
  refine held_take (v := ?v236) 37 rfl (by kernel_rfl) (by kernel_rfl) (by kernel_rfl) (fun _ _ _ h => h) (by rfl) ?y236 (by assumption) ?_
  case y236 => (intro w hSw; (try dsimp only at hSw); go_simp; try with_reducible rfl)
  simp only [List.setIfInBounds_toArray, List.set_cons_zero, List.set_cons_succ]
  refine held_take (v := ?v239) 38 rfl (by kernel_rfl) (by kernel_rfl) (by kernel_rfl) (fun _ _ _ h => h) (by rfl) ?y239 (by assumption) ?_
  case y239 => (intro w hSw; (try dsimp only at hSw); go_simp; try with_reducible rfl)
  simp only [List.setIfInBounds_toArray, List.set_cons_zero, List.set_cons_succ]
  refine held_take (v := ?v242) 39 rfl (by kernel_rfl) (by kernel_rfl) (by kernel_rfl) (fun _ _ _ h => h) (by rfl) ?y242 (by assumption) ?_
  case y242 => (intro w hSw; (try dsimp only at hSw); go_simp; try with_reducible rfl)
  simp only [List.setIfInBounds_toArray, List.set_cons_zero, List.set_cons_succ]
  refine held_one 40 rfl (by kernel_rfl) (by rfl) (fun K hK => ?_)
  go_simp
  refine (ex3_other _ _ _ _ _ _ _ (HE5.out.below g7) (HH5.out.below g7)).mono ?_
  rintro e w8 ⟨rfl, b8⟩
  have g8 : Below w5.heap.size w5 w8 := below_up g7 b8 g7.size
  refine hK.out _ _ (HC2.out _ g8) (fun hHeld3 => ?_)
  clear hK K hHeld2 b8 g7
  refine held_take (v := ?v252) 41 rfl (by kernel_rfl) (by kernel_rfl) (by kernel_rfl) (fun _ _ _ h => h) (by rfl) ?y252 (by assumption) ?_
  case y252 => (intro w hSw; (try dsimp only at hSw); go_simp; try with_reducible rfl)
  simp only [List.setIfInBounds_toArray, List.set_cons_zero, List.set_cons_succ]
  refine held_take (v := ?v255) 42 rfl (by kernel_rfl) (by kernel_rfl) (by kernel_rfl) (fun _ _ _ h => h) (by rfl) ?y255 (by assumption) ?_
  case y255 => (intro w hSw; (try dsimp only at hSw); go_simp; try with_reducible rfl)
  simp only [List.setIfInBounds_toArray, List.set_cons_zero, List.set_cons_succ]
  refine held_take (v := ?vLast) 43 rfl (by kernel_rfl) (by kernel_rfl) (by kernel_rfl) (fun _ _ _ h => h) (by rfl) ?yLast (by assumption) ?_
  case yLast => (intro w hSw; (try dsimp only at hSw); go_simp; try with_reducible rfl)
  simp only [List.setIfInBounds_toArray, List.set_cons_zero]
  refine wpAnyH_done (by kernel_rfl) ?_ _
  refine NoPanic.normal ?_
  clear hHeld3
  go_wp2
  go_ret
  exact ⟨rfl, below_up HB5.out g8 HB5.out.size⟩
end Go.Proofs.Ytljpndkgfjndbaa
