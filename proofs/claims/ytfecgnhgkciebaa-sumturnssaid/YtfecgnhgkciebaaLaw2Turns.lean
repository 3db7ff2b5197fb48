/- SumTurns: the walk. -/
import Derived.Test.YtfecgnhgkciebaaLaw2Of
import Derived.Test.YtfecgnhgkciebaaReg
namespace Go.Proofs.Ytfecgnhgkciebaa
open Go Go.RowKit

set_option maxRecDepth 100000 in
set_option maxHeartbeats 8000000 in
theorem turns_walk (c o n p z : Int) (a1 : Option Addr) (n1 c1 : Nat) (l1 : List UInt8) (a2 : Option Addr) (n2 c2 : Nat) (l2 : List UInt8) (w : World) (hc0 : 0 ≤ c) (hc1 : c ≤ 65535) (ho0 : 0 ≤ o) (ho1 : o ≤ 65535) (hn0 : 0 ≤ n) (hn1 : n ≤ 65535)
    (hp0 : 0 ≤ p) (hp1 : p ≤ 255) (_hz0 : -9223372036854775808 ≤ z) (hz1 : z ≤ 9223372036854775807) (f1 : IsB w (.slice a1 n1 c1) l1) (f2 : IsB w (.slice a2 n2 c2) l2) :
    Calls Try.prog 4 #[.agg #[.int .u16 c, .int .u16 o, .int .u16 n, .int .u8 p, .int .i64 z], .slice a1 n1 c1, .slice a2 n2 c2] w fun e w' => e = .returned (.bool true) ∧ Below w.heap.size w w' := by
  obtain ⟨rfl, q1, m1, -⟩ := f1.cells
  obtain ⟨rfl, q2, m2, -⟩ := f2.cells
  unfold maxLen at m1 m2
  have F1 := Lib.hid f1
  have F2 := Lib.hid f2
  have b0 : Below w.heap.size w (w.alloc (.cells #[.int .u16 c, .int .u16 o, .int .u16 n, .int .u8 p, .int .i64 z] 30)) := (Below.refl _ _).alloc (Nat.le_refl _) _
  have B0 := Lib.hid b0
  have HA := Lib.hid (awake2_any (w.alloc (.cells #[.int .u16 c, .int .u16 o, .int .u16 n, .int .u8 p, .int .i64 z] 30)))
  clear f1 f2 b0
  by_cases g1 : 40 < l1.length
  · clear _hz0 hz1
    go_enter Try.func4, Try.ntmps4
    go_wp2_with (go_at_call 8; refine HA.out.mono ?_; rintro e w1 ⟨rfl, b1⟩)
    go_ret
    exact ⟨rfl, below_up B0.out b1 B0.out.size⟩
  by_cases g2 : 40 < l2.length
  · clear _hz0 hz1
    go_enter Try.func4, Try.ntmps4
    go_wp2_with (go_at_call 8; refine HA.out.mono ?_; rintro e w1 ⟨rfl, b1⟩)
    go_ret
    exact ⟨rfl, below_up B0.out b1 B0.out.size⟩
  obtain ⟨c, rfl⟩ := Int.eq_ofNat_of_zero_le hc0
  obtain ⟨o, rfl⟩ := Int.eq_ofNat_of_zero_le ho0
  obtain ⟨n, rfl⟩ := Int.eq_ofNat_of_zero_le hn0
  obtain ⟨pb, hpb⟩ : ∃ pb : UInt8, p = (pb.toNat : Int) := ⟨UInt8.ofNat p.toNat, by rw [UInt8.toNat_ofNat_of_lt' (show p.toNat < 256 by omega)]; omega⟩
  have HT := Lib.hid (fun W => turn_any c o n W (by omega) (by omega) (by omega))
  have HRT := Lib.hid (fun W => rturn_any c o n W (by omega) (by omega) (by omega))
  have HP := Lib.hid (fun W h1 h2 => pseudo_any a1 l1.length c1 a2 l2.length c2 l1 l2 p pb z W hpb h1 h2 (by omega) (by omega) hz1)
  have HRP := Lib.hid (fun W => rpseudo_any l1 l2 p pb z W hpb (by omega) (by omega))
  generalize pseudoL l1 l2 pb z = L at *
  have hle : turnN c o n ≤ 65535 := by unfold turnN; omega
  generalize turnN c o n = T at *
  have wr : ∀ x : Int, 0 ≤ x → x ≤ 65535 → IntKind.i64.wrap x = x := fun x h0 h1 => by rw [IntKind.wrap_i64]; omega
  have ec := wr c (by omega) (by omega)
  have eo := wr o (by omega) (by omega)
  have en := wr n (by omega) (by omega)
  have ep := wr p (by omega) (by omega)
  have eT := wr T (by omega) (by omega)
  have hT : (IntKind.i64.wrap (T : Int) == (T : Int)) = true := by rw [eT]; simp
  have HRT2 : Hid (∀ W, Calls Try.prog 15 #[.int .i64 (IntKind.i64.wrap (c : Int)), .int .i64 (IntKind.i64.wrap (o : Int)), .int .i64 (IntKind.i64.wrap (n : Int))] W fun e w' => e = .returned (.int .i64 (T : Int)) ∧ W = w') := by
    intro W
    rw [ec, eo, en]
    exact HRT.out W
  have HRP2 : Hid (∀ W, Calls Try.prog 17 #[.string ⟨l1.toArray⟩, .string ⟨l2.toArray⟩, .int .i64 (IntKind.i64.wrap p), .int .i64 z] W fun e w' => e = .returned (.string ⟨L.toArray⟩) ∧ Below W.heap.size W w') := by
    intro W
    rw [ep]
    exact HRP.out W
  clear hpb _hz0 hz1 wr ec eo en ep eT HRT HRP
  go_enter Try.func4, Try.ntmps4
  go_wp2_with (go_at_call 8; refine HA.out.mono ?_; rintro e w1 ⟨rfl, b1⟩; refine Hid.out ?_)
  refine Lib.hid ?_
  have i1 := (F1.out.below B0.out).below b1
  have i2 := (F2.out.below B0.out).below b1
  have hrow : w1.heap[w.heap.size]? = some (.cells #[.int .u16 c, .int .u16 o, .int .u16 n, .int .u8 p, .int .i64 z] 30 (0, 0)) := by
    rw [b1.block _ (by simp)]
    exact heap_alloc_new _ _
  have HC : Hid (∀ W, Below w1.heap.size w1 W → W.cell? ⟨w.heap.size, 0, none⟩ = some (.int .u16 c) ∧ W.cell? ⟨w.heap.size, 1, none⟩ = some (.int .u16 o) ∧ W.cell? ⟨w.heap.size, 2, none⟩ = some (.int .u16 n) ∧ W.cell? ⟨w.heap.size, 3, none⟩ = some (.int .u8 p) ∧ W.cell? ⟨w.heap.size, 4, none⟩ = some (.int .i64 z)) := by
    intro W hb
    have hr : W.heap[w.heap.size]? = _ := (hb.block _ ((Array.getElem?_eq_some_iff.1 hrow).1)).trans hrow
    refine ⟨?_, ?_, ?_, ?_, ?_⟩ <;> (rw [cell_of_row W w.heap.size _ _ _ _ hr]; rfl)
  have HV1 := Lib.hid (fun W (hb : Below w1.heap.size w1 W) => (i1.below hb).conv Try.underlying22 Try.underlying5 Try.underlying9)
  have HV2 := Lib.hid (fun W (hb : Below w1.heap.size w1 W) => (i2.below hb).conv Try.underlying22 Try.underlying5 Try.underlying9)
  have HC2 := Lib.hid (fun W (hb : Below w1.heap.size w1 W) => (⟨hb, (HC.out W hb).1, (HC.out W hb).2.1, (HC.out W hb).2.2.1, (HC.out W hb).2.2.2.1, (HC.out W hb).2.2.2.2, HV1.out W hb, HV2.out W hb⟩ : _ ∧ _ ∧ _ ∧ _ ∧ _ ∧ _ ∧ _ ∧ _))
  have HP2 := Lib.hid (fun W (hb : Below w1.heap.size w1 W) => HP.out W (i1.below hb) (i2.below hb))
  have HW := Lib.hid (below_up B0.out b1 B0.out.size)
  clear i1 i2 hrow b1 HP F1 F2 B0 HA HC HV1 HV2
  go_wp2_with fail
  refine wp_region_noPanic ?_
  refine wp_region_held_drew (S := fun W => Below w1.heap.size w1 W ∧ W.cell? ⟨w.heap.size, 0, none⟩ = some (.int .u16 c) ∧ W.cell? ⟨w.heap.size, 1, none⟩ = some (.int .u16 o) ∧ W.cell? ⟨w.heap.size, 2, none⟩ = some (.int .u16 n) ∧ W.cell? ⟨w.heap.size, 3, none⟩ = some (.int .u8 p) ∧ W.cell? ⟨w.heap.size, 4, none⟩ = some (.int .i64 z) ∧ (convert 22 9 (.slice a1 l1.length c1)).run Try.prog W = .ok (.string ⟨l1.toArray⟩) W ∧ (convert 22 9 (.slice a2 l2.length c2)).run Try.prog W = .ok (.string ⟨l2.toArray⟩) W) (by kernel_rfl) (HC2.out _ ((Below.refl _ _).drew)) (fun hHeld => ?_)
  refine held_take (v := ?v80) 0 rfl (by kernel_rfl) (by kernel_rfl) (by kernel_rfl) (fun _ _ _ h => h) (by rfl) ?y80 (by assumption) ?_
  case y80 => (intro w hSw; (try dsimp only at hSw); go_simp; try with_reducible rfl)
  simp only [List.setIfInBounds_toArray, List.set_cons_zero, List.set_cons_succ]
  refine held_take (v := ?v83) 1 rfl (by kernel_rfl) (by kernel_rfl) (by kernel_rfl) (fun _ _ _ h => h) (by rfl) ?y83 (by assumption) ?_
  case y83 => (intro w hSw; (try dsimp only at hSw); go_simp; try with_reducible rfl)
  simp only [List.setIfInBounds_toArray, List.set_cons_zero, List.set_cons_succ]
  refine held_take (v := ?v86) 2 rfl (by kernel_rfl) (by kernel_rfl) (by kernel_rfl) (fun _ _ _ h => h) (by rfl) ?y86 (by assumption) ?_
  case y86 => (intro w hSw; (try dsimp only at hSw); go_simp; try with_reducible rfl)
  simp only [List.setIfInBounds_toArray, List.set_cons_zero, List.set_cons_succ]
  refine held_take (v := ?v89) 3 rfl (by kernel_rfl) (by kernel_rfl) (by kernel_rfl) (fun _ _ _ h => h) (by rfl) ?y89 (by assumption) ?_
  case y89 => (intro w hSw; (try dsimp only at hSw); go_simp; try with_reducible rfl)
  simp only [List.setIfInBounds_toArray, List.set_cons_zero, List.set_cons_succ]
  refine held_take (v := ?v92) 4 rfl (by kernel_rfl) (by kernel_rfl) (by kernel_rfl) (fun _ _ _ h => h) (by rfl) ?y92 (by assumption) ?_
  case y92 => (intro w hSw; (try dsimp only at hSw); go_simp; try with_reducible rfl)
  simp only [List.setIfInBounds_toArray, List.set_cons_zero, List.set_cons_succ]
  refine held_take (v := ?v95) 5 rfl (by kernel_rfl) (by kernel_rfl) (by kernel_rfl) (fun _ _ _ h => h) (by rfl) ?y95 (by assumption) ?_
  case y95 => (intro w hSw; (try dsimp only at hSw); go_simp; try with_reducible rfl)
  simp only [List.setIfInBounds_toArray, List.set_cons_zero, List.set_cons_succ]
  refine held_take (v := ?v98) 8 rfl (by kernel_rfl) (by kernel_rfl) (by kernel_rfl) (fun _ _ _ h => h) (by rfl) ?y98 (by assumption) ?_
  case y98 => (intro w hSw; (try dsimp only at hSw); go_simp; try with_reducible rfl)
  simp only [List.setIfInBounds_toArray, List.set_cons_zero, List.set_cons_succ]
  refine held_take (v := ?v101) 9 rfl (by kernel_rfl) (by kernel_rfl) (by kernel_rfl) (fun _ _ _ h => h) (by rfl) ?y101 (by assumption) ?_
  case y101 => (intro w hSw; (try dsimp only at hSw); go_simp; try with_reducible rfl)
  simp only [List.setIfInBounds_toArray, List.set_cons_zero, List.set_cons_succ]
  refine held_take (v := ?v104) 10 rfl (by kernel_rfl) (by kernel_rfl) (by kernel_rfl) (fun _ _ _ h => h) (by rfl) ?y104 (by assumption) ?_
  case y104 => (intro w hSw; (try dsimp only at hSw); go_simp; try with_reducible rfl)
  simp only [List.setIfInBounds_toArray, List.set_cons_zero, List.set_cons_succ]
  refine held_take (v := ?v107) 11 rfl (by kernel_rfl) (by kernel_rfl) (by kernel_rfl) (fun _ _ _ h => h) (by rfl) ?y107 (by assumption) ?_
  case y107 => (intro w hSw; (try dsimp only at hSw); go_simp; try with_reducible rfl)
  simp only [List.setIfInBounds_toArray, List.set_cons_zero, List.set_cons_succ]
  refine held_take (v := ?v110) 12 rfl (by kernel_rfl) (by kernel_rfl) (by kernel_rfl) (fun _ _ _ h => h) (by rfl) ?y110 (by assumption) ?_
  case y110 => (intro w hSw; (try dsimp only at hSw); go_simp; try with_reducible rfl)
  simp only [List.setIfInBounds_toArray, List.set_cons_zero, List.set_cons_succ]
  refine held_take (v := ?v113) 13 rfl (by kernel_rfl) (by kernel_rfl) (by kernel_rfl) (fun _ _ _ h => h) (by rfl) ?y113 (by assumption) ?_
  case y113 => (intro w hSw; (try dsimp only at hSw); go_simp; try with_reducible rfl)
  simp only [List.setIfInBounds_toArray, List.set_cons_zero, List.set_cons_succ]
  refine held_take (v := ?v116) 14 rfl (by kernel_rfl) (by kernel_rfl) (by kernel_rfl) (fun _ _ _ h => h) (by rfl) ?y116 (by assumption) ?_
  case y116 => (intro w hSw; (try dsimp only at hSw); go_simp; try with_reducible rfl)
  simp only [List.setIfInBounds_toArray, List.set_cons_zero, List.set_cons_succ]
  refine held_take (v := ?v119) 15 rfl (by kernel_rfl) (by kernel_rfl) (by kernel_rfl) (fun _ _ _ h => h) (by rfl) ?y119 (by assumption) ?_
  case y119 => (intro w hSw; (try dsimp only at hSw); go_simp; try with_reducible rfl)
  simp only [List.setIfInBounds_toArray, List.set_cons_zero, List.set_cons_succ]
  refine held_take (v := ?v122) 16 rfl (by kernel_rfl) (by kernel_rfl) (by kernel_rfl) (fun _ _ _ h => h) (by rfl) ?y122 (by assumption) ?_
  case y122 => (intro w hSw; (try dsimp only at hSw); go_simp; try with_reducible rfl)
  simp only [List.setIfInBounds_toArray, List.set_cons_zero, List.set_cons_succ]
  refine held_one 6 rfl (by kernel_rfl) (by rfl) (fun K hK => ?_)
  go_simp
  refine (HT.out _).mono ?_
  rintro e w' ⟨rfl, rfl⟩
  refine hK.out _ _ hHeld (fun hHeld => ?_)
  clear hK K
  refine held_take (v := ?v131) 7 rfl (by kernel_rfl) (by kernel_rfl) (by kernel_rfl) (fun _ _ _ h => h) (by rfl) ?y131 (by assumption) ?_
  case y131 => (intro w hSw; (try dsimp only at hSw); go_simp; try with_reducible rfl)
  simp only [List.setIfInBounds_toArray, List.set_cons_zero, List.set_cons_succ]
  refine held_one 17 rfl (by kernel_rfl) (by rfl) (fun K hK => ?_)
  go_simp
  refine (HRT2.out _).mono ?_
  rintro e w' ⟨rfl, rfl⟩
  refine hK.out _ _ hHeld (fun hHeld => ?_)
  clear hK K
  refine held_take (v := ?v140) 18 rfl (by kernel_rfl) (by kernel_rfl) (by kernel_rfl) (fun _ _ _ h => h) (by rfl) ?y140 (by assumption) ?_
  case y140 => (intro w hSw; (try dsimp only at hSw); go_simp; try with_reducible rfl)
  simp only [List.setIfInBounds_toArray, List.set_cons_zero, List.set_cons_succ]
  refine held_take (v := ?v143) 19 rfl (by kernel_rfl) (by kernel_rfl) (by kernel_rfl) (fun _ _ _ h => h) (by rfl) ?y143 (by assumption) ?_
  case y143 => (intro w hSw; (try dsimp only at hSw); go_simp; try with_reducible rfl)
  simp only [List.setIfInBounds_toArray, List.set_cons_zero, List.set_cons_succ]
  refine held_take (v := ?v146) 20 rfl (by kernel_rfl) (by kernel_rfl) (by kernel_rfl) (fun _ _ _ h => h) (by rfl) ?y146 (by assumption) ?_
  case y146 => (intro w hSw; (try dsimp only at hSw); go_simp; try with_reducible rfl)
  simp only [List.setIfInBounds_toArray, List.set_cons_zero, List.set_cons_succ]
  refine held_take (v := ?v149) 21 rfl (by kernel_rfl) (by kernel_rfl) (by kernel_rfl) (fun _ _ _ h => h) (by rfl) ?y149 (by assumption) ?_
  case y149 => (intro w hSw; (try dsimp only at hSw); go_simp; try with_reducible rfl)
  simp only [List.setIfInBounds_toArray, List.set_cons_zero, List.set_cons_succ]
  refine held_take (v := ?v152) 22 rfl (by kernel_rfl) (by kernel_rfl) (by kernel_rfl) (fun _ _ _ h => h) (by rfl) ?y152 (by assumption) ?_
  case y152 => (intro w hSw; (try dsimp only at hSw); go_simp; try with_reducible rfl)
  simp only [List.setIfInBounds_toArray, List.set_cons_zero, List.set_cons_succ]
  refine held_take (v := ?v155) 23 rfl (by kernel_rfl) (by kernel_rfl) (by kernel_rfl) (fun _ _ _ h => h) (by rfl) ?y155 (by assumption) ?_
  case y155 => (intro w hSw; (try dsimp only at hSw); go_simp; try with_reducible rfl)
  simp only [List.setIfInBounds_toArray, List.set_cons_zero, List.set_cons_succ]
  refine held_take (v := ?v158) 24 rfl (by kernel_rfl) (by kernel_rfl) (by kernel_rfl) (fun _ _ _ h => h) (by rfl) ?y158 (by assumption) ?_
  case y158 => (intro w hSw; (try dsimp only at hSw); go_simp; try with_reducible rfl)
  simp only [List.setIfInBounds_toArray, List.set_cons_zero, List.set_cons_succ]
  refine held_take (v := ?v161) 25 rfl (by kernel_rfl) (by kernel_rfl) (by kernel_rfl) (fun _ _ _ h => h) (by rfl) ?y161 (by assumption) ?_
  case y161 => (intro w hSw; (try dsimp only at hSw); go_simp; try with_reducible rfl)
  simp only [List.setIfInBounds_toArray, List.set_cons_zero, List.set_cons_succ]
  refine held_take (v := ?v164) 28 rfl (by kernel_rfl) (by kernel_rfl) (by kernel_rfl) (fun _ _ _ h => h) (by rfl) ?y164 (by assumption) ?_
  case y164 => (intro w hSw; (try dsimp only at hSw); go_simp; try with_reducible rfl)
  simp only [List.setIfInBounds_toArray, List.set_cons_zero, List.set_cons_succ]
  refine held_take (v := ?v167) 30 rfl (by kernel_rfl) (by kernel_rfl) (by kernel_rfl) (fun _ _ _ h => h) (by rfl) ?y167 (by assumption) ?_
  case y167 => (intro w hSw; (try dsimp only at hSw); go_simp; try with_reducible rfl)
  simp only [List.setIfInBounds_toArray, List.set_cons_zero, List.set_cons_succ]
  refine held_take (v := ?v170) 32 rfl (by kernel_rfl) (by kernel_rfl) (by kernel_rfl) (fun _ _ _ h => h) (by rfl) ?y170 (by assumption) ?_
  case y170 => (intro w hSw; (try dsimp only at hSw); go_simp; try with_reducible rfl)
  simp only [List.setIfInBounds_toArray, List.set_cons_zero, List.set_cons_succ]
  refine held_take (v := ?v173) 33 rfl (by kernel_rfl) (by kernel_rfl) (by kernel_rfl) (fun _ _ _ h => h) (by rfl) ?y173 (by assumption) ?_
  case y173 => (intro w hSw; (try dsimp only at hSw); go_simp; try with_reducible rfl)
  simp only [List.setIfInBounds_toArray, List.set_cons_zero, List.set_cons_succ]
  refine held_take (v := ?v176) 34 rfl (by kernel_rfl) (by kernel_rfl) (by kernel_rfl) (fun _ _ _ h => h) (by rfl) ?y176 (by assumption) ?_
  case y176 => (intro w hSw; (try dsimp only at hSw); go_simp; try with_reducible rfl)
  simp only [List.setIfInBounds_toArray, List.set_cons_zero, List.set_cons_succ]
  refine held_take (v := ?v179) 35 rfl (by kernel_rfl) (by kernel_rfl) (by kernel_rfl) (fun _ _ _ h => h) (by rfl) ?y179 (by assumption) ?_
  case y179 => (intro w hSw; (try dsimp only at hSw); go_simp; try with_reducible rfl)
  simp only [List.setIfInBounds_toArray, List.set_cons_zero, List.set_cons_succ]
  refine held_take (v := ?v182) 36 rfl (by kernel_rfl) (by kernel_rfl) (by kernel_rfl) (fun _ _ _ h => h) (by rfl) ?y182 (by assumption) ?_
  case y182 => (intro w hSw; (try dsimp only at hSw); go_simp; try with_reducible rfl)
  simp only [List.setIfInBounds_toArray, List.set_cons_zero, List.set_cons_succ]
  refine held_take (v := ?v185) 29 rfl (by kernel_rfl) (by kernel_rfl) (by kernel_rfl) (fun _ _ _ h => h) (by rfl) ?y185 (by assumption) ?_
  case y185 => (intro w hSw; (try dsimp only at hSw); go_simp; try with_reducible rfl)
  simp only [List.setIfInBounds_toArray, List.set_cons_zero, List.set_cons_succ]
  refine held_take (v := ?v188) 31 rfl (by kernel_rfl) (by kernel_rfl) (by kernel_rfl) (fun _ _ _ h => h) (by rfl) ?y188 (by assumption) ?_
  case y188 => (intro w hSw; (try dsimp only at hSw); go_simp; try with_reducible rfl)
  simp only [List.setIfInBounds_toArray, List.set_cons_zero, List.set_cons_succ]
  refine held_one 26 rfl (by kernel_rfl) (by rfl) (fun K hK => ?_)
  go_simp
  refine (HP2.out _ ((Below.refl _ _).drew)).mono ?_
  rintro e w3 ⟨⟨a3, n3, c3, rfl, i3⟩, b3⟩
  have g3 : Below w1.heap.size w1 w3 := below_up (Below.refl _ _).drew b3 (Nat.le_refl _)
  refine hK.out _ _ (HC2.out _ g3) (fun hHeld0 => ?_)
  clear hK K
  refine wpAnyH_more (fun W => (convert 22 9 (.slice a3 n3 c3)).run Try.prog W = .ok (.string ⟨L.toArray⟩) W ∧ Below w1.heap.size w1 W) (fun W h => HC2.out _ h.2) _ _ _ _ ?_
  have hHeld1 := And.intro (i3.conv Try.underlying22 Try.underlying5 Try.underlying9) g3
  refine held_take (v := ?v200) 27 rfl (by kernel_rfl) (by kernel_rfl) (by kernel_rfl) (fun _ _ _ h => h) (by rfl) ?y200 (by assumption) ?_
  case y200 => (intro w hSw; (try dsimp only at hSw); go_simp; try with_reducible rfl)
  simp only [List.setIfInBounds_toArray, List.set_cons_zero, List.set_cons_succ]
  refine held_one 37 rfl (by kernel_rfl) (by rfl) (fun K hK => ?_)
  go_simp
  refine (HRP2.out _).mono ?_
  rintro e w4 ⟨rfl, b4⟩
  have g4 : Below w1.heap.size w1 w4 := below_up g3 b4 g3.size
  refine hK.out _ _ ⟨(i3.below b4).conv Try.underlying22 Try.underlying5 Try.underlying9, g4⟩ (fun hHeld2 => ?_)
  clear hK K
  refine held_take (v := ?v210) 38 rfl (by kernel_rfl) (by kernel_rfl) (by kernel_rfl) (fun _ _ _ h => h) (by rfl) ?y210 (by assumption) ?_
  case y210 => (intro w hSw; (try dsimp only at hSw); go_simp; try with_reducible rfl)
  simp only [List.setIfInBounds_toArray, List.set_cons_zero, List.set_cons_succ]
  refine held_take (v := ?v213) 39 rfl (by kernel_rfl) (by kernel_rfl) (by kernel_rfl) (fun _ _ _ h => h) (by rfl) ?y213 (by assumption) ?_
  case y213 => (intro w hSw; (try dsimp only at hSw); go_simp; try with_reducible rfl)
  simp only [List.setIfInBounds_toArray, List.set_cons_zero, List.set_cons_succ]
  refine held_take (v := ?v216) 40 rfl (by kernel_rfl) (by kernel_rfl) (by kernel_rfl) (fun _ _ _ h => h) (by rfl) ?y216 (by assumption) ?_
  case y216 => (intro w hSw; (try dsimp only at hSw); go_simp; try with_reducible rfl)
  simp only [List.setIfInBounds_toArray, List.set_cons_zero, List.set_cons_succ]
  refine wpAnyH_done (by kernel_rfl) ?_ _
  refine NoPanic.normal ?_
  clear hHeld0 hHeld1 hHeld2 hHeld
  go_wp2
  go_ret
  exact ⟨rfl, below_up HW.out g4 HW.out.size⟩
end Go.Proofs.Ytfecgnhgkciebaa
