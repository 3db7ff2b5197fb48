/- SumParts: the walk. -/
import Derived.Test.YtfecgnhgkciebaaLaw2Of
import Derived.Test.YtfecgnhgkciebaaBaseMore
namespace Go.Proofs.Ytfecgnhgkciebaa
open Go Go.RowKit

theorem wsum_swap (a c : List UInt8) (ha : a.length % 2 = 0) (hc : c.length % 2 = 0) : wsum false (a ++ c) = wsum false (c ++ a) := by
  rw [wsum_append, wsum_append, lows_even, if_pos ha, lows_even, if_pos hc]
  omega
theorem wsum_zeros (a : List UInt8) : wsum false (a ++ [0, 0]) = wsum false a := by
  rw [wsum_append]
  cases lows false a <;> simp [wsum]

set_option maxHeartbeats 4000000 in
theorem parts_walk (a0 : Option Addr) (n0 c0 : Nat) (l0 : List UInt8) (a1 : Option Addr) (n1 c1 : Nat) (l1 : List UInt8) (w : World)
    (f0 : IsB w (.slice a0 n0 c0) l0) (f1 : IsB w (.slice a1 n1 c1) l1) :
    Calls Try.prog 7 #[.slice a0 n0 c0, .slice a1 n1 c1] w fun e w' => e = .returned (.bool true) ∧ Below w.heap.size w w' := by
  obtain ⟨rfl, q0, m0, -⟩ := f0.cells
  obtain ⟨rfl, q1, m1, -⟩ := f1.cells
  unfold maxLen at m0 m1
  have F0 := Lib.hid f0
  have F1 := Lib.hid f1
  clear f0 f1
  by_cases hodd : (l0.length : Int) % 2 = 1
  · go_enter Try.func7, Try.ntmps7
    go_wp2_with (go_at_call 8; refine (awake2_any _).mono ?_; rintro e w1 ⟨rfl, b1⟩)
    go_ret
    exact ⟨rfl, b1⟩
  have hodd' : ((l0.length : Int) % 2 == 1) = false := by simpa using hodd
  by_cases g0 : 1000 < l0.length
  · clear hodd
    go_enter Try.func7, Try.ntmps7
    go_wp2_with (go_at_call 8; refine (awake2_any _).mono ?_; rintro e w1 ⟨rfl, b1⟩)
    go_ret
    exact ⟨rfl, b1⟩
  by_cases g1 : 1000 < l1.length
  · clear hodd
    go_enter Try.func7, Try.ntmps7
    go_wp2_with (go_at_call 8; refine (awake2_any _).mono ?_; rintro e w1 ⟨rfl, b1⟩)
    go_ret
    exact ⟨rfl, b1⟩
  obtain ⟨k, hk⟩ : ∃ k, k = l1.length / 2 * 2 := ⟨_, rfl⟩
  have hk0 : k ≤ l1.length := by omega
  have hk2 : k % 2 = 0 := by omega
  have e0 : l0.length % 2 = 0 := by omega
  have hki : (l1.length : Int) / 2 * 2 = k := by omega
  have F2 := Lib.hid (F1.out.head hk0)
  have hsw := wsum_swap l0 (l1.take k) e0 (by simp; omega)
  have hz := wsum_zeros (l0 ++ l1)
  have hll : (l1.take k).length ≤ 1000 := by simp; omega
  clear hk hodd e0
  generalize hc : l1.take k = lc at *
  clear hc
  go_enter Try.func7, Try.ntmps7
  go_wp2_with (go_at_call 8; refine (awake2_any _).mono ?_; rintro e w1 ⟨rfl, b1⟩; refine Hid.out ?_)
  refine Lib.hid ?_
  have i0 := F0.out.below b1
  have i1 := F1.out.below b1
  have i2 := F2.out.below b1
  have R1 := Lib.hid (fun W (hb : Below w1.heap.size w1 W) => raw_any _ _ _ (rows_two W W.heap.size rfl _ _ _ _ (i0.below hb) (i2.below hb)) (by simp; omega))
  have R2 := Lib.hid (fun W (hb : Below w1.heap.size w1 W) => raw_any _ _ _ (rows_two W W.heap.size rfl _ _ _ _ (i2.below hb) (i0.below hb)) (by simp; omega))
  have R3 := Lib.hid (fun W (hb : Below w1.heap.size w1 W) => of_any _ _ _ (rows_two W W.heap.size rfl _ _ _ _ (i0.below hb) (i1.below hb)) (by simp; omega))
  have R4 := Lib.hid (fun W (hb : Below w1.heap.size w1 W) => of_any _ _ _ (rows_three (W.alloc (.cells #[.int .u8 0, .int .u8 0] 5)) (W.heap.size + 1) (by simp) _ _ _ _ _ _ ((i0.below hb).below ((Below.refl _ _).alloc (Nat.le_refl _) _)) ((i1.below hb).below ((Below.refl _ _).alloc (Nat.le_refl _) _)) (isB_built W [0, 0] _ rfl (by simp))) (by simp; omega))
  have R5 := Lib.hid (fun W (hb : Below w1.heap.size w1 W) => raw_any _ _ _ (rows_three W W.heap.size rfl _ _ _ _ _ _ (i0.below hb) (i1.below hb) (IsB.nil W)) (by simp; omega))
  have R6 := Lib.hid (fun W (hb : Below w1.heap.size w1 W) => raw_any _ _ _ (rows_two W W.heap.size rfl _ _ _ _ (i0.below hb) (i1.below hb)) (by simp; omega))
  rw [show [l0, lc].flatten = l0 ++ lc by simp, hsw] at R1
  rw [show [lc, l0].flatten = lc ++ l0 by simp] at R2
  rw [show [l0, l1].flatten = l0 ++ l1 by simp] at R3 R6
  rw [show [l0, l1, [0, 0]].flatten = (l0 ++ l1) ++ [0, 0] by simp, hz] at R4
  rw [show [l0, l1, []].flatten = l0 ++ l1 by simp] at R5
  generalize fold16 (wsum false (lc ++ l0)) = T1 at *
  generalize fold16 (wsum false (l0 ++ l1)) = T2 at *
  generalize ((65535 - T2 : Nat) : Int) = T3 at *
  clear i0 i1 i2 F0 F1 F2 hsw hz
  go_wp2_with (go_at_call 9; refine (R1.out _ (Below.refl _ _)).mono ?_; rintro e w2 ⟨rfl, b2⟩; refine Hid.out ?_)
  refine Lib.hid ?_
  have b2' : Below w1.heap.size w1 w2 := below_up ((Below.refl _ _).alloc (Nat.le_refl _) _) b2 (by simp)
  clear b2
  go_wp2_with (go_at_call 9; refine (R2.out _ b2').mono ?_; rintro e w3 ⟨rfl, b3⟩; refine Hid.out ?_)
  refine Lib.hid ?_
  have b3' : Below w1.heap.size w1 w3 := below_up (b2'.alloc b2'.size _) b3 (by have := b2'.size; simp; omega)
  clear b2' b3
  go_wp2_with (go_at_call 11; refine (R3.out _ b3').mono ?_; rintro e w4 ⟨rfl, b4⟩; refine Hid.out ?_)
  refine Lib.hid ?_
  have b4' : Below w1.heap.size w1 w4 := below_up (b3'.alloc b3'.size _) b4 (by have := b3'.size; simp; omega)
  clear b3' b4
  go_wp2_with (go_at_call 11; refine (R4.out _ b4').mono ?_; rintro e w5 ⟨rfl, b5⟩; refine Hid.out ?_)
  refine Lib.hid ?_
  have c5 := b4'.alloc b4'.size (.cells #[.int .u8 0, .int .u8 0] 5)
  have b5' : Below w1.heap.size w1 w5 := below_up (c5.alloc c5.size _) b5 (by have := b4'.size; simp; omega)
  clear b4' b5 c5
  go_wp2_with (go_at_call 9; refine (R5.out _ b5').mono ?_; rintro e w6 ⟨rfl, b6⟩; refine Hid.out ?_)
  refine Lib.hid ?_
  have b6' : Below w1.heap.size w1 w6 := below_up (b5'.alloc b5'.size _) b6 (by have := b5'.size; simp; omega)
  clear b5' b6
  go_wp2_with (go_at_call 9; refine (R6.out _ b6').mono ?_; rintro e w7 ⟨rfl, b7⟩)
  go_ret
  exact ⟨ret_bool_eq (by simp), below_up b1 (below_up (b6'.alloc b6'.size _) b7 (by have := b6'.size; simp; omega)) b1.size⟩
end Go.Proofs.Ytfecgnhgkciebaa
