/- SumOf: the walk. -/
import Derived.Test.YtfecgnhgkciebaaAw2
namespace Go.Proofs.Ytfecgnhgkciebaa
open Go Go.RowKit

theorem ret_bool_eq {a b : Bool} (h : a = b) : Ending.returned (.bool a) = .returned (.bool b) := by rw [h]

set_option maxHeartbeats 4000000 in
theorem of_walk (a0 : Option Addr) (n0 c0 : Nat) (l0 : List UInt8) (a1 : Option Addr) (n1 c1 : Nat) (l1 : List UInt8) (a2 : Option Addr) (n2 c2 : Nat) (l2 : List UInt8) (w : World)
    (f0 : IsB w (.slice a0 n0 c0) l0) (f1 : IsB w (.slice a1 n1 c1) l1) (f2 : IsB w (.slice a2 n2 c2) l2) :
    Calls Try.prog 3 #[.slice a0 n0 c0, .slice a1 n1 c1, .slice a2 n2 c2] w fun e w' => e = .returned (.bool true) ∧ Below w.heap.size w w' := by
  obtain ⟨rfl, q0, m0, -⟩ := f0.cells
  obtain ⟨rfl, q1, m1, -⟩ := f1.cells
  obtain ⟨rfl, q2, m2, -⟩ := f2.cells
  by_cases hbig : 2000 < l0.length ∨ 2000 < l1.length ∨ 2000 < l2.length
  · clear f0 f1 f2
    unfold maxLen at m0 m1 m2
    have hbig' : (decide ((2000 : Int) < l0.length) || decide ((2000 : Int) < l1.length) || decide ((2000 : Int) < l2.length)) = true := by
      simp only [Bool.or_eq_true, decide_eq_true_eq]; omega
    by_cases g0 : 2000 < l0.length
    · clear hbig hbig'
      go_enter Try.func3, Try.ntmps3
      go_wp2_with (go_at_call 8; refine (awake2_any _).mono ?_; rintro e w1 ⟨rfl, b1⟩)
      go_ret
      exact ⟨rfl, b1⟩
    by_cases g1 : 2000 < l1.length
    · clear hbig hbig'
      go_enter Try.func3, Try.ntmps3
      go_wp2_with (go_at_call 8; refine (awake2_any _).mono ?_; rintro e w1 ⟨rfl, b1⟩)
      go_ret
      exact ⟨rfl, b1⟩
    · have g2 : 2000 < l2.length := by omega
      clear hbig hbig'
      go_enter Try.func3, Try.ntmps3
      go_wp2_with (go_at_call 8; refine (awake2_any _).mono ?_; rintro e w1 ⟨rfl, b1⟩)
      go_ret
      exact ⟨rfl, b1⟩
  · have g0 : l0.length ≤ 2000 := by omega
    have g1 : l1.length ≤ 2000 := by omega
    have g2 : l2.length ≤ 2000 := by omega
    clear hbig q0 q1 q2 m0 m1 m2
    have F0 := Lib.hid f0
    have F1 := Lib.hid f1
    have F2 := Lib.hid f2
    clear f0 f1 f2
    go_enter Try.func3, Try.ntmps3
    go_wp2_with (go_at_call 8; refine (awake2_any _).mono ?_; rintro e w1 ⟨rfl, b1⟩; refine Hid.out ?_)
    refine Lib.hid ?_
    have i0 := F0.out.below b1
    have i1 := F1.out.below b1
    have i2 := F2.out.below b1
    have v0 := i0.conv Try.underlying22 Try.underlying5 Try.underlying9
    have v1 := i1.conv Try.underlying22 Try.underlying5 Try.underlying9
    have v2 := i2.conv Try.underlying22 Try.underlying5 Try.underlying9
    have hF : [l0, l1, l2].flatten = l0 ++ l1 ++ l2 := by simp
    have HR := Lib.hid (fun W (hb : Below w1.heap.size w1 W) => raw_any _ _ _ (rows_three W W.heap.size rfl _ _ _ _ _ _ (i0.below hb) (i1.below hb) (i2.below hb)) (by simp; omega))
    have HO := Lib.hid (fun W (hb : Below w1.heap.size w1 W) => of_any _ _ _ (rows_three W W.heap.size rfl _ _ _ _ _ _ (i0.below hb) (i1.below hb) (i2.below hb)) (by simp; omega))
    have HK := Lib.hid (fun W (hb : Below w1.heap.size w1 W) => check_any _ _ _ (rows_three W W.heap.size rfl _ _ _ _ _ _ (i0.below hb) (i1.below hb) (i2.below hb)) (by simp; omega))
    rw [hF] at HR HO HK
    have hst : (⟨l0.toArray⟩ ++ ⟨l1.toArray⟩ ++ ⟨l2.toArray⟩ : ByteArray) = ⟨(l0 ++ l1 ++ l2).toArray⟩ := by rw [ByteArray.mk_append_mk, ByteArray.mk_append_mk]
    have HRR := Lib.hid (fun W => rraw_any ⟨(l0 ++ l1 ++ l2).toArray⟩ W (by simp [ByteArray.size]; omega))
    have HRO := Lib.hid (fun W => rof_any ⟨(l0 ++ l1 ++ l2).toArray⟩ W (by simp [ByteArray.size]; omega))
    rw [← hst] at HRR HRO
    have hT : (⟨l0.toArray⟩ ++ ⟨l1.toArray⟩ ++ ⟨l2.toArray⟩ : ByteArray).data.toList = l0 ++ l1 ++ l2 := by rw [hst]
    rw [hT] at HRR HRO
    have hle := fold16_le (wsum false (l0 ++ l1 ++ l2))
    generalize fold16 (wsum false (l0 ++ l1 ++ l2)) = T at *
    clear i0 i1 i2 F0 F1 F2 hF hst hT
    go_wp2_with (go_at_call 9; refine (HR.out _ (Below.refl _ _)).mono ?_; rintro e w2 ⟨rfl, b2⟩; refine Hid.out ?_)
    refine Lib.hid ?_
    have b2' : Below w1.heap.size w1 w2 := below_up ((Below.refl _ _).alloc (Nat.le_refl _) _) b2 (by simp)
    clear b2 v0 v1 v2
    go_wp2_with (first | (go_at_call 10; refine (HRR.out _).mono ?_; rintro e w' ⟨rfl, rfl⟩) | (go_at_call 11; refine (HO.out _ b2').mono ?_; rintro e w3 ⟨rfl, b3⟩; refine Hid.out ?_))
    refine Lib.hid ?_
    have b3' : Below w1.heap.size w1 w3 := below_up (b2'.alloc b2'.size _) b3 (by have := b2'.size; simp; omega)
    clear b2' b3
    go_wp2_with (first | (go_at_call 12; refine (HRO.out _).mono ?_; rintro e w' ⟨rfl, rfl⟩) | (go_at_call 13; refine (HK.out _ b3').mono ?_; rintro e w4 ⟨rfl, b4⟩; refine Hid.out ?_))
    refine Lib.hid ?_
    have b4' : Below w1.heap.size w1 w4 := below_up (b3'.alloc b3'.size _) b4 (by have := b3'.size; simp; omega)
    clear b3' b4
    go_wp2_with (go_at_call 10; refine (HRR.out _).mono ?_; rintro e w' ⟨rfl, rfl⟩)
    go_ret
    exact ⟨ret_bool_eq (by simp), below_up b1 b4' b1.size⟩
end Go.Proofs.Ytfecgnhgkciebaa
