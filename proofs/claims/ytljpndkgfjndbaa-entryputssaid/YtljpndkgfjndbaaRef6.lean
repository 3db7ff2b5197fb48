/- The document's Pack and Unpack (layer 3). Proved: what each returns, for every input. -/
import Derived.Test.YtljpndkgfjndbaaEnt2
import Derived.Test.YtljpndkgfjndbaaRef2
namespace Go.Proofs.Ytljpndkgfjndbaa
open Go Go.RowKit

set_option maxHeartbeats 1000000 in
theorem rpack_any (e : Ent) (w : World) (he : e.ok) :
    Calls Try.prog 10 #[e.val] w fun x w' => x = .returned (.tuple #[.string ⟨(packB e).toArray⟩, .int .i64 (packC e)]) ∧ Below w.heap.size w w' := by
  cases hg : e.good
  · have e1 : packC e = 1 := by unfold packC; rw [hg]; rfl
    have e2 : packB e = [] := by unfold packB; rw [hg]; rfl
    rw [e1, e2]
    clear e1 e2
    have g := of_decide_eq_false hg
    obtain ⟨L, C, B, T⟩ := e
    obtain ⟨c0, c1, t0, t1⟩ := he
    simp only at *
    unfold Ent.val
    simp only
    clear hg
    by_cases h0 : L < 0
    · clear g
      go_enter Try.func10, Try.ntmps10
      go_wp2
      go_ret2
      exact ⟨rfl, (Below.refl _ _).alloc (Nat.le_refl _) _⟩
    by_cases h1 : 1048575 < L
    · clear g
      go_enter Try.func10, Try.ntmps10
      go_wp2
      go_ret2
      exact ⟨rfl, (Below.refl _ _).alloc (Nat.le_refl _) _⟩
    have h2 : 7 < C := by omega
    clear g
    go_enter Try.func10, Try.ntmps10
    go_wp2
    go_ret2
    exact ⟨rfl, (Below.refl _ _).alloc (Nat.le_refl _) _⟩
  · have e1 : packC e = 0 := by unfold packC; rw [hg]; rfl
    have e2 : packB e = e.bytes := by unfold packB; rw [hg]; rfl
    rw [e1, e2]
    clear e1 e2
    have hm := Ent.num_lt he hg
    have HR := Lib.hid (fun W => rbytes_any e.num 4 W (by omega) (by omega))
    unfold Ent.bytes
    have g := of_decide_eq_true hg
    obtain ⟨L, C, B, T⟩ := e
    obtain ⟨c0, c1, t0, t1⟩ := he
    simp only at *
    obtain ⟨l0, l1, c1'⟩ := g
    obtain ⟨L, rfl⟩ := Int.eq_ofNat_of_zero_le l0
    obtain ⟨C, rfl⟩ := Int.eq_ofNat_of_zero_le c0
    obtain ⟨T, rfl⟩ := Int.eq_ofNat_of_zero_le t0
    unfold Ent.val
    simp only
    obtain ⟨m, hmm⟩ : ∃ m, m = Ent.num ⟨L, C, B, T⟩ := ⟨_, rfl⟩
    rw [← hmm] at HR ⊢
    have hnum : (m : Int) = 4096 * L + 512 * C + T + (if B then 256 else 0) := by
      rw [hmm]; unfold Ent.num; cases B <;> simp <;> omega
    have HN := Lib.hid hnum
    clear hmm hg hm c1 hnum
    cases B
    · go_enter Try.func10, Try.ntmps10
      go_wp2_with (go_at_call 21; rw [show (4096 * (L : Int) + 512 * C + T) = (m : Int) by have := HN.out; simp at this; omega]; refine (HR.out _).mono ?_; rintro e w2 ⟨rfl, hb2⟩)
      go_ret2
      exact ⟨rfl, below_up ((Below.refl _ _).alloc (Nat.le_refl _) _) hb2 (by simp)⟩
    · go_enter Try.func10, Try.ntmps10
      go_wp2_with (go_at_call 21; rw [show (4096 * (L : Int) + 512 * C + T + 256) = (m : Int) by have := HN.out; simp at this; omega]; refine (HR.out _).mono ?_; rintro e w2 ⟨rfl, hb2⟩)
      go_ret2
      exact ⟨rfl, below_up ((Below.refl _ _).alloc (Nat.le_refl _) _) hb2 (by simp)⟩

set_option maxHeartbeats 1000000 in
theorem runpack_any (l : List UInt8) (w : World) (hl : l.length ≤ 1000000) :
    Calls Try.prog 12 #[.string ⟨l.toArray⟩] w fun x w' => x = .returned (.tuple #[(unpE l).val, .int .i64 (unpC l)]) ∧ Below w.heap.size w w' := by
  have HG := Lib.hid (fun W => rget_l l 0 4 W hl)
  unfold unpE unpC
  by_cases h4 : 4 ≤ l.length
  · rw [if_pos h4, if_pos h4]
    rw [(get4 l h4).1, (get4 l h4).2] at HG
    have hm := num4_lt l
    generalize numOf (l.take 4) = m at *
    unfold Ent.val entOf
    clear hl h4
    go_enter Try.func12, Try.ntmps12
    go_wp2_with (go_at_call 23; refine (HG.out _).mono ?_; rintro e w2 ⟨rfl, rfl⟩)
    refine bodyPost_ret (v := .tuple #[.agg #[.int .i64 ((m : Int) / 4096), .int .u8 ((m : Int) / 512 % 8), .bool ((m : Int) / 256 % 2 == 1), .int .u8 ((m : Int) % 256)], .int .i64 0]) (by simp [results, Try.results12, go_sem]) rfl ⟨?_, (Below.refl _ _).alloc (Nat.le_refl _) _⟩
    have e1 : ((m : Int) / 256 % 2 == 1) = decide (m / 256 % 2 = 1) := by
      rw [Bool.eq_iff_iff, beq_iff_eq, decide_eq_true_iff]; omega
    rw [e1]
    rfl
  · rw [if_neg h4, if_neg h4]
    rw [(get4_no l h4).1, (get4_no l h4).2] at HG
    unfold Ent.val entZero
    clear hl h4
    go_enter Try.func12, Try.ntmps12
    go_wp2_with (go_at_call 23; refine (HG.out _).mono ?_; rintro e w2 ⟨rfl, rfl⟩)
    refine bodyPost_ret (v := .tuple #[.agg #[.int .i64 0, .int .u8 0, .bool false, .int .u8 0], .int .i64 10]) (by simp [results, Try.results12, go_sem]) rfl ⟨rfl, (Below.refl _ _).alloc (Nat.le_refl _) _⟩
end Go.Proofs.Ytljpndkgfjndbaa
