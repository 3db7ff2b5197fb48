/- The document's Put (layer 3). Proved: what it returns, for every stack. -/
import Derived.Test.YtljpndkgfjndbaaEntB
import Derived.Test.YtljpndkgfjndbaaEntP
import Derived.Test.YtljpndkgfjndbaaRef6
namespace Go.Proofs.Ytljpndkgfjndbaa
open Go Go.RowKit

set_option maxHeartbeats 1000000 in
theorem reput_any (a : Option Addr) (n cap : Nat) (l : List Ent) (w : World) (hl : IsE w (.slice a n cap) l) :
    Calls Try.prog 17 #[.slice a n cap] w fun x w' => x = .returned (.tuple #[.string ⟨(putR l).toArray⟩, .int .i64 (putC l)]) ∧ Below w.heap.size w w' := by
  obtain ⟨rfl, l1, l2, lok, lc⟩ := hl.cells
  unfold maxLen at l2
  by_cases h16 : 16 < l.length
  · rw [(putC_many h16).1, (putC_many h16).2]
    clear lc hl lok
    go_enter Try.func17, Try.ntmps17
    go_wp2
    go_ret2
    exact ⟨rfl, Below.refl _ _⟩
  have HL := Lib.hid lc
  have HOK := Lib.hid lok
  have H16 := Lib.hid h16
  have HP := Lib.hid rpack_any
  clear lc hl lok
  obtain ⟨N, hN⟩ : ∃ N, l.length = N := ⟨_, rfl⟩
  rw [hN] at HL l1 h16 ⊢
  have HN := Lib.hid hN
  clear hN
  go_enter Try.func17, Try.ntmps17
  go_wp2
  go_loopw [5, 4] (fun i v wr => ∃ k : Nat, k ≤ N ∧ i = .int .i64 k ∧ v = .string ⟨(putK l k).toArray⟩ ∧ (l.take k).all Ent.good = true ∧ Below w.heap.size w wr) (fun i _ _ => N - (intOf i).toNat)
  case atStart => exact ⟨0, Nat.zero_le _, rfl, by rw [putK_zero], by simp, Below.refl _ _⟩
  case round =>
    obtain ⟨k, hk, rfl, rfl, hall, hb⟩ := hrel
    by_cases hlt : k < N
    · obtain ⟨x, hx⟩ : ∃ x, l[k]? = some x := ⟨l[k]'(by rw [HN.out]; exact hlt), by simp [HN.out, hlt]⟩
      obtain ⟨bl, ol, rfl, hbl, hcl⟩ := HL.out (by omega)
      obtain ⟨x0, x1, x2, x3⟩ := hcl k x hx
      have hx0 := (hb.cell (p := ⟨bl, ol + k * 4, none⟩) hbl).trans x0
      have hx1 := (hb.cell (p := ⟨bl, ol + k * 4 + 1, none⟩) hbl).trans x1
      have hx2 := (hb.cell (p := ⟨bl, ol + k * 4 + 2, none⟩) hbl).trans x2
      have hx3 := (hb.cell (p := ⟨bl, ol + k * 4 + 3, none⟩) hbl).trans x3
      clear hcl x0 x1 x2 x3
      have hxok := HOK.out x (List.mem_of_getElem? hx)
      have HXO := Lib.hid hxok
      have HX := Lib.hid hx
      have HALL := Lib.hid hall
      clear hx hall hxok
      obtain ⟨L, C, B, T⟩ := x
      have hbit : ((k : Int) == (N : Int) - 1) = decide (k + 1 = l.length) := by
        rw [Bool.eq_iff_iff, beq_iff_eq, decide_eq_true_iff, HN.out]; omega
      have hset : (Ent.mk L C B T).setB (decide (k + 1 = l.length)) = ⟨L, C, ((k : Int) == (N : Int) - 1), T⟩ := by rw [hbit]; rfl
      have HC := Lib.hid (fun W => HP.out ⟨L, C, ((k : Int) == (N : Int) - 1), T⟩ W (by rw [← hset]; exact setB_ok HXO.out _))
      have hgood : (Ent.mk L C ((k : Int) == (N : Int) - 1) T).good = (Ent.mk L C B T).good := rfl
      cases hg : (Ent.mk L C B T).good
      · have hc : packC ⟨L, C, ((k : Int) == (N : Int) - 1), T⟩ = 1 := by unfold packC; rw [hgood, hg]; rfl
        rw [hc] at HC
        have HG := Lib.hid hg
        clear hbit hset hgood hg hc
        go_wp2_with (go_at_call 10; refine (HC.out _).mono ?_; rintro e w2 ⟨rfl, hb2⟩)
        go_ret2
        rw [(putC_bad H16.out (all_bad l k _ HX.out HG.out)).1, (putC_bad H16.out (all_bad l k _ HX.out HG.out)).2]
        exact ⟨rfl, below_up (hb.alloc hb.size _) hb2 (by have := hb.size; simp; omega)⟩
      · have hc : packC ⟨L, C, ((k : Int) == (N : Int) - 1), T⟩ = 0 := by unfold packC; rw [hgood, hg]; rfl
        have hc2 : packB ⟨L, C, ((k : Int) == (N : Int) - 1), T⟩ = ((Ent.mk L C B T).setB (decide (k + 1 = l.length))).bytes := by unfold packB; rw [hgood, hg, hset]; rfl
        rw [hc, hc2] at HC
        have HG := Lib.hid hg
        have hsz : (putK l k).length = 4 * k := putK_length l k (by rw [HN.out]; omega)
        have hq : (putK l k).length ≤ 100 := by omega
        have hr : (((Ent.mk L C B T).setB (decide (k + 1 = l.length))).bytes).length ≤ 100 := by rw [bytes_length]; omega
        have HK1 := Lib.hid (putK_succ l k _ HX.out)
        clear hbit hset hgood hg hc hc2 hsz
        generalize ((Ent.mk L C B T).setB (decide (k + 1 = l.length))).bytes = r at *
        generalize putK l k = q at *
        go_wp2_with (go_at_call 10; refine (HC.out _).mono ?_; rintro e w2 ⟨rfl, hb2⟩)
        go_roundw
        case rel =>
          refine ⟨k + 1, by omega, by go_num, by rw [HK1.out]; exact congrArg Value.string (ByteArray.mk_append_mk q r), ?_, below_up (hb.alloc hb.size _) hb2 (by have := hb.size; simp; omega)⟩
          rw [allGood_take l k _ HX.out, HALL.out, HG.out]; rfl
        case measure => simp [intOf]; omega
    · have hkN : k = N := by omega
      subst hkN
      rw [← HN.out, List.take_length] at hall
      have hpc := putC_good H16.out hall
      have HPC := Lib.hid hpc
      have HK := Lib.hid (putK_all l)
      clear hall hpc
      go_wp2
      go_ret2
      refine ⟨?_, hb⟩
      rw [HPC.out.1, HPC.out.2, ← HK.out, HN.out]
      rfl
end Go.Proofs.Ytljpndkgfjndbaa
