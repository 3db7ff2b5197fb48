/- Package slots: New. -/
import Derived.Test.YtoliijajhikhgaaSl4
import Derived.Lib.Tables
import Derived.Lib.BitFns
import Derived.Lib.ItoaNum
namespace Go.Proofs.Ytoliijajhikhgaa
open Go Go.RowKit Go.Shelf
attribute [local go_sem] Oper.semAt_some

set_option maxRecDepth 100000 in
set_option maxHeartbeats 4000000 in
theorem len64_any (x : Int) (w : World) (h0 : 0 ≤ x) (h1 : x ≤ 131071) : Calls Try.prog 26 #[.int .u64 x] w fun e w' => e = .returned (.int .i64 (Lib.bitLen x.toNat)) ∧ w = w' := by
  have g0 : ¬ x ≥ 4294967296 := by omega
  by_cases c1 : x ≥ 65536
  · have e1 : x / 65536 = 1 := by omega
    have s := Lib.bitLen_shift16 x.toNat (by omega) (by omega)
    rw [show x.toNat / 65536 = 1 by omega, show Lib.bitLen 1 = 1 by decide] at s
    rw [s]
    clear s h0 h1
    go_enter Try.func26, Try.ntmps26
    go_wp2
    go_ret
    exact ⟨congrArg Ending.returned (congrArg (Value.int IntKind.i64) (show wrap64 (16 + wrap64 (Lib.len8 1)) = ((16 + 1 : Nat) : Int) by decide +kernel)), rfl⟩
  · by_cases c2 : x ≥ 256
    · obtain ⟨y, hy⟩ : ∃ y, y = x / 256 := ⟨_, rfl⟩
      have hy0 : 0 ≤ y := by omega
      have hy1 : y ≤ 255 := by omega
      have hym : y % 256 = y := by omega
      have s := Lib.bitLen_shift8 x.toNat (by omega) (by omega)
      have l := Lib.len8_of y hy0 hy1
      have l2 := Lib.bitLen_le8' y hy0 hy1
      rw [show x.toNat / 256 = y.toNat by omega] at s
      rw [s]
      have e := hy.symm
      have K := Lib.hid l
      have K2 := Lib.hid l2
      clear s hy l l2
      go_enter Try.func26, Try.ntmps26
      go_wp2
      go_ret
      refine ⟨congrArg Ending.returned (congrArg (Value.int IntKind.i64) ?_), rfl⟩
      rw [K.out]
      have := K2.out
      unfold wrap64
      omega
    · have hy1 : x ≤ 255 := by omega
      have hym : x % 256 = x := by omega
      have l := Lib.len8_of x h0 hy1
      have l2 := Lib.bitLen_le8' x h0 hy1
      have K := Lib.hid l
      have K2 := Lib.hid l2
      clear l l2
      go_enter Try.func26, Try.ntmps26
      go_wp2
      go_ret
      refine ⟨congrArg Ending.returned (congrArg (Value.int IntKind.i64) ?_), rfl⟩
      rw [K.out]
      have := K2.out
      unfold wrap64
      omega
set_option maxRecDepth 100000 in
theorem blen_any (x : Int) (w : World) (h0 : 0 ≤ x) (h1 : x ≤ 131071) : Calls Try.prog 17 #[.int .u64 x] w fun e w' => e = .returned (.int .i64 (Lib.bitLen x.toNat)) ∧ w = w' := by
  have H := Lib.hid (len64_any x w h0 h1)
  go_enter Try.func17, Try.ntmps17
  go_wp2_with (go_at_call 26; refine H.out.mono ?_; rintro e w1 ⟨rfl, rfl⟩)
  go_ret
  exact ⟨rfl, rfl⟩
/-- how many bits a table's places have -/
def wdOf (room : Nat) : Nat := Lib.bitLen (2 * room - 1)
theorem wdOf_spec {room : Nat} (h1 : 1 ≤ room) (h2 : room ≤ 65536) : 1 ≤ wdOf room ∧ wdOf room ≤ 17 ∧ 2 * room ≤ 2 ^ wdOf room := by
  have hb := Lib.bitLenAux_bounds 64 (2 * room - 1) (by omega) (by omega)
  have hl := Lib.bitLen_le (2 * room - 1) 17 (by decide) (by omega)
  unfold wdOf
  unfold Lib.bitLen at hl ⊢
  omega
theorem made_slots : ∀ N : Nat, (madeCells (slR emp).toArray (N * 3)).toList = (List.replicate N emp).flatMap slR
  | 0 => by simp [madeCells]
  | N + 1 => by
    have ih := made_slots N
    unfold madeCells at ih ⊢
    rw [Array.toList_map, Array.toList_range] at ih ⊢
    rw [List.replicate_succ', List.flatMap_append, ← ih, show (N + 1) * 3 = N * 3 + 1 + 1 + 1 by omega, List.range_succ, List.range_succ, List.range_succ]
    simp only [List.map_append, List.map_cons, List.map_nil, List.append_assoc, List.flatMap_cons, List.flatMap_nil, List.append_nil, List.cons_append, List.nil_append]
    have e0 : N * 3 % (slR emp).toArray.size = 0 := by show N * 3 % 3 = 0; omega
    have e1 : (N * 3 + 1) % (slR emp).toArray.size = 1 := by show (N * 3 + 1) % 3 = 1; omega
    have e2 : (N * 3 + 1 + 1) % (slR emp).toArray.size = 2 := by show (N * 3 + 1 + 1) % 3 = 2; omega
    rw [e0, e1, e2]
    rfl
theorem slots_infoF : (Try.prog.info? 58).map (fun i => (i.zero, i.size, i.bytes)) = some (some (slV emp), 3, 24) := by kernel_rfl
theorem make_slots (N : Nat) (hN : N ≤ 131072) (w : World) : (Instr.makeSlice 54 (.int .i64 (N : Int)) (.int .i64 (N : Int))).run Try.prog w = .ok (.slice (some ⟨w.heap.size, 0, none⟩) N N) (w.alloc (.cells (madeCells (slV emp).cells (N * 3)) 58)) := by
  obtain ⟨ti, hti, htz, hts, htb⟩ := info_parts slots_infoF
  have hb : (ti.bytes : Int) * (N : Int) ≤ 281474976710656 := by rw [htb]; omega
  have h := run_make (P := Try.prog) w 54 58 ti (slV emp) Try.underlying54 hti htz .i64 .i64 (N : Int) (N : Int) (Int.natCast_nonneg N) (Int.le_refl _) hb (by omega)
  rw [hts, Int.toNat_natCast] at h
  exact h
set_option maxRecDepth 100000 in
theorem new13_no (n : Int) (w : World) (h : ¬ (1 ≤ n ∧ n ≤ 65536)) : Calls Try.prog 7 #[.int .i64 n] w fun e w' => e = .returned (.pointer none) ∧ w = w' := by
  by_cases h1 : n < 1
  · go_enter Try.func7, Try.ntmps7
    go_wp2
    go_ret
    exact ⟨rfl, rfl⟩
  · have h2 : n > 65536 := by omega
    go_enter Try.func7, Try.ntmps7
    go_wp2
    go_ret
    exact ⟨rfl, rfl⟩
set_option maxRecDepth 100000 in
set_option maxHeartbeats 4000000 in
theorem new13_yes (room : Nat) (w : World) (h1 : 1 ≤ room) (h2 : room ≤ 65536) : Calls Try.prog 7 #[.int .i64 (room : Int)] w fun e w' => ∃ pt g wd, e = .returned (.pointer (some ⟨pt, 0, none⟩)) ∧ TbL w' pt g wd room [] ∧ w.heap.size ≤ pt ∧ w.heap.size ≤ g ∧ Below w.heap.size w w' := by
  obtain ⟨wd, hwd⟩ : ∃ wd, wd = wdOf room := ⟨_, rfl⟩
  have HS := Lib.hid (wdOf_spec h1 h2)
  rw [← hwd] at HS
  obtain ⟨x, hx⟩ : ∃ x : Int, x = 2 * (room : Int) - 1 := ⟨_, rfl⟩
  have HL := Lib.hid (blen_any x w (by omega) (by omega))
  rw [show Lib.bitLen x.toNat = wd by rw [hwd, hx]; unfold wdOf; congr 1; omega] at HL
  obtain ⟨N, hN⟩ : ∃ N, N = 2 ^ wd := ⟨_, rfl⟩
  have hNle : N ≤ 131072 := by rw [hN]; exact Nat.pow_le_pow_right (show 0 < 2 by decide) HS.out.2.1
  have k0 : IntKind.i64.wrap (2 * (room : Int)) = 2 * (room : Int) := by simp [IntKind.wrap, IntKind.bits, IntKind.signed]; omega
  have k1 : IntKind.i64.wrap (2 * (room : Int) - 1) = x := by rw [hx]; simp [IntKind.wrap, IntKind.bits, IntKind.signed]; omega
  have k2 : IntKind.u64.wrap x = x := by rw [hx]; simp [IntKind.wrap, IntKind.bits, IntKind.signed]; omega
  have k3 : wrap64 (32 - (wd : Int)) = 32 - (wd : Int) := by have := HS.out.2.1; unfold wrap64; omega
  have k4 : wrap64 (2 ^ min wd 64) = (N : Int) := by
    have h9 := HS.out.2.1
    rw [show min wd 64 = wd by omega, show (2 : Int) ^ wd = ((2 ^ wd : Nat) : Int) by simp, ← hN]
    unfold wrap64
    omega
  obtain ⟨RW, hRW0⟩ : ∃ RW : Array Value, RW = madeCells (slV emp).cells (N * 3) := ⟨_, rfl⟩
  have hRW : RW = ((List.replicate N emp).flatMap slR).toArray := by
    rw [hRW0, ← made_slots, Array.toArray_toList]
    rfl
  have g1 : ¬ (room : Int) < 1 := by omega
  have g2 : ¬ (room : Int) > 65536 := by omega
  have hm := make_slots N hNle w
  rw [← hRW0] at hm
  have HRW := Lib.hid hRW
  have HN := Lib.hid hN
  have HP1 := Lib.hid h1
  clear hx hwd hN h1 hRW hRW0
  go_enter Try.func7, Try.ntmps7
  go_wp2_with (go_at_call 17; refine HL.out.mono ?_; rintro e w1 ⟨rfl, rfl⟩; refine Hid.out ?_)
  refine Lib.hid ?_
  go_wp2
  go_ret
  have hb1 : Below w.heap.size w (w.alloc (.cells RW 58)) := (Below.refl _ _).alloc (Nat.le_refl _) _
  have hn1 := Bx.new w 58 ((List.replicate N emp).flatMap slR)
  rw [← HRW.out] at hn1
  have hs1 : (w.alloc (.cells RW 58)).heap.size = w.heap.size + 1 := by simp
  generalize w.alloc (.cells RW 58) = w1 at *
  have hb2 : Below w1.heap.size w1 (w1.alloc (.cells (tbR room 0 wd w.heap.size N).toArray 56)) := (Below.refl _ _).alloc (Nat.le_refl _) _
  have hn2 := Bx.new w1 56 (tbR room 0 wd w.heap.size N)
  refine ⟨w1.heap.size, w.heap.size, wd, by rw [hs1]; rfl, ⟨List.replicate N emp, ⟨?_, hn1.up hb2, by rw [List.length_replicate]; exact HN.out, HS.out.1, HS.out.2.1⟩, Opn.new _ _, by rw [heldL_zero], List.Pairwise.nil, Nat.zero_le _, HS.out.2.2, HP1.out⟩, by omega, Nat.le_refl _, below_up hb1 hb2 (by omega)⟩
  rw [List.length_replicate]
  exact hn2
end Go.Proofs.Ytoliijajhikhgaa
