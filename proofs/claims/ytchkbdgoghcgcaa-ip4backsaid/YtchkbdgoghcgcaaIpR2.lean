/- The document's ip4: Parse. Proved: what it returns, for every text (of at most a million bytes). -/
import Derived.Test.YtchkbdgoghcgcaaIpR1
namespace Go.Proofs.Ytchkbdgoghcgcaa
open Go Go.RowKit

theorem wpList_index_str {ops : Array Oper} {rest : List Oper} {o : Oper} {a : Act} {w : World} {Q : Exit → Act → World → Prop} (hgd : o.guard = none) (x : Operand) (j : Int) (k : Nat) (hj : j = (k : Int)) (l : List UInt8) (ho : o.op = .index 9 x (.const (.int .i64 j)))
    (hx : a.eval x = .string ⟨l.toArray⟩) (hk : k < l.length) (hR : wpList Try.prog ops Q rest (a.put o.dst (.int .u8 (byteAt l k))) w) : wpList Try.prog ops Q (o :: rest) a w :=
  wpList_plain hgd fun K hK => by
    unfold Oper.wp
    rw [exec_index x j k hj l ho rfl hx hk]
    exact hK _ _ hR

set_option maxHeartbeats 1000000 in
theorem rparse_short (l : List UInt8) (w : World) (h20 : l.length < 20) :
    Calls Try.prog 11 #[.string ⟨l.toArray⟩] w fun r w' => r = .returned (.tuple #[hdrZero.val, .int .i64 10]) ∧ Below w.heap.size w w' := by
  have hz : (⟨l.toArray⟩ : ByteArray).size = l.length := by simp [ByteArray.size]
  go_enter Try.func11, Try.ntmps11
  go_wp2_with (refine wpList_store_new rfl (.tmp 2) (.tmp 10) rfl hdrZero _ rfl rfl rfl ?_)
  exact bodyPost_ret (results_hdr2 Try.results11 _ _ w.heap.size hdrZero rfl (heap_alloc_new w _)) rfl ⟨rfl, (Below.refl _ _).alloc (Nat.le_refl _) _⟩

set_option maxHeartbeats 1000000 in
theorem rparse_version (l : List UInt8) (w : World) (h20 : 20 ≤ l.length) (hx : byteAt l 0 < 64 ∨ 79 < byteAt l 0) :
    Calls Try.prog 11 #[.string ⟨l.toArray⟩] w fun r w' => r = .returned (.tuple #[hdrZero.val, .int .i64 12]) ∧ Below w.heap.size w w' := by
  have hz : (⟨l.toArray⟩ : ByteArray).size = l.length := by simp [ByteArray.size]
  have HL : Hid (0 < l.length) := show 0 < l.length by omega
  have x0 := byteAt_nonneg l 0
  have x1 := byteAt_le l 0
  have hq : ¬ byteAt l 0 / 16 = 4 := by omega
  clear hx
  go_enter Try.func11, Try.ntmps11
  go_wp2_with (first | (refine wpList_index_str rfl (.tmp 11) 0 0 rfl l rfl rfl HL.out ?_) | (refine wpList_store_new rfl (.tmp 2) (.tmp 15) rfl hdrZero _ rfl rfl rfl ?_))
  exact bodyPost_ret (results_hdr2 Try.results11 _ _ w.heap.size hdrZero rfl (heap_alloc_new w _)) rfl ⟨rfl, (Below.refl _ _).alloc (Nat.le_refl _) _⟩

theorem rbit (n : Nat) (h : n ≤ 65535) : ((IntKind.i64.wrap ((n : Int) / 16384)).tmod 2 == 1) = decide (n / 16384 % 2 = 1) ∧ ((IntKind.i64.wrap ((n : Int) / 8192)).tmod 2 == 1) = decide (n / 8192 % 2 = 1) ∧ ((n : Int)).tmod 8192 = ((n % 8192 : Nat) : Int) := by
  have e1 : IntKind.i64.wrap ((n : Int) / 16384) = ((n / 16384 : Nat) : Int) := by rw [IntKind.wrap_i64]; omega
  have e2 : IntKind.i64.wrap ((n : Int) / 8192) = ((n / 8192 : Nat) : Int) := by rw [IntKind.wrap_i64]; omega
  refine ⟨?_, ?_, ?_⟩
  · rw [e1, Int.tmod_eq_emod_of_nonneg (by omega), Bool.eq_iff_iff, beq_iff_eq, decide_eq_true_iff]; omega
  · rw [e2, Int.tmod_eq_emod_of_nonneg (by omega), Bool.eq_iff_iff, beq_iff_eq, decide_eq_true_iff]; omega
  · rw [Int.tmod_eq_emod_of_nonneg (by omega)]; omega
theorem rread_eq (l : List UInt8) (Z : Nat) (hZ : hlenN l = Z) : (#[.int .u8 (byteAt l 1), .int .i64 (wordAt l 2 : Int), .int .u16 (IntKind.u16.wrap (wordAt l 4 : Int)), .bool ((IntKind.i64.wrap ((wordAt l 6 : Int) / 16384)).tmod 2 == 1), .bool ((IntKind.i64.wrap ((wordAt l 6 : Int) / 8192)).tmod 2 == 1), .int .i64 ((wordAt l 6 : Int).tmod 8192),
    .int .u8 (byteAt l 8), .int .u8 (byteAt l 9), .int .u8 (byteAt l 12), .int .u8 (byteAt l 13), .int .u8 (byteAt l 14), .int .u8 (byteAt l 15), .int .u8 (byteAt l 16), .int .u8 (byteAt l 17), .int .u8 (byteAt l 18), .int .u8 (byteAt l 19), .string ⟨((l.take Z).drop 20).toArray⟩] : Array Value) = (ip4R l).cells := by
  have hle := wordAt_le l 4
  obtain ⟨r1, r2, r3⟩ := rbit _ (wordAt_le l 6)
  rw [r1, r2, r3, show IntKind.u16.wrap (wordAt l 4 : Int) = (wordAt l 4 : Int) by rw [IntKind.wrap_u16]; omega, ← hZ]
  rfl

set_option maxRecDepth 100000 in
set_option maxHeartbeats 4000000 in
theorem rparse_more (l : List UInt8) (w : World) (h20 : 20 ≤ l.length) (hlim : l.length ≤ 1000000) (hx1 : 64 ≤ byteAt l 0) (hx2 : byteAt l 0 ≤ 79) :
    Calls Try.prog 11 #[.string ⟨l.toArray⟩] w fun r w' => r = .returned (.tuple #[(ip4H l).val, .int .i64 (ip4C l)]) ∧ Below w.heap.size w w' := by
  have hz : (⟨l.toArray⟩ : ByteArray).size = l.length := by simp [ByteArray.size]
  have HL : Hid (0 < l.length) := show 0 < l.length by omega
  have HN2 := Lib.hid (fun W => rnum_any l 2 W hlim (by omega))
  obtain ⟨y, hy⟩ : ∃ y : Nat, byteAt l 0 = 64 + (y : Int) := ⟨(byteAt l 0 - 64).toNat, by omega⟩
  have hyl : y ≤ 15 := by omega
  have ehl : hlenN l = 4 * y := by
    unfold hlenN
    have : ((l.getD 0 0).toNat : Int) = 64 + (y : Int) := hy
    omega
  have ev : ¬ (l.getD 0 0).toNat / 16 ≠ 4 := by
    have : ((l.getD 0 0).toNat : Int) = 64 + (y : Int) := hy
    omega
  have hlen := wordAt_le l 2
  obtain ⟨Z, hZ⟩ : ∃ Z : Nat, Z = 4 * y := ⟨_, rfl⟩
  rw [← hZ] at ehl
  have eC : ip4C l = if Z < 20 ∨ l.length < Z ∨ wordAt l 2 < Z ∨ l.length < wordAt l 2 then 13 else if fold16 (wsum false (l.take Z)) ≠ 65535 then 14 else 0 := by
    unfold ip4C
    rw [if_neg (by omega), if_neg ev, ehl]
  have EC := Lib.hid eC
  have EHL := Lib.hid ehl
  have hq : byteAt l 0 / 16 = 4 := by omega
  have hZ2 : 4 * (byteAt l 0 % 16) = (Z : Int) := by omega
  have hr0 : 0 ≤ byteAt l 0 % 16 := by omega
  have hr1 : byteAt l 0 % 16 ≤ 15 := by omega
  have HZ := Lib.hid hZ
  clear eC ehl ev hZ hy
  go_enter Try.func11, Try.ntmps11
  go_wp2_with (first | (refine wpList_index_str rfl (.tmp 11) 0 0 rfl l rfl rfl HL.out ?_) | (refine wpList_index_str rfl (.tmp 16) 0 0 rfl l rfl rfl HL.out ?_) | (go_at_call 23; refine (HN2.out _).mono ?_; rintro e w' ⟨rfl, rfl⟩; refine Hid.out ?_))
  refine Lib.hid ?_
  have hg2 := heap_alloc_new w (.cells #[.int .u8 0, .int .i64 0, .int .u16 0, .bool false, .bool false, .int .i64 0, .int .u8 0, .int .u8 0, .int .u8 0, .int .u8 0, .int .u8 0, .int .u8 0, .int .u8 0, .int .u8 0, .int .u8 0, .int .u8 0, .string ⟨#[]⟩] 27)
  have hb1 : Below w.heap.size w (w.alloc (.cells #[.int .u8 0, .int .i64 0, .int .u16 0, .bool false, .bool false, .int .i64 0, .int .u8 0, .int .u8 0, .int .u8 0, .int .u8 0, .int .u8 0, .int .u8 0, .int .u8 0, .int .u8 0, .int .u8 0, .int .u8 0, .string ⟨#[]⟩] 27)) := (Below.refl _ _).alloc (Nat.le_refl _) _
  generalize (w.alloc (.cells #[.int .u8 0, .int .i64 0, .int .u16 0, .bool false, .bool false, .int .i64 0, .int .u8 0, .int .u8 0, .int .u8 0, .int .u8 0, .int .u8 0, .int .u8 0, .int .u8 0, .int .u8 0, .int .u8 0, .int .u8 0, .string ⟨#[]⟩] 27)) = w1 at *
  generalize hZr : (#[.int .u8 0, .int .i64 0, .int .u16 0, .bool false, .bool false, .int .i64 0, .int .u8 0, .int .u8 0, .int .u8 0, .int .u8 0, .int .u8 0, .int .u8 0, .int .u8 0, .int .u8 0, .int .u8 0, .int .u8 0, .string ⟨#[]⟩] : Array Value) = zr at hg2
  have HZr : Hid (zr.size = 17) := by rw [← hZr]; rfl
  clear hZr HN2
  have HG2 := Lib.hid hg2
  have HB1 := Lib.hid hb1
  clear hg2 hb1 hZ2 hr0 hr1 hq hx1 hx2
  by_cases hC : Z < 20 ∨ l.length < Z ∨ wordAt l 2 < Z ∨ l.length < wordAt l 2
  · have e1 : ip4C l = 13 := by rw [EC.out, if_pos hC]
    have e2 : ip4H l = hdrZero := by unfold ip4H; rw [e1]; rfl
    have E1 := Lib.hid e1
    have E2 := Lib.hid e2
    clear e1 e2
    generalize wordAt l 2 = A at *
    have hC2 : Z < 20 ∨ (¬ Z < 20 ∧ l.length < Z) ∨ (¬ Z < 20 ∧ ¬ l.length < Z ∧ A < Z) ∨ (¬ Z < 20 ∧ ¬ l.length < Z ∧ ¬ A < Z ∧ l.length < A) := by omega
    clear hC
    rcases hC2 with hC | ⟨hC0, hC⟩ | ⟨hC0, hC1, hC⟩ | ⟨hC0, hC1, hC2, hC⟩
    all_goals
      go_wp2_with (refine wpList_store_hdr rfl (.tmp 2) (.tmp 42) rfl w.heap.size hdrZero _ rfl rfl HG2.out HZr.out ?_)
      refine bodyPost_ret (results_hdr2 Try.results11 _ _ w.heap.size hdrZero rfl (setRow_heap _ _ _ _ _ _ HG2.out)) rfl ⟨?_, below_setRow HB1.out (Nat.le_refl _) _⟩
      rw [E1.out, E2.out]; rfl
  · have hz20 : 20 ≤ Z := by omega
    have hzl : Z ≤ l.length := by omega
    have hzA : Z ≤ wordAt l 2 := by omega
    have hAl : wordAt l 2 ≤ l.length := by omega
    have hz60 : Z ≤ 60 := by have := HZ.out; omega
    have xZ : (⟨l.toArray⟩ : ByteArray).extract 0 Z = ⟨(l.take Z).toArray⟩ := by rw [extract_mk]; simp
    have hl1 : (l.take Z).length = Z := by rw [List.length_take]; omega
    have HRw := Lib.hid (fun W => rraw_any ⟨(l.take Z).toArray⟩ W (by show (l.take Z).toArray.size ≤ 1000000; simp; omega))
    have hbx : fold16 (wsum false (l.take Z)) ≤ 65535 := fold16_le _
    rw [show (⟨(l.take Z).toArray⟩ : ByteArray).data.toList = l.take Z from rfl] at HRw
    have EC2 := EC.out
    rw [if_neg hC] at EC2
    have zN : ((Z : Int)).toNat = Z := Int.toNat_natCast Z
    have zc : (Z : Int) ≤ (l.length : Int) := by omega
    clear hl1 hC
    generalize hT : fold16 (wsum false (l.take Z)) = T at *
    by_cases hs : T = 65535
    · have e1 : ip4C l = 0 := by rw [EC2, if_neg (by simp [hs])]
      have e2 : ip4H l = ip4R l := by unfold ip4H; rw [e1]; rfl
      have E1 := Lib.hid e1
      have E2 := Lib.hid e2
      have HN6 := Lib.hid (fun W => rnum_any l 6 W hlim (by omega))
      have HN4 := Lib.hid (fun W => rnum_any l 4 W hlim (by omega))
      have HF12 := Lib.hid (fun W => rfour_any (l.drop 12) W (by rw [List.length_drop]; omega))
      have HF16 := Lib.hid (fun W => rfour_any (l.drop 16) W (by rw [List.length_drop]; omega))
      simp only [byteAt_drop] at HF12 HF16
      have x12 : (⟨l.toArray⟩ : ByteArray).extract 12 l.length = ⟨(l.drop 12).toArray⟩ := by rw [extract_mk, List.take_of_length_le (by simp)]
      have x16 : (⟨l.toArray⟩ : ByteArray).extract 16 l.length = ⟨(l.drop 16).toArray⟩ := by rw [extract_mk, List.take_of_length_le (by simp)]
      have x20 : (⟨l.toArray⟩ : ByteArray).extract 20 Z = ⟨((l.take Z).drop 20).toArray⟩ := by rw [extract_mk, List.drop_take]
      have L1 : Hid (1 < l.length ∧ 8 < l.length ∧ 9 < l.length) := show 1 < l.length ∧ 8 < l.length ∧ 9 < l.length by omega
      clear e1 e2 EC2 EC
      subst hs
      clear hT
      go_wp2_with (first | (go_at_call 24; refine (HRw.out _).mono ?_; rintro e w' ⟨rfl, rfl⟩) | (go_at_call 23; refine (HN6.out _).mono ?_; rintro e w' ⟨rfl, rfl⟩; refine Hid.out ?_))
      refine Lib.hid ?_
      go_wp2_with fail
      have p12 : (12 : Int) ≤ (l.length : Int) := by omega
      have p16 : (16 : Int) ≤ (l.length : Int) := by omega
      have p20 : (20 : Int) ≤ (Z : Int) := by omega
      refine wp_region_noPanic ?_
      refine wp_region_held_drew (S := fun W => Below w.heap.size w W) (by kernel_rfl) HB1.out.drew (fun hHeld => ?_)
      refine held_take (v := ?v144) 0 rfl (by kernel_rfl) (by kernel_rfl) (by kernel_rfl) (fun _ _ _ h => h) (by rfl) ?y144 (by assumption) ?_
      case y144 => (intro w hSw; (try dsimp only at hSw); go_simp; try with_reducible rfl)
      simp only [List.setIfInBounds_toArray, List.set_cons_zero, List.set_cons_succ]
      refine held_take (v := ?v147) 2 rfl (by kernel_rfl) (by kernel_rfl) (by kernel_rfl) (fun _ _ _ h => h) (by rfl) ?y147 (by assumption) ?_
      case y147 => (intro w hSw; (try dsimp only at hSw); go_simp; try with_reducible rfl)
      simp only [List.setIfInBounds_toArray, List.set_cons_zero, List.set_cons_succ]
      refine held_take (v := ?v150) 3 rfl (by kernel_rfl) (by kernel_rfl) (by kernel_rfl) (fun _ _ _ h => h) (by rfl) ?y150 (by assumption) ?_
      case y150 => (intro w hSw; (try dsimp only at hSw); go_simp; try with_reducible rfl)
      simp only [List.setIfInBounds_toArray, List.set_cons_zero, List.set_cons_succ]
      refine held_take (v := ?v153) 6 rfl (by kernel_rfl) (by kernel_rfl) (by kernel_rfl) (fun _ _ _ h => h) (by rfl) ?y153 (by assumption) ?_
      case y153 => (intro w hSw; (try dsimp only at hSw); go_simp; try with_reducible rfl)
      simp only [List.setIfInBounds_toArray, List.set_cons_zero, List.set_cons_succ]
      refine held_take (v := ?v156) 7 rfl (by kernel_rfl) (by kernel_rfl) (by kernel_rfl) (fun _ _ _ h => h) (by rfl) ?y156 (by assumption) ?_
      case y156 => (intro w hSw; (try dsimp only at hSw); go_simp; try with_reducible rfl)
      simp only [List.setIfInBounds_toArray, List.set_cons_zero, List.set_cons_succ]
      refine held_take (v := ?v159) 8 rfl (by kernel_rfl) (by kernel_rfl) (by kernel_rfl) (fun _ _ _ h => h) (by rfl) ?y159 (by assumption) ?_
      case y159 => (intro w hSw; (try dsimp only at hSw); go_simp; try with_reducible rfl)
      simp only [List.setIfInBounds_toArray, List.set_cons_zero, List.set_cons_succ]
      refine held_take (v := ?v162) 9 rfl (by kernel_rfl) (by kernel_rfl) (by kernel_rfl) (fun _ _ _ h => h) (by rfl) ?y162 (by assumption) ?_
      case y162 => (intro w hSw; (try dsimp only at hSw); go_simp; try with_reducible rfl)
      simp only [List.setIfInBounds_toArray, List.set_cons_zero, List.set_cons_succ]
      refine held_take (v := ?v165) 10 rfl (by kernel_rfl) (by kernel_rfl) (by kernel_rfl) (fun _ _ _ h => h) (by rfl) ?y165 (by assumption) ?_
      case y165 => (intro w hSw; (try dsimp only at hSw); go_simp; try with_reducible rfl)
      simp only [List.setIfInBounds_toArray, List.set_cons_zero, List.set_cons_succ]
      refine held_take (v := ?v168) 11 rfl (by kernel_rfl) (by kernel_rfl) (by kernel_rfl) (fun _ _ _ h => h) (by rfl) ?y168 (by assumption) ?_
      case y168 => (intro w hSw; (try dsimp only at hSw); go_simp; try with_reducible rfl)
      simp only [List.setIfInBounds_toArray, List.set_cons_zero, List.set_cons_succ]
      refine held_take (v := ?v171) 12 rfl (by kernel_rfl) (by kernel_rfl) (by kernel_rfl) (fun _ _ _ h => h) (by rfl) ?y171 (by assumption) ?_
      case y171 => (intro w hSw; (try dsimp only at hSw); go_simp; try with_reducible rfl)
      simp only [List.setIfInBounds_toArray, List.set_cons_zero, List.set_cons_succ]
      refine held_take (v := ?v174) 13 rfl (by kernel_rfl) (by kernel_rfl) (by kernel_rfl) (fun _ _ _ h => h) (by rfl) ?y174 (by assumption) ?_
      case y174 => (intro w hSw; (try dsimp only at hSw); go_simp; try with_reducible rfl)
      simp only [List.setIfInBounds_toArray, List.set_cons_zero, List.set_cons_succ]
      refine held_take (v := ?v177) 14 rfl (by kernel_rfl) (by kernel_rfl) (by kernel_rfl) (fun _ _ _ h => h) (by rfl) ?y177 (by assumption) ?_
      case y177 => (intro w hSw; (try dsimp only at hSw); go_simp; try with_reducible rfl)
      simp only [List.setIfInBounds_toArray, List.set_cons_zero, List.set_cons_succ]
      refine held_take (v := ?v180) 15 rfl (by kernel_rfl) (by kernel_rfl) (by kernel_rfl) (fun _ _ _ h => h) (by rfl) ?y180 (by assumption) ?_
      case y180 => (intro w hSw; (try dsimp only at hSw); go_simp; try with_reducible rfl)
      simp only [List.setIfInBounds_toArray, List.set_cons_zero, List.set_cons_succ]
      refine held_take (v := ?v183) 16 rfl (by kernel_rfl) (by kernel_rfl) (by kernel_rfl) (fun _ _ _ h => h) (by rfl) ?y183 (by assumption) ?_
      case y183 => (intro w hSw; (try dsimp only at hSw); go_simp; try with_reducible rfl)
      simp only [List.setIfInBounds_toArray, List.set_cons_zero, List.set_cons_succ]
      refine held_take (v := ?v186) 18 rfl (by kernel_rfl) (by kernel_rfl) (by kernel_rfl) (fun _ _ _ h => h) (by rfl) ?y186 (by assumption) ?_
      case y186 => (intro w hSw; (try dsimp only at hSw); go_simp; try with_reducible rfl)
      simp only [List.setIfInBounds_toArray, List.set_cons_zero, List.set_cons_succ]
      refine held_take (v := ?v189) 20 rfl (by kernel_rfl) (by kernel_rfl) (by kernel_rfl) (fun _ _ _ h => h) (by rfl) ?y189 (by assumption) ?_
      case y189 => (intro w hSw; (try dsimp only at hSw); go_simp; try with_reducible rfl)
      simp only [List.setIfInBounds_toArray, List.set_cons_zero, List.set_cons_succ]
      refine held_take (v := ?v192) 21 rfl (by kernel_rfl) (by kernel_rfl) (by kernel_rfl) (fun _ _ _ h => h) (by rfl) ?y192 (by assumption) ?_
      case y192 => (intro w hSw; (try dsimp only at hSw); go_simp; try with_reducible rfl)
      simp only [List.setIfInBounds_toArray, List.set_cons_zero, List.set_cons_succ]
      refine held_take (v := ?v195) 23 rfl (by kernel_rfl) (by kernel_rfl) (by kernel_rfl) (fun _ _ _ h => h) (by rfl) ?y195 (by assumption) ?_
      case y195 => (intro w hSw; (try dsimp only at hSw); go_simp; try with_reducible rfl)
      simp only [List.setIfInBounds_toArray, List.set_cons_zero, List.set_cons_succ]
      refine held_take (v := ?v198) 24 rfl (by kernel_rfl) (by kernel_rfl) (by kernel_rfl) (fun _ _ _ h => h) (by rfl) ?y198 (by assumption) ?_
      case y198 => (intro w hSw; (try dsimp only at hSw); go_simp; try with_reducible rfl)
      simp only [List.setIfInBounds_toArray, List.set_cons_zero, List.set_cons_succ]
      refine held_take (v := ?v201) 26 rfl (by kernel_rfl) (by kernel_rfl) (by kernel_rfl) (fun _ _ _ h => h) (by rfl) ?y201 (by assumption) ?_
      case y201 => (intro w hSw; (try dsimp only at hSw); go_simp; try with_reducible rfl)
      simp only [List.setIfInBounds_toArray, List.set_cons_zero, List.set_cons_succ]
      refine held_take (v := ?v204) 27 rfl (by kernel_rfl) (by kernel_rfl) (by kernel_rfl) (fun _ _ _ h => h) (by rfl) ?y204 (by assumption) ?_
      case y204 => (intro w hSw; (try dsimp only at hSw); go_simp; try with_reducible rfl)
      simp only [List.setIfInBounds_toArray, List.set_cons_zero, List.set_cons_succ]
      refine held_take (v := ?v207) 28 rfl (by kernel_rfl) (by kernel_rfl) (by kernel_rfl) (fun _ _ _ h => h) (by rfl) ?y207 (by assumption) ?_
      case y207 => (intro w hSw; (try dsimp only at hSw); go_simp; try with_reducible rfl)
      simp only [List.setIfInBounds_toArray, List.set_cons_zero, List.set_cons_succ]
      refine held_take (v := .int .u8 (byteAt l 1)) 1 rfl (by kernel_rfl) (by kernel_rfl) (by kernel_rfl) (fun _ _ _ h => h) (by rfl) (fun W _ => exec_index (.tmp 51) 1 1 rfl l rfl rfl rfl L1.out.1) (by assumption) ?_
      simp only [List.setIfInBounds_toArray, List.set_cons_zero, List.set_cons_succ]
      refine held_take (v := .int .u8 (byteAt l 8)) 17 rfl (by kernel_rfl) (by kernel_rfl) (by kernel_rfl) (fun _ _ _ h => h) (by rfl) (fun W _ => exec_index (.tmp 67) 8 8 rfl l rfl rfl rfl L1.out.2.1) (by assumption) ?_
      simp only [List.setIfInBounds_toArray, List.set_cons_zero, List.set_cons_succ]
      refine held_take (v := .int .u8 (byteAt l 9)) 19 rfl (by kernel_rfl) (by kernel_rfl) (by kernel_rfl) (fun _ _ _ h => h) (by rfl) (fun W _ => exec_index (.tmp 69) 9 9 rfl l rfl rfl rfl L1.out.2.2) (by assumption) ?_
      simp only [List.setIfInBounds_toArray, List.set_cons_zero, List.set_cons_succ]
      refine held_one 4 rfl (by kernel_rfl) (by rfl) (fun K hK => ?_)
      go_simp
      refine (HN4.out _).mono ?_
      rintro e w' ⟨rfl, rfl⟩
      refine hK.out _ _ hHeld (fun hHeld => ?_)
      clear hK K
      refine held_take (v := ?v222) 5 rfl (by kernel_rfl) (by kernel_rfl) (by kernel_rfl) (fun _ _ _ h => h) (by rfl) ?y222 (by assumption) ?_
      case y222 => (intro w hSw; (try dsimp only at hSw); go_simp; try with_reducible rfl)
      simp only [List.setIfInBounds_toArray, List.set_cons_zero, List.set_cons_succ]
      refine held_one 22 rfl (by kernel_rfl) (by rfl) (fun K hK => ?_)
      go_simp
      refine (HF12.out _).mono ?_
      rintro e w3 ⟨rfl, b3⟩
      have g3 : Below w1.heap.size w1 w3 := below_up (Below.refl _ _).drew b3 (Nat.le_refl _)
      refine hK.out _ _ (below_up HB1.out g3 HB1.out.size) (fun hHeld3 => ?_)
      clear hK K b3
      refine held_one 25 rfl (by kernel_rfl) (by rfl) (fun K hK => ?_)
      go_simp
      refine (HF16.out _).mono ?_
      rintro e w4 ⟨rfl, b4⟩
      have g4 : Below w1.heap.size w1 w4 := below_up g3 b4 g3.size
      refine hK.out _ _ (below_up HB1.out g4 HB1.out.size) (fun hHeld4 => ?_)
      clear hK K b4 g3 hHeld3
      refine held_take (v := ?v239) 29 rfl (by kernel_rfl) (by kernel_rfl) (by kernel_rfl) (fun _ _ _ h => h) (by rfl) ?y239 (by assumption) ?_
      case y239 => (intro w hSw; (try dsimp only at hSw); go_simp; try with_reducible rfl)
      simp only [List.setIfInBounds_toArray, List.set_cons_zero, List.set_cons_succ]
      have hg4 := (g4.block w.heap.size (Array.getElem?_eq_some_iff.1 HG2.out).1).trans HG2.out
      refine held_none 30 rfl (by kernel_rfl) (by rfl) (fun K hK => ?_)
      refine wp_store_row _ (.tmp 2) (.tmp 80) rfl w.heap.size (ip4R l).cells rfl (congrArg Value.agg (rread_eq l Z EHL.out)) _ _ hg4 (hdr_infoC _) HZr.out (hdr_one _) ?_
      have gS := below_setRow (below_up HB1.out g4 HB1.out.size) (Nat.le_refl _) (ip4R l).cells
      have gH := setRow_heap _ _ _ (ip4R l).cells _ _ hg4
      refine hK.out _ _ gS (fun hHeld5 => ?_)
      clear hK K hHeld4
      have GS := Lib.hid gS
      have GH := Lib.hid gH
      clear gS gH hg4 g4
      generalize (w4.setRow w.heap.size (ip4R l).cells) = w5 at *
      refine held_take (v := ?v253) 31 rfl (by kernel_rfl) (by kernel_rfl) (by kernel_rfl) (fun _ _ _ h => h) (by rfl) ?y253 (by assumption) ?_
      case y253 => (intro w hSw; (try dsimp only at hSw); go_simp; try with_reducible rfl)
      simp only [List.setIfInBounds_toArray, List.set_cons_zero, List.set_cons_succ]
      refine wpAnyH_done (by kernel_rfl) ?_ _
      refine NoPanic.normal ?_
      clear hHeld5 hHeld
      go_wp2
      refine bodyPost_ret (results_hdr2 Try.results11 _ _ w.heap.size (ip4R l) rfl GH.out) rfl ⟨?_, GS.out⟩
      rw [E1.out, E2.out]; rfl
    · have e1 : ip4C l = 14 := by rw [EC2, if_pos hs]
      have e2 : ip4H l = hdrZero := by unfold ip4H; rw [e1]; rfl
      have E1 := Lib.hid e1
      have E2 := Lib.hid e2
      have hs2 : ¬ (T : Int) = 65535 := by omega
      clear e1 e2 EC2 hT hs EC
      go_wp2_with (first | (go_at_call 24; refine (HRw.out _).mono ?_; rintro e w' ⟨rfl, rfl⟩) | (refine wpList_store_hdr rfl (.tmp 2) (.tmp 48) rfl w.heap.size hdrZero _ rfl rfl HG2.out HZr.out ?_))
      refine bodyPost_ret (results_hdr2 Try.results11 _ _ w.heap.size hdrZero rfl (setRow_heap _ _ _ _ _ _ HG2.out)) rfl ⟨?_, below_setRow HB1.out (Nat.le_refl _) _⟩
      rw [E1.out, E2.out]; rfl

theorem rparse_any (l : List UInt8) (w : World) (hlim : l.length ≤ 1000000) :
    Calls Try.prog 11 #[.string ⟨l.toArray⟩] w fun r w' => r = .returned (.tuple #[(ip4H l).val, .int .i64 (ip4C l)]) ∧ Below w.heap.size w w' := by
  by_cases h20 : l.length < 20
  · have e1 : ip4C l = 10 := by unfold ip4C; rw [if_pos h20]
    have e2 : ip4H l = hdrZero := by unfold ip4H; rw [e1]; rfl
    rw [e1, e2]
    exact rparse_short l w h20
  · have ex : byteAt l 0 = ((l.getD 0 0).toNat : Int) := rfl
    by_cases hx : byteAt l 0 < 64 ∨ 79 < byteAt l 0
    · have e1 : ip4C l = 12 := by unfold ip4C; rw [if_neg h20, if_pos (by omega)]
      have e2 : ip4H l = hdrZero := by unfold ip4H; rw [e1]; rfl
      rw [e1, e2]
      exact rparse_version l w (by omega) hx
    · exact rparse_more l w (by omega) hlim (by omega) (by omega)
end Go.Proofs.Ytchkbdgoghcgcaa
