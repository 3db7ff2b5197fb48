/- PrefixMasks returns true, whatever it is given, and turns no old memory. -/
import Derived.Test.YtlbgmpjeckigjaaDoorAw8
namespace Go.Proofs.YtlbgmpjeckigjaaDoor
open Go Go.RowKit

theorem exec_min2 {ρ : Operand → Value} {o : Oper} {W : World} (x y : Operand) (ats : Array TypeId) (ho : o.op = .call { callee := .builtin .min, args := #[x, y], argTypes := ats }) (m n r : Int) (hx : ρ x = .int .i64 m) (hy : ρ y = .int .i64 n) (hr : min m n = r) :
    (execOp ρ o).run Tryd.prog W = .ok (.value (.int .i64 r)) W := by
  have h : (if n < m then n else m) = r := by rw [← hr]; split <;> omega
  have hrun := run_min_int2 (P := Tryd.prog) (w := W) ats o.type .i64 .i64 m n
  rw [h] at hrun
  simp [execOp, ho, resolve, invoke, builtin, hx, hy, hrun, Result.andThen]
theorem arr2P : IsArr 40 2 := ⟨by kernel_rfl, Tryd.underlying40, by kernel_rfl⟩
/-- What is held: the address, both prefixes. -/
def MaZ (w : World) (a : List UInt8) (P Q : Pfx) (g10 g11 : Nat) (W : World) : Prop := ArrT 22 W w.heap.size a ∧ PfxT W g10 P ∧ PfxT W g11 Q ∧ Below w.heap.size w W
theorem MaZ.up {w : World} {a : List UInt8} {P Q : Pfx} {g10 g11 : Nat} {W W' : World} (h : MaZ w a P Q g10 g11 W) (hb : Below W.heap.size W W') : MaZ w a P Q g10 g11 W' := ⟨h.1.up hb, h.2.1.up hb, h.2.2.1.up hb, below_up h.2.2.2 hb h.2.2.2.size⟩
theorem MaZ.drew {w : World} {a : List UInt8} {P Q : Pfx} {g10 g11 : Nat} {W : World} (h : MaZ w a P Q g10 g11 W) : MaZ w a P Q g10 g11 W.drew := ⟨h.1, h.2.1, h.2.2.1, h.2.2.2.drew⟩
set_option maxRecDepth 100000 in
set_option maxHeartbeats 8000000 in
theorem pmasks_walk (s : Bool) (a : List UInt8) (m n : Int) (w : World) (ha : a.length = 16) (m0 : 0 ≤ m) (m1 : m ≤ 255) (n0 : 0 ≤ n) (n1 : n ≤ 255) (hE : Env8 w) :
    Calls Tryd.prog 8 #[.bool s, arrV a, .agg #[.int .u8 m, .int .u8 n]] w fun e w' => e = .returned (.bool true) ∧ Below w.heap.size w w' := by
  have HAw := Lib.hid (fun W h => awake8_any W h)
  generalize hW : (w.alloc (.cells (byteVals a).toArray 22)).alloc (.cells #[.int .u8 m, .int .u8 n] 40) = W
  have zE : Env8 W := by rw [← hW]; exact (hE.al _).al _
  have zA : ArrT 22 W w.heap.size a := by rw [← hW]; exact (arrT_new w a).allocO _
  have zB : W.heap[w.heap.size + 1]? = some (.cells #[.int .u8 m, .int .u8 n] 40 (0, 0)) := by
    have := heap_alloc_new (w.alloc (.cells (byteVals a).toArray 22)) (.cells #[.int .u8 m, .int .u8 n] 40)
    rw [World.size_alloc, hW] at this
    exact this
  have zb : Below w.heap.size w W := by rw [← hW]; exact ((Below.refl _ _).alloc (Nat.le_refl _) _).alloc (by simp) _
  have Z := Lib.hid (And.intro zE (And.intro zA (And.intro zB zb)))
  rw [← hW] at Z
  have HA16 := Lib.hid ha
  have H5 := Lib.hid (fun W => pof_any s a m W ha)
  have H6 := Lib.hid (fun W => pof_any s a n W ha)
  have HP := Lib.hid (of_len s a m)
  have HQ := Lib.hid (of_len s a n)
  have hoo := of_of s a m n
  have h1 := fun W => pof_any s (ofP s a n).addr (min m (ofP s a n).len) W HQ.out
  rw [hoo] at h1
  have H2 := Lib.hid (fun W => pof_any s a (min m n) W ha)
  have HX := Lib.hid (of_len s a (min m n))
  have H3c : Hid (m ≤ n → ∀ W, Calls Tryd.prog 22 #[(ofP s a m).val, (ofP s a n).val] W fun r w' => r = .returned (.bool true) ∧ Below W.heap.size W w') := fun h W => by
    have := covers_any (ofP s a m) (ofP s a n) W (of_len s a m) (of_len s a n)
    rw [of_cov s a m n h] at this
    exact this
  have H4c : Hid (n ≤ m → ∀ W, Calls Tryd.prog 22 #[(ofP s a n).val, (ofP s a m).val] W fun r w' => r = .returned (.bool true) ∧ Below W.heap.size W w') := fun h W => by
    have := covers_any (ofP s a n) (ofP s a m) W (of_len s a n) (of_len s a m)
    rw [of_cov s a n m h] at this
    exact this
  obtain ⟨k1, hk1⟩ : ∃ k, min m (ofP s a n).len = k := ⟨_, rfl⟩
  obtain ⟨k2, hk2⟩ : ∃ k, min m n = k := ⟨_, rfl⟩
  rw [hk1] at h1
  have H1 := Lib.hid h1
  have HK1 := Lib.hid hk1
  have HK2 := Lib.hid hk2
  rw [hk2] at H1 H2 HX
  rw [show arrV a = .agg (byteVals a).toArray from rfl]
  clear ha hW zE zA zB zb hoo h1 hk1 hk2 hE
  clear W
  generalize ofP s a k2 = X at *
  generalize ofP s a m = P at *
  generalize ofP s a n = Q at *
  go_enter Tryd.func8, Tryd.ntmps8
  go_wp2_with (go_at_call 9; refine (HAw.out _ Z.out.1).mono ?_; rintro e w1 ⟨rfl, b1⟩; refine Hid.out ?_)
  refine Lib.hid ?_
  have z1 : ArrT 22 w1 w.heap.size a ∧ w1.heap[w.heap.size + 1]? = some (.cells #[.int .u8 m, .int .u8 n] 40 (0, 0)) ∧ Below w.heap.size w w1 := ⟨Z.out.2.1.up b1, (b1.block _ (Array.getElem?_eq_some_iff.1 Z.out.2.2.1).1).trans Z.out.2.2.1, below_up Z.out.2.2.2 b1 Z.out.2.2.2.size⟩
  have c0 : w1.cell? ⟨w.heap.size + 1, 0, none⟩ = some (.int .u8 m) := by rw [cell_of_row w1 _ 0 _ _ _ z1.2.1]; rfl
  have c1 : w1.cell? ⟨w.heap.size + 1, 1, none⟩ = some (.int .u8 n) := by rw [cell_of_row w1 _ 1 _ _ _ z1.2.1]; rfl
  have Z1 := Lib.hid z1
  clear z1 Z b1 HAw
  go_wp2_with (first | (refine wpList_load_arrT rfl (.tmp 4) rfl w.heap.size a (by rw [HA16.out]; exact arr16P) rfl Z1.out.1 ?_) | (go_at_call 14; refine (H5.out _).mono ?_; rintro e w2 ⟨rfl, b2⟩; refine Hid.out ?_))
  refine Lib.hid ?_
  have Z2 : Hid (ArrT 22 (w2.alloc (.cells P.cells 24)) w.heap.size a ∧ PfxT (w2.alloc (.cells P.cells 24)) w2.heap.size P ∧ Below w.heap.size w (w2.alloc (.cells P.cells 24))) := by
    have hb := below_up Z1.out.2.2 b2 Z1.out.2.2.size
    exact ⟨(Z1.out.1.up b2).allocO _, pfxT_new w2 P, hb.alloc hb.size _⟩
  clear Z1 b2 H5 c0 c1
  go_wp2_with (first | (refine wpList_store_newP rfl (.tmp 10) (.tmp 24) rfl P HP.out _ rfl rfl rfl ?_) | (refine wpList_load_arrT rfl (.tmp 4) rfl w.heap.size a (by rw [HA16.out]; exact arr16P) rfl Z2.out.1 ?_) | (go_at_call 14; refine (H6.out _).mono ?_; rintro e w3 ⟨rfl, b3⟩; refine Hid.out ?_))
  refine Lib.hid ?_
  have Z3 : Hid (MaZ w a P Q w2.heap.size w3.heap.size (w3.alloc (.cells Q.cells 24))) := by
    have hb := below_up Z2.out.2.2 b3 Z2.out.2.2.size
    exact ⟨(Z2.out.1.up b3).allocO _, (Z2.out.2.1.up b3).al _, pfxT_new w3 Q, hb.alloc hb.size _⟩
  clear Z2 b3 H6
  generalize w2.heap.size = g10 at *
  go_wp2_with (refine wpList_store_newP rfl (.tmp 11) (.tmp 28) rfl Q HQ.out _ rfl rfl rfl ?_)
  generalize w3.heap.size = g11 at *
  rcases Int.lt_trichotomy m n with h | h | h
  · have H3 := Lib.hid (H3c.out (by omega))
    clear H3c H4c
    go_wp2_with fail
    refine wp_region_noPanic ?_
    refine wp_region_held_drew (S := MaZ w a P Q g10 g11) (by kernel_rfl) Z3.out.drew (fun hHeld => ?_)
    clear Z3
    refine held_take (v := ?v92) 0 rfl (by kernel_rfl) (by kernel_rfl) (by kernel_rfl) (fun _ _ _ h => h) (by rfl) ?y92 (by assumption) ?_
    case y92 => (intro w hSw; unfold MaZ at hSw; go_simp; (try with_reducible rfl); (try omega))
    simp only [List.setIfInBounds_toArray, List.set_cons_zero, List.set_cons_succ]
    refine held_take (v := ?v95) 1 rfl (by kernel_rfl) (by kernel_rfl) (by kernel_rfl) (fun _ _ _ h => h) (by rfl) ?y95 (by assumption) ?_
    case y95 => (intro w hSw; unfold MaZ at hSw; go_simp; (try with_reducible rfl); (try omega))
    simp only [List.setIfInBounds_toArray, List.set_cons_zero, List.set_cons_succ]
    refine held_take (v := ?v98) 3 rfl (by kernel_rfl) (by kernel_rfl) (by kernel_rfl) (fun _ _ _ h => h) (by rfl) ?y98 (by assumption) ?_
    case y98 => (intro w hSw; unfold MaZ at hSw; go_simp; (try with_reducible rfl); (try omega))
    simp only [List.setIfInBounds_toArray, List.set_cons_zero, List.set_cons_succ]
    refine held_take (v := ?v101) 4 rfl (by kernel_rfl) (by kernel_rfl) (by kernel_rfl) (fun _ _ _ h => h) (by rfl) ?y101 (by assumption) ?_
    case y101 => (intro w hSw; unfold MaZ at hSw; go_simp; (try with_reducible rfl); (try omega))
    simp only [List.setIfInBounds_toArray, List.set_cons_zero, List.set_cons_succ]
    refine held_take (v := ?v104) 8 rfl (by kernel_rfl) (by kernel_rfl) (by kernel_rfl) (fun _ _ _ h => h) (by rfl) ?y104 (by assumption) ?_
    case y104 => (intro w hSw; unfold MaZ at hSw; go_simp; (try with_reducible rfl); (try omega))
    simp only [List.setIfInBounds_toArray, List.set_cons_zero, List.set_cons_succ]
    refine held_take (v := ?v107) 10 rfl (by kernel_rfl) (by kernel_rfl) (by kernel_rfl) (fun _ _ _ h => h) (by rfl) ?y107 (by assumption) ?_
    case y107 => (intro w hSw; unfold MaZ at hSw; go_simp; (try with_reducible rfl); (try omega))
    simp only [List.setIfInBounds_toArray, List.set_cons_zero, List.set_cons_succ]
    refine held_take (v := ?v110) 11 rfl (by kernel_rfl) (by kernel_rfl) (by kernel_rfl) (fun _ _ _ h => h) (by rfl) ?y110 (by assumption) ?_
    case y110 => (intro w hSw; unfold MaZ at hSw; go_simp; (try with_reducible rfl); (try omega))
    simp only [List.setIfInBounds_toArray, List.set_cons_zero, List.set_cons_succ]
    refine held_take (v := arrV Q.addr) 2 rfl (by kernel_rfl) (by kernel_rfl) (by kernel_rfl) (fun _ _ _ h => h) (by rfl) (fun W hSw => exec_load_adr (.tmp 30) rfl g11 Q HQ.out rfl hSw.2.2.1) (by assumption) ?_
    simp only [List.setIfInBounds_toArray, List.set_cons_zero, List.set_cons_succ]
    refine held_take (v := .int .i64 Q.len) 5 rfl (by kernel_rfl) (by kernel_rfl) (by kernel_rfl) (fun _ _ _ h => h) (by rfl) (fun W hSw => exec_load_len (.tmp 33) rfl g11 Q HQ.out rfl hSw.2.2.1) (by assumption) ?_
    simp only [List.setIfInBounds_toArray, List.set_cons_zero, List.set_cons_succ]
    refine held_take (v := arrV a) 9 rfl (by kernel_rfl) (by kernel_rfl) (by kernel_rfl) (fun _ _ _ h => h) (by rfl) (fun W hSw => exec_load_arrT (.tmp 4) rfl w.heap.size a (by rw [HA16.out]; exact arr16P) rfl hSw.1) (by assumption) ?_
    simp only [List.setIfInBounds_toArray, List.set_cons_zero, List.set_cons_succ]
    refine held_take (v := .int .i64 k1) 6 rfl (by kernel_rfl) (by kernel_rfl) (by kernel_rfl) (fun _ _ _ h => h) (by rfl) (fun W hSw => exec_min2 (.tmp 32) (.tmp 34) _ rfl m Q.len k1 rfl rfl HK1.out) (by assumption) ?_
    simp only [List.setIfInBounds_toArray, List.set_cons_zero, List.set_cons_succ]
    refine held_take (v := .int .i64 k2) 12 rfl (by kernel_rfl) (by kernel_rfl) (by kernel_rfl) (fun _ _ _ h => h) (by rfl) (fun W hSw => exec_min2 (.tmp 39) (.tmp 40) _ rfl m n k2 rfl rfl HK2.out) (by assumption) ?_
    simp only [List.setIfInBounds_toArray, List.set_cons_zero, List.set_cons_succ]
    refine held_one 7 rfl (by kernel_rfl) (by rfl) (fun K hK => ?_)
    go_simp
    refine (H1.out _).mono ?_
    rintro e v7 ⟨rfl, b7⟩
    refine hK.out _ _ (MaZ.up hHeld b7) (fun hHeld => ?_)
    clear hK K b7
    refine held_one 13 rfl (by kernel_rfl) (by rfl) (fun K hK => ?_)
    go_simp
    refine (H2.out _).mono ?_
    rintro e v13 ⟨rfl, b13⟩
    refine hK.out _ _ (MaZ.up hHeld b13) (fun hHeld => ?_)
    clear hK K b13
    refine held_take (v := .bool true) 14 rfl (by kernel_rfl) (by kernel_rfl) (by kernel_rfl) (fun _ _ _ h => h) (by rfl) (fun W hSw => by rw [exec_eql_pfx 36 42 _ rfl X X HX.out HX.out rfl rfl, eqP_self]) (by assumption) ?_
    simp only [List.setIfInBounds_toArray, List.set_cons_zero, List.set_cons_succ]
    refine held_take (v := ?v137) 15 rfl (by kernel_rfl) (by kernel_rfl) (by kernel_rfl) (fun _ _ _ h => h) (by rfl) ?y137 (by assumption) ?_
    case y137 => (intro w hSw; unfold MaZ at hSw; go_simp; (try with_reducible rfl); (try omega))
    simp only [List.setIfInBounds_toArray, List.set_cons_zero, List.set_cons_succ]
    refine held_take (v := ?v140) 16 rfl (by kernel_rfl) (by kernel_rfl) (by kernel_rfl) (fun _ _ _ h => h) (by rfl) ?y140 (by assumption) ?_
    case y140 => (intro w hSw; unfold MaZ at hSw; go_simp; (try with_reducible rfl); (try omega))
    simp only [List.setIfInBounds_toArray, List.set_cons_zero, List.set_cons_succ]
    refine held_take (v := ?v143) 17 rfl (by kernel_rfl) (by kernel_rfl) (by kernel_rfl) (fun _ _ _ h => h) (by rfl) ?y143 (by assumption) ?_
    case y143 => (intro w hSw; unfold MaZ at hSw; go_simp; (try with_reducible rfl); (try omega))
    simp only [List.setIfInBounds_toArray, List.set_cons_zero, List.set_cons_succ]
    refine held_take (v := ?v146) 18 rfl (by kernel_rfl) (by kernel_rfl) (by kernel_rfl) (fun _ _ _ h => h) (by rfl) ?y146 (by assumption) ?_
    case y146 => (intro w hSw; unfold MaZ at hSw; go_simp; (try with_reducible rfl); (try omega))
    simp only [List.setIfInBounds_toArray, List.set_cons_zero, List.set_cons_succ]
    (try rw [decide_eq_false (show ¬ n < m by omega)])
    refine held_take (v := ?v150) 19 rfl (by kernel_rfl) (by kernel_rfl) (by kernel_rfl) (fun _ _ _ h => h) (by rfl) ?y150 (by assumption) ?_
    case y150 => (intro w hSw; unfold MaZ at hSw; go_simp; (try with_reducible rfl); (try omega))
    simp only [List.setIfInBounds_toArray, List.set_cons_zero, List.set_cons_succ]
    refine held_take (v := P.val) 20 rfl (by kernel_rfl) (by kernel_rfl) (by kernel_rfl) (fun _ _ _ h => h) (by rfl) (fun W hSw => exec_load_pfx (.tmp 10) rfl g10 P HP.out rfl hSw.2.1) (by assumption) ?_
    simp only [List.setIfInBounds_toArray, List.set_cons_zero, List.set_cons_succ]
    refine held_take (v := Q.val) 21 rfl (by kernel_rfl) (by kernel_rfl) (by kernel_rfl) (fun _ _ _ h => h) (by rfl) (fun W hSw => exec_load_pfx (.tmp 11) rfl g11 Q HQ.out rfl hSw.2.2.1) (by assumption) ?_
    simp only [List.setIfInBounds_toArray, List.set_cons_zero, List.set_cons_succ]
    refine held_one 22 rfl (by kernel_rfl) (by rfl) (fun K hK => ?_)
    go_simp
    refine (H3.out _).mono ?_
    rintro e v22 ⟨rfl, b22⟩
    refine hK.out _ _ (MaZ.up hHeld b22) (fun hHeld => ?_)
    clear hK K b22
    refine held_take (v := ?v163) 23 rfl (by kernel_rfl) (by kernel_rfl) (by kernel_rfl) (fun _ _ _ h => h) (by rfl) ?y163 (by assumption) ?_
    case y163 => (intro w hSw; unfold MaZ at hSw; go_simp; (try with_reducible rfl); (try omega))
    simp only [List.setIfInBounds_toArray, List.set_cons_zero, List.set_cons_succ]
    refine held_take (v := ?v166) 24 rfl (by kernel_rfl) (by kernel_rfl) (by kernel_rfl) (fun _ _ _ h => h) (by rfl) ?y166 (by assumption) ?_
    case y166 => (intro w hSw; unfold MaZ at hSw; go_simp; (try with_reducible rfl); (try omega))
    simp only [List.setIfInBounds_toArray, List.set_cons_zero, List.set_cons_succ]
    refine held_take (v := ?v169) 25 rfl (by kernel_rfl) (by kernel_rfl) (by kernel_rfl) (fun _ _ _ h => h) (by rfl) ?y169 (by assumption) ?_
    case y169 => (intro w hSw; unfold MaZ at hSw; go_simp; (try with_reducible rfl); (try omega))
    simp only [List.setIfInBounds_toArray, List.set_cons_zero, List.set_cons_succ]
    refine held_take (v := ?v172) 26 rfl (by kernel_rfl) (by kernel_rfl) (by kernel_rfl) (fun _ _ _ h => h) (by rfl) ?y172 (by assumption) ?_
    case y172 => (intro w hSw; unfold MaZ at hSw; go_simp; (try with_reducible rfl); (try omega))
    simp only [List.setIfInBounds_toArray, List.set_cons_zero, List.set_cons_succ]
    refine held_take (v := ?v175) 27 rfl (by kernel_rfl) (by kernel_rfl) (by kernel_rfl) (fun _ _ _ h => h) (by rfl) ?y175 (by assumption) ?_
    case y175 => (intro w hSw; unfold MaZ at hSw; go_simp; (try with_reducible rfl); (try omega))
    simp only [List.setIfInBounds_toArray, List.set_cons_zero, List.set_cons_succ]
    refine held_take (v := ?v178) 28 rfl (by kernel_rfl) (by kernel_rfl) (by kernel_rfl) (fun _ _ _ h => h) (by rfl) ?y178 (by assumption) ?_
    case y178 => (intro w hSw; unfold MaZ at hSw; go_simp; (try with_reducible rfl); (try omega))
    simp only [List.setIfInBounds_toArray, List.set_cons_zero, List.set_cons_succ]
    (try rw [decide_eq_true (show m < n by omega)])
    refine held_take (v := ?v182) 29 rfl (by kernel_rfl) (by kernel_rfl) (by kernel_rfl) (fun _ _ _ h => h) (by rfl) ?y182 (by assumption) ?_
    case y182 => (intro w hSw; unfold MaZ at hSw; go_simp; (try with_reducible rfl); (try omega))
    simp only [List.setIfInBounds_toArray, List.set_cons_zero, List.set_cons_succ]
    refine held_skip 30 rfl (by kernel_rfl) (by kernel_rfl) (by kernel_rfl) (fun _ _ _ h => h) (by rfl) (by assumption) ?_
    simp only [List.setIfInBounds_toArray, List.set_cons_zero, List.set_cons_succ]
    refine held_skip 31 rfl (by kernel_rfl) (by kernel_rfl) (by kernel_rfl) (fun _ _ _ h => h) (by rfl) (by assumption) ?_
    simp only [List.setIfInBounds_toArray, List.set_cons_zero, List.set_cons_succ]
    refine held_skip 32 rfl (by kernel_rfl) (by kernel_rfl) (by kernel_rfl) (fun _ _ _ h => h) (by rfl) (by assumption) ?_
    simp only [List.setIfInBounds_toArray, List.set_cons_zero, List.set_cons_succ]
    refine held_take (v := ?v191) 33 rfl (by kernel_rfl) (by kernel_rfl) (by kernel_rfl) (fun _ _ _ h => h) (by rfl) ?y191 (by assumption) ?_
    case y191 => (intro w hSw; unfold MaZ at hSw; go_simp; (try with_reducible rfl); (try omega))
    simp only [List.setIfInBounds_toArray, List.set_cons_zero, List.set_cons_succ]
    refine held_take (v := ?v194) 34 rfl (by kernel_rfl) (by kernel_rfl) (by kernel_rfl) (fun _ _ _ h => h) (by rfl) ?y194 (by assumption) ?_
    case y194 => (intro w hSw; unfold MaZ at hSw; go_simp; (try with_reducible rfl); (try omega))
    simp only [List.setIfInBounds_toArray, List.set_cons_zero, List.set_cons_succ]
    refine held_take (v := ?v197) 35 rfl (by kernel_rfl) (by kernel_rfl) (by kernel_rfl) (fun _ _ _ h => h) (by rfl) ?y197 (by assumption) ?_
    case y197 => (intro w hSw; unfold MaZ at hSw; go_simp; (try with_reducible rfl); (try omega))
    simp only [List.setIfInBounds_toArray, List.set_cons_zero, List.set_cons_succ]
    refine wpAnyH_done (by kernel_rfl) ?_ _
    refine NoPanic.normal ?_
    have HH := Lib.hid hHeld
    clear hHeld
    go_wp2
    go_ret
    exact ⟨rfl, HH.out.2.2.2⟩
  · have hl : m ≤ n := by omega
    have hg : n ≤ m := by omega
    clear h
    have H3 := Lib.hid (H3c.out hl)
    have H4 := Lib.hid (H4c.out hg)
    clear H3c H4c
    go_wp2_with fail
    refine wp_region_noPanic ?_
    refine wp_region_held_drew (S := MaZ w a P Q g10 g11) (by kernel_rfl) Z3.out.drew (fun hHeld => ?_)
    clear Z3
    refine held_take (v := ?v217) 0 rfl (by kernel_rfl) (by kernel_rfl) (by kernel_rfl) (fun _ _ _ h => h) (by rfl) ?y217 (by assumption) ?_
    case y217 => (intro w hSw; unfold MaZ at hSw; go_simp; (try with_reducible rfl); (try omega))
    simp only [List.setIfInBounds_toArray, List.set_cons_zero, List.set_cons_succ]
    refine held_take (v := ?v220) 1 rfl (by kernel_rfl) (by kernel_rfl) (by kernel_rfl) (fun _ _ _ h => h) (by rfl) ?y220 (by assumption) ?_
    case y220 => (intro w hSw; unfold MaZ at hSw; go_simp; (try with_reducible rfl); (try omega))
    simp only [List.setIfInBounds_toArray, List.set_cons_zero, List.set_cons_succ]
    refine held_take (v := ?v223) 3 rfl (by kernel_rfl) (by kernel_rfl) (by kernel_rfl) (fun _ _ _ h => h) (by rfl) ?y223 (by assumption) ?_
    case y223 => (intro w hSw; unfold MaZ at hSw; go_simp; (try with_reducible rfl); (try omega))
    simp only [List.setIfInBounds_toArray, List.set_cons_zero, List.set_cons_succ]
    refine held_take (v := ?v226) 4 rfl (by kernel_rfl) (by kernel_rfl) (by kernel_rfl) (fun _ _ _ h => h) (by rfl) ?y226 (by assumption) ?_
    case y226 => (intro w hSw; unfold MaZ at hSw; go_simp; (try with_reducible rfl); (try omega))
    simp only [List.setIfInBounds_toArray, List.set_cons_zero, List.set_cons_succ]
    refine held_take (v := ?v229) 8 rfl (by kernel_rfl) (by kernel_rfl) (by kernel_rfl) (fun _ _ _ h => h) (by rfl) ?y229 (by assumption) ?_
    case y229 => (intro w hSw; unfold MaZ at hSw; go_simp; (try with_reducible rfl); (try omega))
    simp only [List.setIfInBounds_toArray, List.set_cons_zero, List.set_cons_succ]
    refine held_take (v := ?v232) 10 rfl (by kernel_rfl) (by kernel_rfl) (by kernel_rfl) (fun _ _ _ h => h) (by rfl) ?y232 (by assumption) ?_
    case y232 => (intro w hSw; unfold MaZ at hSw; go_simp; (try with_reducible rfl); (try omega))
    simp only [List.setIfInBounds_toArray, List.set_cons_zero, List.set_cons_succ]
    refine held_take (v := ?v235) 11 rfl (by kernel_rfl) (by kernel_rfl) (by kernel_rfl) (fun _ _ _ h => h) (by rfl) ?y235 (by assumption) ?_
    case y235 => (intro w hSw; unfold MaZ at hSw; go_simp; (try with_reducible rfl); (try omega))
    simp only [List.setIfInBounds_toArray, List.set_cons_zero, List.set_cons_succ]
    refine held_take (v := arrV Q.addr) 2 rfl (by kernel_rfl) (by kernel_rfl) (by kernel_rfl) (fun _ _ _ h => h) (by rfl) (fun W hSw => exec_load_adr (.tmp 30) rfl g11 Q HQ.out rfl hSw.2.2.1) (by assumption) ?_
    simp only [List.setIfInBounds_toArray, List.set_cons_zero, List.set_cons_succ]
    refine held_take (v := .int .i64 Q.len) 5 rfl (by kernel_rfl) (by kernel_rfl) (by kernel_rfl) (fun _ _ _ h => h) (by rfl) (fun W hSw => exec_load_len (.tmp 33) rfl g11 Q HQ.out rfl hSw.2.2.1) (by assumption) ?_
    simp only [List.setIfInBounds_toArray, List.set_cons_zero, List.set_cons_succ]
    refine held_take (v := arrV a) 9 rfl (by kernel_rfl) (by kernel_rfl) (by kernel_rfl) (fun _ _ _ h => h) (by rfl) (fun W hSw => exec_load_arrT (.tmp 4) rfl w.heap.size a (by rw [HA16.out]; exact arr16P) rfl hSw.1) (by assumption) ?_
    simp only [List.setIfInBounds_toArray, List.set_cons_zero, List.set_cons_succ]
    refine held_take (v := .int .i64 k1) 6 rfl (by kernel_rfl) (by kernel_rfl) (by kernel_rfl) (fun _ _ _ h => h) (by rfl) (fun W hSw => exec_min2 (.tmp 32) (.tmp 34) _ rfl m Q.len k1 rfl rfl HK1.out) (by assumption) ?_
    simp only [List.setIfInBounds_toArray, List.set_cons_zero, List.set_cons_succ]
    refine held_take (v := .int .i64 k2) 12 rfl (by kernel_rfl) (by kernel_rfl) (by kernel_rfl) (fun _ _ _ h => h) (by rfl) (fun W hSw => exec_min2 (.tmp 39) (.tmp 40) _ rfl m n k2 rfl rfl HK2.out) (by assumption) ?_
    simp only [List.setIfInBounds_toArray, List.set_cons_zero, List.set_cons_succ]
    refine held_one 7 rfl (by kernel_rfl) (by rfl) (fun K hK => ?_)
    go_simp
    refine (H1.out _).mono ?_
    rintro e v7 ⟨rfl, b7⟩
    refine hK.out _ _ (MaZ.up hHeld b7) (fun hHeld => ?_)
    clear hK K b7
    refine held_one 13 rfl (by kernel_rfl) (by rfl) (fun K hK => ?_)
    go_simp
    refine (H2.out _).mono ?_
    rintro e v13 ⟨rfl, b13⟩
    refine hK.out _ _ (MaZ.up hHeld b13) (fun hHeld => ?_)
    clear hK K b13
    refine held_take (v := .bool true) 14 rfl (by kernel_rfl) (by kernel_rfl) (by kernel_rfl) (fun _ _ _ h => h) (by rfl) (fun W hSw => by rw [exec_eql_pfx 36 42 _ rfl X X HX.out HX.out rfl rfl, eqP_self]) (by assumption) ?_
    simp only [List.setIfInBounds_toArray, List.set_cons_zero, List.set_cons_succ]
    refine held_take (v := ?v262) 15 rfl (by kernel_rfl) (by kernel_rfl) (by kernel_rfl) (fun _ _ _ h => h) (by rfl) ?y262 (by assumption) ?_
    case y262 => (intro w hSw; unfold MaZ at hSw; go_simp; (try with_reducible rfl); (try omega))
    simp only [List.setIfInBounds_toArray, List.set_cons_zero, List.set_cons_succ]
    refine held_take (v := ?v265) 16 rfl (by kernel_rfl) (by kernel_rfl) (by kernel_rfl) (fun _ _ _ h => h) (by rfl) ?y265 (by assumption) ?_
    case y265 => (intro w hSw; unfold MaZ at hSw; go_simp; (try with_reducible rfl); (try omega))
    simp only [List.setIfInBounds_toArray, List.set_cons_zero, List.set_cons_succ]
    refine held_take (v := ?v268) 17 rfl (by kernel_rfl) (by kernel_rfl) (by kernel_rfl) (fun _ _ _ h => h) (by rfl) ?y268 (by assumption) ?_
    case y268 => (intro w hSw; unfold MaZ at hSw; go_simp; (try with_reducible rfl); (try omega))
    simp only [List.setIfInBounds_toArray, List.set_cons_zero, List.set_cons_succ]
    refine held_take (v := ?v271) 18 rfl (by kernel_rfl) (by kernel_rfl) (by kernel_rfl) (fun _ _ _ h => h) (by rfl) ?y271 (by assumption) ?_
    case y271 => (intro w hSw; unfold MaZ at hSw; go_simp; (try with_reducible rfl); (try omega))
    simp only [List.setIfInBounds_toArray, List.set_cons_zero, List.set_cons_succ]
    (try rw [decide_eq_false (show ¬ n < m by omega)])
    refine held_take (v := ?v275) 19 rfl (by kernel_rfl) (by kernel_rfl) (by kernel_rfl) (fun _ _ _ h => h) (by rfl) ?y275 (by assumption) ?_
    case y275 => (intro w hSw; unfold MaZ at hSw; go_simp; (try with_reducible rfl); (try omega))
    simp only [List.setIfInBounds_toArray, List.set_cons_zero, List.set_cons_succ]
    refine held_take (v := P.val) 20 rfl (by kernel_rfl) (by kernel_rfl) (by kernel_rfl) (fun _ _ _ h => h) (by rfl) (fun W hSw => exec_load_pfx (.tmp 10) rfl g10 P HP.out rfl hSw.2.1) (by assumption) ?_
    simp only [List.setIfInBounds_toArray, List.set_cons_zero, List.set_cons_succ]
    refine held_take (v := Q.val) 21 rfl (by kernel_rfl) (by kernel_rfl) (by kernel_rfl) (fun _ _ _ h => h) (by rfl) (fun W hSw => exec_load_pfx (.tmp 11) rfl g11 Q HQ.out rfl hSw.2.2.1) (by assumption) ?_
    simp only [List.setIfInBounds_toArray, List.set_cons_zero, List.set_cons_succ]
    refine held_one 22 rfl (by kernel_rfl) (by rfl) (fun K hK => ?_)
    go_simp
    refine (H3.out _).mono ?_
    rintro e v22 ⟨rfl, b22⟩
    refine hK.out _ _ (MaZ.up hHeld b22) (fun hHeld => ?_)
    clear hK K b22
    refine held_take (v := ?v288) 23 rfl (by kernel_rfl) (by kernel_rfl) (by kernel_rfl) (fun _ _ _ h => h) (by rfl) ?y288 (by assumption) ?_
    case y288 => (intro w hSw; unfold MaZ at hSw; go_simp; (try with_reducible rfl); (try omega))
    simp only [List.setIfInBounds_toArray, List.set_cons_zero, List.set_cons_succ]
    refine held_take (v := ?v291) 24 rfl (by kernel_rfl) (by kernel_rfl) (by kernel_rfl) (fun _ _ _ h => h) (by rfl) ?y291 (by assumption) ?_
    case y291 => (intro w hSw; unfold MaZ at hSw; go_simp; (try with_reducible rfl); (try omega))
    simp only [List.setIfInBounds_toArray, List.set_cons_zero, List.set_cons_succ]
    refine held_take (v := ?v294) 25 rfl (by kernel_rfl) (by kernel_rfl) (by kernel_rfl) (fun _ _ _ h => h) (by rfl) ?y294 (by assumption) ?_
    case y294 => (intro w hSw; unfold MaZ at hSw; go_simp; (try with_reducible rfl); (try omega))
    simp only [List.setIfInBounds_toArray, List.set_cons_zero, List.set_cons_succ]
    refine held_take (v := ?v297) 26 rfl (by kernel_rfl) (by kernel_rfl) (by kernel_rfl) (fun _ _ _ h => h) (by rfl) ?y297 (by assumption) ?_
    case y297 => (intro w hSw; unfold MaZ at hSw; go_simp; (try with_reducible rfl); (try omega))
    simp only [List.setIfInBounds_toArray, List.set_cons_zero, List.set_cons_succ]
    refine held_take (v := ?v300) 27 rfl (by kernel_rfl) (by kernel_rfl) (by kernel_rfl) (fun _ _ _ h => h) (by rfl) ?y300 (by assumption) ?_
    case y300 => (intro w hSw; unfold MaZ at hSw; go_simp; (try with_reducible rfl); (try omega))
    simp only [List.setIfInBounds_toArray, List.set_cons_zero, List.set_cons_succ]
    refine held_take (v := ?v303) 28 rfl (by kernel_rfl) (by kernel_rfl) (by kernel_rfl) (fun _ _ _ h => h) (by rfl) ?y303 (by assumption) ?_
    case y303 => (intro w hSw; unfold MaZ at hSw; go_simp; (try with_reducible rfl); (try omega))
    simp only [List.setIfInBounds_toArray, List.set_cons_zero, List.set_cons_succ]
    (try rw [decide_eq_false (show ¬ m < n by omega)])
    refine held_take (v := ?v307) 29 rfl (by kernel_rfl) (by kernel_rfl) (by kernel_rfl) (fun _ _ _ h => h) (by rfl) ?y307 (by assumption) ?_
    case y307 => (intro w hSw; unfold MaZ at hSw; go_simp; (try with_reducible rfl); (try omega))
    simp only [List.setIfInBounds_toArray, List.set_cons_zero, List.set_cons_succ]
    refine held_take (v := Q.val) 30 rfl (by kernel_rfl) (by kernel_rfl) (by kernel_rfl) (fun _ _ _ h => h) (by rfl) (fun W hSw => exec_load_pfx (.tmp 11) rfl g11 Q HQ.out rfl hSw.2.2.1) (by assumption) ?_
    simp only [List.setIfInBounds_toArray, List.set_cons_zero, List.set_cons_succ]
    refine held_take (v := P.val) 31 rfl (by kernel_rfl) (by kernel_rfl) (by kernel_rfl) (fun _ _ _ h => h) (by rfl) (fun W hSw => exec_load_pfx (.tmp 10) rfl g10 P HP.out rfl hSw.2.1) (by assumption) ?_
    simp only [List.setIfInBounds_toArray, List.set_cons_zero, List.set_cons_succ]
    refine held_one 32 rfl (by kernel_rfl) (by rfl) (fun K hK => ?_)
    go_simp
    refine (H4.out _).mono ?_
    rintro e v32 ⟨rfl, b32⟩
    refine hK.out _ _ (MaZ.up hHeld b32) (fun hHeld => ?_)
    clear hK K b32
    refine held_take (v := ?v320) 33 rfl (by kernel_rfl) (by kernel_rfl) (by kernel_rfl) (fun _ _ _ h => h) (by rfl) ?y320 (by assumption) ?_
    case y320 => (intro w hSw; unfold MaZ at hSw; go_simp; (try with_reducible rfl); (try omega))
    simp only [List.setIfInBounds_toArray, List.set_cons_zero, List.set_cons_succ]
    refine held_take (v := ?v323) 34 rfl (by kernel_rfl) (by kernel_rfl) (by kernel_rfl) (fun _ _ _ h => h) (by rfl) ?y323 (by assumption) ?_
    case y323 => (intro w hSw; unfold MaZ at hSw; go_simp; (try with_reducible rfl); (try omega))
    simp only [List.setIfInBounds_toArray, List.set_cons_zero, List.set_cons_succ]
    refine held_take (v := ?v326) 35 rfl (by kernel_rfl) (by kernel_rfl) (by kernel_rfl) (fun _ _ _ h => h) (by rfl) ?y326 (by assumption) ?_
    case y326 => (intro w hSw; unfold MaZ at hSw; go_simp; (try with_reducible rfl); (try omega))
    simp only [List.setIfInBounds_toArray, List.set_cons_zero, List.set_cons_succ]
    refine wpAnyH_done (by kernel_rfl) ?_ _
    refine NoPanic.normal ?_
    have HH := Lib.hid hHeld
    clear hHeld
    go_wp2
    go_ret
    exact ⟨rfl, HH.out.2.2.2⟩
  · have H4 := Lib.hid (H4c.out (by omega))
    clear H3c H4c
    go_wp2_with fail
    refine wp_region_noPanic ?_
    refine wp_region_held_drew (S := MaZ w a P Q g10 g11) (by kernel_rfl) Z3.out.drew (fun hHeld => ?_)
    clear Z3
    refine held_take (v := ?v342) 0 rfl (by kernel_rfl) (by kernel_rfl) (by kernel_rfl) (fun _ _ _ h => h) (by rfl) ?y342 (by assumption) ?_
    case y342 => (intro w hSw; unfold MaZ at hSw; go_simp; (try with_reducible rfl); (try omega))
    simp only [List.setIfInBounds_toArray, List.set_cons_zero, List.set_cons_succ]
    refine held_take (v := ?v345) 1 rfl (by kernel_rfl) (by kernel_rfl) (by kernel_rfl) (fun _ _ _ h => h) (by rfl) ?y345 (by assumption) ?_
    case y345 => (intro w hSw; unfold MaZ at hSw; go_simp; (try with_reducible rfl); (try omega))
    simp only [List.setIfInBounds_toArray, List.set_cons_zero, List.set_cons_succ]
    refine held_take (v := ?v348) 3 rfl (by kernel_rfl) (by kernel_rfl) (by kernel_rfl) (fun _ _ _ h => h) (by rfl) ?y348 (by assumption) ?_
    case y348 => (intro w hSw; unfold MaZ at hSw; go_simp; (try with_reducible rfl); (try omega))
    simp only [List.setIfInBounds_toArray, List.set_cons_zero, List.set_cons_succ]
    refine held_take (v := ?v351) 4 rfl (by kernel_rfl) (by kernel_rfl) (by kernel_rfl) (fun _ _ _ h => h) (by rfl) ?y351 (by assumption) ?_
    case y351 => (intro w hSw; unfold MaZ at hSw; go_simp; (try with_reducible rfl); (try omega))
    simp only [List.setIfInBounds_toArray, List.set_cons_zero, List.set_cons_succ]
    refine held_take (v := ?v354) 8 rfl (by kernel_rfl) (by kernel_rfl) (by kernel_rfl) (fun _ _ _ h => h) (by rfl) ?y354 (by assumption) ?_
    case y354 => (intro w hSw; unfold MaZ at hSw; go_simp; (try with_reducible rfl); (try omega))
    simp only [List.setIfInBounds_toArray, List.set_cons_zero, List.set_cons_succ]
    refine held_take (v := ?v357) 10 rfl (by kernel_rfl) (by kernel_rfl) (by kernel_rfl) (fun _ _ _ h => h) (by rfl) ?y357 (by assumption) ?_
    case y357 => (intro w hSw; unfold MaZ at hSw; go_simp; (try with_reducible rfl); (try omega))
    simp only [List.setIfInBounds_toArray, List.set_cons_zero, List.set_cons_succ]
    refine held_take (v := ?v360) 11 rfl (by kernel_rfl) (by kernel_rfl) (by kernel_rfl) (fun _ _ _ h => h) (by rfl) ?y360 (by assumption) ?_
    case y360 => (intro w hSw; unfold MaZ at hSw; go_simp; (try with_reducible rfl); (try omega))
    simp only [List.setIfInBounds_toArray, List.set_cons_zero, List.set_cons_succ]
    refine held_take (v := arrV Q.addr) 2 rfl (by kernel_rfl) (by kernel_rfl) (by kernel_rfl) (fun _ _ _ h => h) (by rfl) (fun W hSw => exec_load_adr (.tmp 30) rfl g11 Q HQ.out rfl hSw.2.2.1) (by assumption) ?_
    simp only [List.setIfInBounds_toArray, List.set_cons_zero, List.set_cons_succ]
    refine held_take (v := .int .i64 Q.len) 5 rfl (by kernel_rfl) (by kernel_rfl) (by kernel_rfl) (fun _ _ _ h => h) (by rfl) (fun W hSw => exec_load_len (.tmp 33) rfl g11 Q HQ.out rfl hSw.2.2.1) (by assumption) ?_
    simp only [List.setIfInBounds_toArray, List.set_cons_zero, List.set_cons_succ]
    refine held_take (v := arrV a) 9 rfl (by kernel_rfl) (by kernel_rfl) (by kernel_rfl) (fun _ _ _ h => h) (by rfl) (fun W hSw => exec_load_arrT (.tmp 4) rfl w.heap.size a (by rw [HA16.out]; exact arr16P) rfl hSw.1) (by assumption) ?_
    simp only [List.setIfInBounds_toArray, List.set_cons_zero, List.set_cons_succ]
    refine held_take (v := .int .i64 k1) 6 rfl (by kernel_rfl) (by kernel_rfl) (by kernel_rfl) (fun _ _ _ h => h) (by rfl) (fun W hSw => exec_min2 (.tmp 32) (.tmp 34) _ rfl m Q.len k1 rfl rfl HK1.out) (by assumption) ?_
    simp only [List.setIfInBounds_toArray, List.set_cons_zero, List.set_cons_succ]
    refine held_take (v := .int .i64 k2) 12 rfl (by kernel_rfl) (by kernel_rfl) (by kernel_rfl) (fun _ _ _ h => h) (by rfl) (fun W hSw => exec_min2 (.tmp 39) (.tmp 40) _ rfl m n k2 rfl rfl HK2.out) (by assumption) ?_
    simp only [List.setIfInBounds_toArray, List.set_cons_zero, List.set_cons_succ]
    refine held_one 7 rfl (by kernel_rfl) (by rfl) (fun K hK => ?_)
    go_simp
    refine (H1.out _).mono ?_
    rintro e v7 ⟨rfl, b7⟩
    refine hK.out _ _ (MaZ.up hHeld b7) (fun hHeld => ?_)
    clear hK K b7
    refine held_one 13 rfl (by kernel_rfl) (by rfl) (fun K hK => ?_)
    go_simp
    refine (H2.out _).mono ?_
    rintro e v13 ⟨rfl, b13⟩
    refine hK.out _ _ (MaZ.up hHeld b13) (fun hHeld => ?_)
    clear hK K b13
    refine held_take (v := .bool true) 14 rfl (by kernel_rfl) (by kernel_rfl) (by kernel_rfl) (fun _ _ _ h => h) (by rfl) (fun W hSw => by rw [exec_eql_pfx 36 42 _ rfl X X HX.out HX.out rfl rfl, eqP_self]) (by assumption) ?_
    simp only [List.setIfInBounds_toArray, List.set_cons_zero, List.set_cons_succ]
    refine held_take (v := ?v387) 15 rfl (by kernel_rfl) (by kernel_rfl) (by kernel_rfl) (fun _ _ _ h => h) (by rfl) ?y387 (by assumption) ?_
    case y387 => (intro w hSw; unfold MaZ at hSw; go_simp; (try with_reducible rfl); (try omega))
    simp only [List.setIfInBounds_toArray, List.set_cons_zero, List.set_cons_succ]
    refine held_take (v := ?v390) 16 rfl (by kernel_rfl) (by kernel_rfl) (by kernel_rfl) (fun _ _ _ h => h) (by rfl) ?y390 (by assumption) ?_
    case y390 => (intro w hSw; unfold MaZ at hSw; go_simp; (try with_reducible rfl); (try omega))
    simp only [List.setIfInBounds_toArray, List.set_cons_zero, List.set_cons_succ]
    refine held_take (v := ?v393) 17 rfl (by kernel_rfl) (by kernel_rfl) (by kernel_rfl) (fun _ _ _ h => h) (by rfl) ?y393 (by assumption) ?_
    case y393 => (intro w hSw; unfold MaZ at hSw; go_simp; (try with_reducible rfl); (try omega))
    simp only [List.setIfInBounds_toArray, List.set_cons_zero, List.set_cons_succ]
    refine held_take (v := ?v396) 18 rfl (by kernel_rfl) (by kernel_rfl) (by kernel_rfl) (fun _ _ _ h => h) (by rfl) ?y396 (by assumption) ?_
    case y396 => (intro w hSw; unfold MaZ at hSw; go_simp; (try with_reducible rfl); (try omega))
    simp only [List.setIfInBounds_toArray, List.set_cons_zero, List.set_cons_succ]
    (try rw [decide_eq_true (show n < m by omega)])
    refine held_take (v := ?v400) 19 rfl (by kernel_rfl) (by kernel_rfl) (by kernel_rfl) (fun _ _ _ h => h) (by rfl) ?y400 (by assumption) ?_
    case y400 => (intro w hSw; unfold MaZ at hSw; go_simp; (try with_reducible rfl); (try omega))
    simp only [List.setIfInBounds_toArray, List.set_cons_zero, List.set_cons_succ]
    refine held_skip 20 rfl (by kernel_rfl) (by kernel_rfl) (by kernel_rfl) (fun _ _ _ h => h) (by rfl) (by assumption) ?_
    simp only [List.setIfInBounds_toArray, List.set_cons_zero, List.set_cons_succ]
    refine held_skip 21 rfl (by kernel_rfl) (by kernel_rfl) (by kernel_rfl) (fun _ _ _ h => h) (by rfl) (by assumption) ?_
    simp only [List.setIfInBounds_toArray, List.set_cons_zero, List.set_cons_succ]
    refine held_skip 22 rfl (by kernel_rfl) (by kernel_rfl) (by kernel_rfl) (fun _ _ _ h => h) (by rfl) (by assumption) ?_
    simp only [List.setIfInBounds_toArray, List.set_cons_zero, List.set_cons_succ]
    refine held_take (v := ?v409) 23 rfl (by kernel_rfl) (by kernel_rfl) (by kernel_rfl) (fun _ _ _ h => h) (by rfl) ?y409 (by assumption) ?_
    case y409 => (intro w hSw; unfold MaZ at hSw; go_simp; (try with_reducible rfl); (try omega))
    simp only [List.setIfInBounds_toArray, List.set_cons_zero, List.set_cons_succ]
    refine held_take (v := ?v412) 24 rfl (by kernel_rfl) (by kernel_rfl) (by kernel_rfl) (fun _ _ _ h => h) (by rfl) ?y412 (by assumption) ?_
    case y412 => (intro w hSw; unfold MaZ at hSw; go_simp; (try with_reducible rfl); (try omega))
    simp only [List.setIfInBounds_toArray, List.set_cons_zero, List.set_cons_succ]
    refine held_take (v := ?v415) 25 rfl (by kernel_rfl) (by kernel_rfl) (by kernel_rfl) (fun _ _ _ h => h) (by rfl) ?y415 (by assumption) ?_
    case y415 => (intro w hSw; unfold MaZ at hSw; go_simp; (try with_reducible rfl); (try omega))
    simp only [List.setIfInBounds_toArray, List.set_cons_zero, List.set_cons_succ]
    refine held_take (v := ?v418) 26 rfl (by kernel_rfl) (by kernel_rfl) (by kernel_rfl) (fun _ _ _ h => h) (by rfl) ?y418 (by assumption) ?_
    case y418 => (intro w hSw; unfold MaZ at hSw; go_simp; (try with_reducible rfl); (try omega))
    simp only [List.setIfInBounds_toArray, List.set_cons_zero, List.set_cons_succ]
    refine held_take (v := ?v421) 27 rfl (by kernel_rfl) (by kernel_rfl) (by kernel_rfl) (fun _ _ _ h => h) (by rfl) ?y421 (by assumption) ?_
    case y421 => (intro w hSw; unfold MaZ at hSw; go_simp; (try with_reducible rfl); (try omega))
    simp only [List.setIfInBounds_toArray, List.set_cons_zero, List.set_cons_succ]
    refine held_take (v := ?v424) 28 rfl (by kernel_rfl) (by kernel_rfl) (by kernel_rfl) (fun _ _ _ h => h) (by rfl) ?y424 (by assumption) ?_
    case y424 => (intro w hSw; unfold MaZ at hSw; go_simp; (try with_reducible rfl); (try omega))
    simp only [List.setIfInBounds_toArray, List.set_cons_zero, List.set_cons_succ]
    (try rw [decide_eq_false (show ¬ m < n by omega)])
    refine held_take (v := ?v428) 29 rfl (by kernel_rfl) (by kernel_rfl) (by kernel_rfl) (fun _ _ _ h => h) (by rfl) ?y428 (by assumption) ?_
    case y428 => (intro w hSw; unfold MaZ at hSw; go_simp; (try with_reducible rfl); (try omega))
    simp only [List.setIfInBounds_toArray, List.set_cons_zero, List.set_cons_succ]
    refine held_take (v := Q.val) 30 rfl (by kernel_rfl) (by kernel_rfl) (by kernel_rfl) (fun _ _ _ h => h) (by rfl) (fun W hSw => exec_load_pfx (.tmp 11) rfl g11 Q HQ.out rfl hSw.2.2.1) (by assumption) ?_
    simp only [List.setIfInBounds_toArray, List.set_cons_zero, List.set_cons_succ]
    refine held_take (v := P.val) 31 rfl (by kernel_rfl) (by kernel_rfl) (by kernel_rfl) (fun _ _ _ h => h) (by rfl) (fun W hSw => exec_load_pfx (.tmp 10) rfl g10 P HP.out rfl hSw.2.1) (by assumption) ?_
    simp only [List.setIfInBounds_toArray, List.set_cons_zero, List.set_cons_succ]
    refine held_one 32 rfl (by kernel_rfl) (by rfl) (fun K hK => ?_)
    go_simp
    refine (H4.out _).mono ?_
    rintro e v32 ⟨rfl, b32⟩
    refine hK.out _ _ (MaZ.up hHeld b32) (fun hHeld => ?_)
    clear hK K b32
    refine held_take (v := ?v441) 33 rfl (by kernel_rfl) (by kernel_rfl) (by kernel_rfl) (fun _ _ _ h => h) (by rfl) ?y441 (by assumption) ?_
    case y441 => (intro w hSw; unfold MaZ at hSw; go_simp; (try with_reducible rfl); (try omega))
    simp only [List.setIfInBounds_toArray, List.set_cons_zero, List.set_cons_succ]
    refine held_take (v := ?v444) 34 rfl (by kernel_rfl) (by kernel_rfl) (by kernel_rfl) (fun _ _ _ h => h) (by rfl) ?y444 (by assumption) ?_
    case y444 => (intro w hSw; unfold MaZ at hSw; go_simp; (try with_reducible rfl); (try omega))
    simp only [List.setIfInBounds_toArray, List.set_cons_zero, List.set_cons_succ]
    refine held_take (v := ?v447) 35 rfl (by kernel_rfl) (by kernel_rfl) (by kernel_rfl) (fun _ _ _ h => h) (by rfl) ?y447 (by assumption) ?_
    case y447 => (intro w hSw; unfold MaZ at hSw; go_simp; (try with_reducible rfl); (try omega))
    simp only [List.setIfInBounds_toArray, List.set_cons_zero, List.set_cons_succ]
    refine wpAnyH_done (by kernel_rfl) ?_ _
    refine NoPanic.normal ?_
    have HH := Lib.hid hHeld
    clear hHeld
    go_wp2
    go_ret
    exact ⟨rfl, HH.out.2.2.2⟩
end Go.Proofs.YtlbgmpjeckigjaaDoor
