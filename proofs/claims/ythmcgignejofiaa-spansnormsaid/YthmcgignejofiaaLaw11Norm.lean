/- SpansNorm: any rows as disjoint ones, with one more, and without one, are the document's. -/
import Derived.Test.YthmcgignejofiaaAw11
import Derived.Test.YthmcgignejofiaaRs4
import Derived.Test.YthmcgignejofiaaRs7
import Derived.Test.YthmcgignejofiaaReg
namespace Go.Proofs.Ythmcgignejofiaa
open Go Go.RowKit Go.Shelf

set_option maxRecDepth 100000 in
set_option maxHeartbeats 8000000 in
theorem norm11_walk (a : Option Addr) (n0 c : Nat) (l : List Spn) (s : Spn) (w : World) (h : IsS w (.slice a n0 c) l) :
    Calls Try.prog 3 #[.slice a n0 c, .agg #[.int .i64 s.f, .int .i64 s.l]] w fun e w' => e = .returned (.bool true) ∧ Below w.heap.size w w' := by
  have HA := Lib.hid (fun W => awake11 W)
  obtain ⟨rfl, hcap, hcm, _⟩ := h.shape
  unfold maxLen at hcm
  have HZ := Lib.hid (z11_new w h s)
  rw [show Value.agg #[.int .i64 s.f, .int .i64 s.l] = .agg (sR s).toArray from rfl]
  have HAL := Lib.hid (fun (W : World) (o : Obj) => ((Below.refl W.heap.size W).alloc (Nat.le_refl _) o : Below W.heap.size W (W.alloc o)))
  clear h
  by_cases h30 : 30 < l.length
  · have h30i : (30 : Int) < (l.length : Int) := by omega
    go_enter Try.func3, Try.ntmps3
    go_wp2_with (go_at_call 8; refine (HA.out _).mono ?_; rintro e w1 ⟨rfl, b1⟩; refine Hid.out ?_)
    refine Lib.hid ?_
    have HBF := Lib.hid (HZ.out.up b1).below
    clear b1 HZ
    go_wp2
    go_ret
    exact ⟨rfl, HBF.out⟩
  have h30i : (l.length : Int) ≤ 30 := by omega
  go_enter Try.func3, Try.ntmps3
  go_wp2_with (go_at_call 8; refine (HA.out _).mono ?_; rintro e w1 ⟨rfl, b1⟩; refine Hid.out ?_)
  refine Lib.hid ?_
  have HZ1 := Lib.hid (HZ.out.up b1)
  clear b1 HZ
  go_wp2
  have HZ2 := Lib.hid (HZ1.out.up (Below.refl _ _).drew)
  refine wp_region_noPanic ?_
  refine wp_region_held_drew (S := BxA [(w.heap.size, s)]) (by kernel_rfl) HZ2.out.bx (fun hHeld => ?_)
  clear HZ1
  refine held_take (v := ?v40) 0 rfl (by kernel_rfl) (by kernel_rfl) (by kernel_rfl) (fun _ _ _ h => h) (by rfl) ?y40 (by assumption) ?_
  case y40 => (intro w hSw; (try dsimp only at hSw); go_simp; (try with_reducible rfl); (try omega))
  simp only [List.setIfInBounds_toArray, List.set_cons_zero, List.set_cons_succ]
  refine held_take (v := ?v43) 2 rfl (by kernel_rfl) (by kernel_rfl) (by kernel_rfl) (fun _ _ _ h => h) (by rfl) ?y43 (by assumption) ?_
  case y43 => (intro w hSw; (try dsimp only at hSw); go_simp; (try with_reducible rfl); (try omega))
  simp only [List.setIfInBounds_toArray, List.set_cons_zero, List.set_cons_succ]
  have hc3 := snorm_any _ l _ (HZ2.out.sl _ (.head _)) (by omega)
  have HC3 := Lib.hid hc3
  clear hc3
  refine held_one 1 rfl (by kernel_rfl) (by rfl) (fun K hK => ?_)
  go_simp
  refine HC3.out.mono ?_
  rintro e w103 ⟨v3, rfl, i3, b3⟩
  obtain ⟨a3, c3, rfl, _⟩ := i3.form
  have HZ3 := Lib.hid ((HZ2.out.up b3).add i3)
  refine hK.out _ _ HZ3.out.bx (fun hHeld => ?_)
  clear hK K b3 HZ2 HC3 i3
  (try simp only [List.setIfInBounds_toArray, List.set_cons_zero, List.set_cons_succ])
  have hc4 := rnorm_any _ l _ (HZ3.out.sl _ (.tail _ (.head _))) (by omega)
  have HC4 := Lib.hid hc4
  clear hc4
  refine held_one 3 rfl (by kernel_rfl) (by rfl) (fun K hK => ?_)
  go_simp
  refine HC4.out.mono ?_
  rintro e w104 ⟨v4, rfl, i4, b4⟩
  obtain ⟨a4, c4, rfl, _⟩ := i4.form
  have HZ4 := Lib.hid ((HZ3.out.up b4).add i4)
  refine hK.out _ _ HZ4.out.bx (fun hHeld => ?_)
  clear hK K b4 HZ3 HC4 i4
  (try simp only [List.setIfInBounds_toArray, List.set_cons_zero, List.set_cons_succ])
  have hc5 := rsame_any _ _ (normS l) _ (HZ4.out.sl _ (.tail _ (.head _))) (HZ4.out.sl _ (.head _)) (by have := normS_length_le l; omega)
  have HC5 := Lib.hid hc5
  clear hc5
  refine held_one 4 rfl (by kernel_rfl) (by rfl) (fun K hK => ?_)
  go_simp
  refine HC5.out.mono ?_
  rintro e w105 ⟨rfl, b5⟩
  have HZ5 := Lib.hid (HZ4.out.up b5)
  refine hK.out _ _ HZ5.out.bx (fun hHeld => ?_)
  clear hK K b5 HZ4 HC5 
  (try simp only [List.setIfInBounds_toArray, List.set_cons_zero, List.set_cons_succ])
  refine held_take (v := ?v81) 5 rfl (by kernel_rfl) (by kernel_rfl) (by kernel_rfl) (fun _ _ _ h => h) (by rfl) ?y81 (by assumption) ?_
  case y81 => (intro w hSw; (try dsimp only at hSw); go_simp; (try with_reducible rfl); (try omega))
  simp only [List.setIfInBounds_toArray, List.set_cons_zero, List.set_cons_succ]
  refine held_take (v := ?v84) 6 rfl (by kernel_rfl) (by kernel_rfl) (by kernel_rfl) (fun _ _ _ h => h) (by rfl) ?y84 (by assumption) ?_
  case y84 => (intro w hSw; (try dsimp only at hSw); go_simp; (try with_reducible rfl); (try omega))
  simp only [List.setIfInBounds_toArray, List.set_cons_zero, List.set_cons_succ]
  refine held_take (v := sV s) 7 rfl (by kernel_rfl) (by kernel_rfl) (by kernel_rfl) (fun _ _ _ h => h) (by rfl) (fun W hSw => exec_load_any _ (.tmp 3) rfl w.heap.size 0 (sR s) _ rfl (rangeAll (hSw _ (.head _))) Try.underlying24 rfl sp_info) (by assumption) ?_
  simp only [List.setIfInBounds_toArray, List.set_cons_zero, List.set_cons_succ]
  refine held_take (v := ?v89) 9 rfl (by kernel_rfl) (by kernel_rfl) (by kernel_rfl) (fun _ _ _ h => h) (by rfl) ?y89 (by assumption) ?_
  case y89 => (intro w hSw; (try dsimp only at hSw); go_simp; (try with_reducible rfl); (try omega))
  simp only [List.setIfInBounds_toArray, List.set_cons_zero, List.set_cons_succ]
  refine held_take (v := sV s) 10 rfl (by kernel_rfl) (by kernel_rfl) (by kernel_rfl) (fun _ _ _ h => h) (by rfl) (fun W hSw => exec_load_any _ (.tmp 3) rfl w.heap.size 0 (sR s) _ rfl (rangeAll (hSw _ (.head _))) Try.underlying24 rfl sp_info) (by assumption) ?_
  simp only [List.setIfInBounds_toArray, List.set_cons_zero, List.set_cons_succ]
  have hc6 := sadd_any _ l s _ (HZ5.out.sl _ (.tail _ (.tail _ (.head _)))) (by omega)
  have HC6 := Lib.hid hc6
  clear hc6
  refine held_one 8 rfl (by kernel_rfl) (by rfl) (fun K hK => ?_)
  go_simp
  refine HC6.out.mono ?_
  rintro e w106 ⟨v6, rfl, i6, b6⟩
  obtain ⟨a6, c6, rfl, _⟩ := i6.form
  have HZ6 := Lib.hid ((HZ5.out.up b6).add i6)
  refine hK.out _ _ HZ6.out.bx (fun hHeld => ?_)
  clear hK K b6 HZ5 HC6 i6
  (try simp only [List.setIfInBounds_toArray, List.set_cons_zero, List.set_cons_succ])
  have hc7 := radd_any _ l s _ (HZ6.out.sl _ (.tail _ (.tail _ (.tail _ (.head _))))) (by omega)
  have HC7 := Lib.hid hc7
  clear hc7
  refine held_one 11 rfl (by kernel_rfl) (by rfl) (fun K hK => ?_)
  go_simp
  refine HC7.out.mono ?_
  rintro e w107 ⟨v7, rfl, i7, b7⟩
  obtain ⟨a7, c7, rfl, _⟩ := i7.form
  have HZ7 := Lib.hid ((HZ6.out.up b7).add i7)
  refine hK.out _ _ HZ7.out.bx (fun hHeld => ?_)
  clear hK K b7 HZ6 HC7 i7
  (try simp only [List.setIfInBounds_toArray, List.set_cons_zero, List.set_cons_succ])
  have hc8 := rsame_any _ _ (addS l s) _ (HZ7.out.sl _ (.tail _ (.head _))) (HZ7.out.sl _ (.head _)) (by have := addS_len l s; omega)
  have HC8 := Lib.hid hc8
  clear hc8
  refine held_one 12 rfl (by kernel_rfl) (by rfl) (fun K hK => ?_)
  go_simp
  refine HC8.out.mono ?_
  rintro e w108 ⟨rfl, b8⟩
  have HZ8 := Lib.hid (HZ7.out.up b8)
  refine hK.out _ _ HZ8.out.bx (fun hHeld => ?_)
  clear hK K b8 HZ7 HC8 
  (try simp only [List.setIfInBounds_toArray, List.set_cons_zero, List.set_cons_succ])
  refine held_take (v := ?v129) 13 rfl (by kernel_rfl) (by kernel_rfl) (by kernel_rfl) (fun _ _ _ h => h) (by rfl) ?y129 (by assumption) ?_
  case y129 => (intro w hSw; (try dsimp only at hSw); go_simp; (try with_reducible rfl); (try omega))
  simp only [List.setIfInBounds_toArray, List.set_cons_zero, List.set_cons_succ]
  refine held_take (v := ?v132) 14 rfl (by kernel_rfl) (by kernel_rfl) (by kernel_rfl) (fun _ _ _ h => h) (by rfl) ?y132 (by assumption) ?_
  case y132 => (intro w hSw; (try dsimp only at hSw); go_simp; (try with_reducible rfl); (try omega))
  simp only [List.setIfInBounds_toArray, List.set_cons_zero, List.set_cons_succ]
  refine held_take (v := ?v135) 15 rfl (by kernel_rfl) (by kernel_rfl) (by kernel_rfl) (fun _ _ _ h => h) (by rfl) ?y135 (by assumption) ?_
  case y135 => (intro w hSw; (try dsimp only at hSw); go_simp; (try with_reducible rfl); (try omega))
  simp only [List.setIfInBounds_toArray, List.set_cons_zero, List.set_cons_succ]
  refine held_take (v := sV s) 16 rfl (by kernel_rfl) (by kernel_rfl) (by kernel_rfl) (fun _ _ _ h => h) (by rfl) (fun W hSw => exec_load_any _ (.tmp 3) rfl w.heap.size 0 (sR s) _ rfl (rangeAll (hSw _ (.head _))) Try.underlying24 rfl sp_info) (by assumption) ?_
  simp only [List.setIfInBounds_toArray, List.set_cons_zero, List.set_cons_succ]
  refine held_take (v := ?v140) 18 rfl (by kernel_rfl) (by kernel_rfl) (by kernel_rfl) (fun _ _ _ h => h) (by rfl) ?y140 (by assumption) ?_
  case y140 => (intro w hSw; (try dsimp only at hSw); go_simp; (try with_reducible rfl); (try omega))
  simp only [List.setIfInBounds_toArray, List.set_cons_zero, List.set_cons_succ]
  refine held_take (v := sV s) 19 rfl (by kernel_rfl) (by kernel_rfl) (by kernel_rfl) (fun _ _ _ h => h) (by rfl) (fun W hSw => exec_load_any _ (.tmp 3) rfl w.heap.size 0 (sR s) _ rfl (rangeAll (hSw _ (.head _))) Try.underlying24 rfl sp_info) (by assumption) ?_
  simp only [List.setIfInBounds_toArray, List.set_cons_zero, List.set_cons_succ]
  have hc9 := scut_any _ l s _ (HZ8.out.sl _ (.tail _ (.tail _ (.tail _ (.tail _ (.head _)))))) (by omega)
  have HC9 := Lib.hid hc9
  clear hc9
  refine held_one 17 rfl (by kernel_rfl) (by rfl) (fun K hK => ?_)
  go_simp
  refine HC9.out.mono ?_
  rintro e w109 ⟨v9, rfl, i9, b9⟩
  obtain ⟨a9, c9, rfl, _⟩ := i9.form
  have HZ9 := Lib.hid ((HZ8.out.up b9).add i9)
  refine hK.out _ _ HZ9.out.bx (fun hHeld => ?_)
  clear hK K b9 HZ8 HC9 i9
  (try simp only [List.setIfInBounds_toArray, List.set_cons_zero, List.set_cons_succ])
  have hc10 := rcut_any _ l s _ (HZ9.out.sl _ (.tail _ (.tail _ (.tail _ (.tail _ (.tail _ (.head _))))))) (by omega)
  have HC10 := Lib.hid hc10
  clear hc10
  refine held_one 20 rfl (by kernel_rfl) (by rfl) (fun K hK => ?_)
  go_simp
  refine HC10.out.mono ?_
  rintro e w110 ⟨v10, rfl, i10, b10⟩
  obtain ⟨a10, c10, rfl, _⟩ := i10.form
  have HZ10 := Lib.hid ((HZ9.out.up b10).add i10)
  refine hK.out _ _ HZ10.out.bx (fun hHeld => ?_)
  clear hK K b10 HZ9 HC10 i10
  (try simp only [List.setIfInBounds_toArray, List.set_cons_zero, List.set_cons_succ])
  have hc11 := rsame_any _ _ (cutS l s) _ (HZ10.out.sl _ (.tail _ (.head _))) (HZ10.out.sl _ (.head _)) (by have := cutS_len l s; omega)
  have HC11 := Lib.hid hc11
  clear hc11
  refine held_one 21 rfl (by kernel_rfl) (by rfl) (fun K hK => ?_)
  go_simp
  refine HC11.out.mono ?_
  rintro e w111 ⟨rfl, b11⟩
  have HZ11 := Lib.hid (HZ10.out.up b11)
  refine hK.out _ _ HZ11.out.bx (fun hHeld => ?_)
  clear hK K b11 HZ10 HC11 
  (try simp only [List.setIfInBounds_toArray, List.set_cons_zero, List.set_cons_succ])
  refine held_take (v := ?v180) 22 rfl (by kernel_rfl) (by kernel_rfl) (by kernel_rfl) (fun _ _ _ h => h) (by rfl) ?y180 (by assumption) ?_
  case y180 => (intro w hSw; (try dsimp only at hSw); go_simp; (try with_reducible rfl); (try omega))
  simp only [List.setIfInBounds_toArray, List.set_cons_zero, List.set_cons_succ]
  refine held_take (v := ?v183) 23 rfl (by kernel_rfl) (by kernel_rfl) (by kernel_rfl) (fun _ _ _ h => h) (by rfl) ?y183 (by assumption) ?_
  case y183 => (intro w hSw; (try dsimp only at hSw); go_simp; (try with_reducible rfl); (try omega))
  simp only [List.setIfInBounds_toArray, List.set_cons_zero, List.set_cons_succ]
  refine wpAnyH_done (by kernel_rfl) ?_ _
  refine NoPanic.normal ?_
  have HBF := Lib.hid HZ11.out.below
  clear HZ11
  go_wp2
  go_ret
  exact ⟨rfl, HBF.out⟩

/-- As the row hands it its facts. -/
theorem norm11_walk_row (a : Option Addr) (n0 c : Nat) (l : List Spn) (f e : Int) (w : World) (h : IsS w (.slice a n0 c) l) {P0 P1 P2 P3 : Prop} (_ : P0) (_ : P1) (_ : P2) (_ : P3) :
    Calls Try.prog 3 #[.slice a n0 c, .agg #[.int .i64 f, .int .i64 e]] w fun e w' => e = .returned (.bool true) ∧ Below w.heap.size w w' := norm11_walk a n0 c l ⟨f, e⟩ w h
end Go.Proofs.Ythmcgignejofiaa
