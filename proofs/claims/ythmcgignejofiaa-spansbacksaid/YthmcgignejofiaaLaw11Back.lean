/- SpansBack: what is added and cut again leaves the rows as they were, if they had none of it; the lowest run is one of the rows', and cut it is there no more. -/
import Derived.Test.YthmcgignejofiaaAw11
import Derived.Test.YthmcgignejofiaaReg
namespace Go.Proofs.Ythmcgignejofiaa
open Go Go.RowKit Go.Shelf

set_option maxRecDepth 100000 in
set_option maxHeartbeats 8000000 in
theorem back11_walk (a : Option Addr) (n0 c : Nat) (l : List Spn) (s : Spn) (size : Int) (w : World) (h : IsS w (.slice a n0 c) l) :
    Calls Try.prog 6 #[.slice a n0 c, .agg #[.int .i64 s.f, .int .i64 s.l], .int .i64 size] w fun e w' => e = .returned (.bool true) ∧ Below w.heap.size w w' := by
  have HA := Lib.hid (fun W => awake11 W)
  obtain ⟨rfl, hcap, hcm, _⟩ := h.shape
  unfold maxLen at hcm
  have HZ := Lib.hid (z11_new w h s)
  rw [show Value.agg #[.int .i64 s.f, .int .i64 s.l] = .agg (sR s).toArray from rfl]
  have HAL := Lib.hid (fun (W : World) (o : Obj) => ((Below.refl W.heap.size W).alloc (Nat.le_refl _) o : Below W.heap.size W (W.alloc o)))
  clear h
  by_cases h30 : 30 < l.length
  · have h30i : (30 : Int) < (l.length : Int) := by omega
    go_enter Try.func6, Try.ntmps6
    go_wp2_with (go_at_call 8; refine (HA.out _).mono ?_; rintro e w1 ⟨rfl, b1⟩; refine Hid.out ?_)
    refine Lib.hid ?_
    have HBF := Lib.hid (HZ.out.up b1).below
    clear b1 HZ
    go_wp2
    go_ret
    exact ⟨rfl, HBF.out⟩
  have h30i : (l.length : Int) ≤ 30 := by omega
  have hml := normS_length_le l
  obtain ⟨o, ho⟩ : ∃ o, firstS size (normS l) = o := ⟨_, rfl⟩
  obtain ⟨p, hp⟩ : ∃ p, o.getD ⟨0, 0⟩ = p := ⟨_, rfl⟩
  have HO := Lib.hid ho
  have HP := Lib.hid hp
  have HFR := Lib.hid (show fRes (firstS size (normS l)) = .tuple #[.agg #[.int .i64 p.f, .int .i64 p.l], .bool o.isSome] by rw [fRes_of, ho, hp])
  obtain ⟨mb, hmb⟩ : ∃ b, meetS l s = b := ⟨_, rfl⟩
  have HMB := Lib.hid hmb
  clear ho hp hmb
  go_enter Try.func6, Try.ntmps6
  go_wp2_with (go_at_call 8; refine (HA.out _).mono ?_; rintro e w1 ⟨rfl, b1⟩; refine Hid.out ?_)
  refine Lib.hid ?_
  have HZ1 := Lib.hid (HZ.out.up b1)
  clear b1 HZ
  have hc2 := snorm_any _ l _ (HZ1.out.sl _ (.head _)) (by omega)
  have HC2 := Lib.hid hc2
  clear hc2
  go_wp2_with (go_at_call 10; refine HC2.out.mono ?_; rintro e w102 ⟨v2, rfl, i2, b2⟩; refine Hid.out ?_)
  refine Lib.hid ?_
  obtain ⟨a2, c2, rfl, _⟩ := i2.form
  have HZ2 := Lib.hid ((HZ1.out.up b2).add i2)
  clear b2 HZ1 HC2 i2
  go_wp2
  have HZ3 := Lib.hid (HZ2.out.up (Below.refl _ _).drew)
  refine wp_region_noPanic ?_
  refine wp_region_held_drew (S := BxA [(w.heap.size, s)]) (by kernel_rfl) HZ3.out.bx (fun hHeld => ?_)
  clear HZ2
  refine held_take (v := ?v55) 0 rfl (by kernel_rfl) (by kernel_rfl) (by kernel_rfl) (fun _ _ _ h => h) (by rfl) ?y55 (by assumption) ?_
  case y55 => (intro w hSw; (try dsimp only at hSw); go_simp; (try with_reducible rfl); (try omega))
  simp only [List.setIfInBounds_toArray, List.set_cons_zero, List.set_cons_succ]
  refine held_take (v := sV s) 1 rfl (by kernel_rfl) (by kernel_rfl) (by kernel_rfl) (fun _ _ _ h => h) (by rfl) (fun W hSw => exec_load_any _ (.tmp 4) rfl w.heap.size 0 (sR s) _ rfl (rangeAll (hSw _ (.head _))) Try.underlying24 rfl sp_info) (by assumption) ?_
  simp only [List.setIfInBounds_toArray, List.set_cons_zero, List.set_cons_succ]
  have hc4 := smeet_any _ l s _ (HZ3.out.sl _ (.tail _ (.head _))) (by omega)
  rw [HMB.out] at hc4
  have HC4 := Lib.hid hc4
  clear hc4
  refine held_one 2 rfl (by kernel_rfl) (by rfl) (fun K hK => ?_)
  go_simp
  refine HC4.out.mono ?_
  rintro e w104 ⟨rfl, b4⟩
  have HZ4 := Lib.hid (HZ3.out.up b4)
  refine hK.out _ _ HZ4.out.bx (fun hHeld => ?_)
  clear hK K b4 HZ3 HC4 
  (try simp only [List.setIfInBounds_toArray, List.set_cons_zero, List.set_cons_succ])
  cases mb with
  | true =>
    refine held_take (v := ?v74) 3 rfl (by kernel_rfl) (by kernel_rfl) (by kernel_rfl) (fun _ _ _ h => h) (by rfl) ?y74 (by assumption) ?_
    case y74 => (intro w hSw; (try dsimp only at hSw); go_simp; (try with_reducible rfl); (try omega))
    simp only [List.setIfInBounds_toArray, List.set_cons_zero, List.set_cons_succ]
    refine held_take (v := ?v77) 4 rfl (by kernel_rfl) (by kernel_rfl) (by kernel_rfl) (fun _ _ _ h => h) (by rfl) ?y77 (by assumption) ?_
    case y77 => (intro w hSw; (try dsimp only at hSw); go_simp; (try with_reducible rfl); (try omega))
    simp only [List.setIfInBounds_toArray, List.set_cons_zero, List.set_cons_succ]
    refine held_skip 5 rfl (by kernel_rfl) (by kernel_rfl) (by kernel_rfl) (fun _ _ _ h => h) (by rfl) (by assumption) ?_
    simp only [List.setIfInBounds_toArray, List.set_cons_zero, List.set_cons_succ]
    refine held_skip 6 rfl (by kernel_rfl) (by kernel_rfl) (by kernel_rfl) (fun _ _ _ h => h) (by rfl) (by assumption) ?_
    simp only [List.setIfInBounds_toArray, List.set_cons_zero, List.set_cons_succ]
    refine held_skip 7 rfl (by kernel_rfl) (by kernel_rfl) (by kernel_rfl) (fun _ _ _ h => h) (by rfl) (by assumption) ?_
    simp only [List.setIfInBounds_toArray, List.set_cons_zero, List.set_cons_succ]
    refine held_skip 8 rfl (by kernel_rfl) (by kernel_rfl) (by kernel_rfl) (fun _ _ _ h => h) (by rfl) (by assumption) ?_
    simp only [List.setIfInBounds_toArray, List.set_cons_zero, List.set_cons_succ]
    refine held_skip 9 rfl (by kernel_rfl) (by kernel_rfl) (by kernel_rfl) (fun _ _ _ h => h) (by rfl) (by assumption) ?_
    simp only [List.setIfInBounds_toArray, List.set_cons_zero, List.set_cons_succ]
    refine held_skip 10 rfl (by kernel_rfl) (by kernel_rfl) (by kernel_rfl) (fun _ _ _ h => h) (by rfl) (by assumption) ?_
    simp only [List.setIfInBounds_toArray, List.set_cons_zero, List.set_cons_succ]
    refine held_skip 11 rfl (by kernel_rfl) (by kernel_rfl) (by kernel_rfl) (fun _ _ _ h => h) (by rfl) (by assumption) ?_
    simp only [List.setIfInBounds_toArray, List.set_cons_zero, List.set_cons_succ]
    refine held_skip 12 rfl (by kernel_rfl) (by kernel_rfl) (by kernel_rfl) (fun _ _ _ h => h) (by rfl) (by assumption) ?_
    simp only [List.setIfInBounds_toArray, List.set_cons_zero, List.set_cons_succ]
    refine held_take (v := ?v96) 13 rfl (by kernel_rfl) (by kernel_rfl) (by kernel_rfl) (fun _ _ _ h => h) (by rfl) ?y96 (by assumption) ?_
    case y96 => (intro w hSw; (try dsimp only at hSw); go_simp; (try with_reducible rfl); (try omega))
    simp only [List.setIfInBounds_toArray, List.set_cons_zero, List.set_cons_succ]
    refine wpAnyH_done (by kernel_rfl) ?_ _
    refine NoPanic.normal ?_
    have hc5 := sfirst_any _ l size _ (HZ4.out.sl _ (.tail _ (.head _))) (by omega)
    rw [HFR.out] at hc5
    have HC5 := Lib.hid hc5
    clear hc5
    go_wp2_with (go_at_call 16; refine HC5.out.mono ?_; rintro e w105 ⟨rfl, b5⟩; refine Hid.out ?_)
    refine Lib.hid ?_
    have HZ5 := Lib.hid (HZ4.out.up b5)
    clear b5 HZ4 HC5 
    have HZ6 := Lib.hid ((HZ5.out.up (HAL.out w105 (.cells #[.int .i64 p.f, .int .i64 p.l] 24))).box (Bx.new w105 24 (sR p)))
    clear HZ5
    cases o with
    | none =>
      have hp0 : p = ⟨0, 0⟩ := HP.out.symm
      subst hp0
      have HLT := Lib.hid (fun (h : 0 < size) => long_lt HO.out h)
      simp only [Option.isSome_none]
      have hrS6 := rangeAll (HZ6.out.bx _ (.head _))
      have e6a := rng0 hrS6
      have e6b := rng1 hrS6
      simp only [Nat.zero_add] at e6a e6b
      clear hrS6
      by_cases hs1 : size < 1
      · have HBF := Lib.hid HZ6.out.below
        clear HZ6
        go_wp2
        go_ret
        exact ⟨rfl, HBF.out⟩
      · have hs2 : 1 ≤ size := by omega
        obtain ⟨ll, hll⟩ : ∃ n, longS (normS l) 0 = n := ⟨_, rfl⟩
        have hlt2 := HLT.out (by omega)
        rw [hll] at hlt2
        have HLL := Lib.hid hll
        clear hll
        have hc7 := slong_any _ l _ (HZ6.out.sl _ (.tail _ (.head _))) (by omega)
        rw [HLL.out] at hc7
        have HC7 := Lib.hid hc7
        clear hc7
        go_wp2_with (go_at_call 24; refine HC7.out.mono ?_; rintro e w107 ⟨rfl, b7⟩; refine Hid.out ?_)
        refine Lib.hid ?_
        have HZ7 := Lib.hid (HZ6.out.up b7)
        clear b7 HZ6 HC7  e6a e6b
        have HBF := Lib.hid HZ7.out.below
        clear HZ7
        go_wp2
        go_ret
        exact ⟨rfl, HBF.out⟩
    | some f =>
      have hpf : f = p := HP.out
      subst hpf
      simp only [Option.isSome_some]
      have hfs := first_some (norm_ok l).1 HO.out
      have HHAS := Lib.hid (first_has HO.out)
      obtain ⟨hf1, hf2, hf3, _⟩ := hfs
      unfold mayS at hf3
      obtain ⟨hf4, hf5, hf6⟩ := hf3
      have hrS6 := rangeAll (HZ6.out.bx _ (.head _))
      have e6a := rng0 hrS6
      have e6b := rng1 hrS6
      simp only [Nat.zero_add] at e6a e6b
      clear hrS6
      have hc7 := scut_any _ l f _ (HZ6.out.sl _ (.tail _ (.head _))) (by omega)
      have HC7 := Lib.hid hc7
      clear hc7
      go_wp2_with (go_at_call 14; refine HC7.out.mono ?_; rintro e w107 ⟨v7, rfl, i7, b7⟩; refine Hid.out ?_)
      refine Lib.hid ?_
      obtain ⟨a7, c7, rfl, _⟩ := i7.form
      have HZ7 := Lib.hid ((HZ6.out.up b7).add i7)
      clear b7 HZ6 HC7 i7 e6a e6b
      have hrS7 := rangeAll (HZ7.out.bx _ (.head _))
      have e7a := rng0 hrS7
      have e7b := rng1 hrS7
      simp only [Nat.zero_add] at e7a e7b
      clear hrS7
      have hc8 := shas_any _ l f _ (HZ7.out.sl _ (.tail _ (.tail _ (.head _)))) (by omega)
      rw [HHAS.out] at hc8
      have HC8 := Lib.hid hc8
      clear hc8
      go_wp2_with (go_at_call 18; refine HC8.out.mono ?_; rintro e w108 ⟨rfl, b8⟩; refine Hid.out ?_)
      refine Lib.hid ?_
      have HZ8 := Lib.hid (HZ7.out.up b8)
      clear b8 HZ7 HC8  e7a e7b
      have hrS8 := rangeAll (HZ8.out.bx _ (.head _))
      have e8a := rng0 hrS8
      have e8b := rng1 hrS8
      simp only [Nat.zero_add] at e8a e8b
      clear hrS8
      have hf7 : f.l - f.f + 1 = size := hf2
      have hf8 : f.l - f.f + 1 ≤ 1048576 := by omega
      have hf9 : 0 ≤ f.l - f.f := by omega
      have hc9 := smeet_any _ (cutS l f) f _ (HZ8.out.sl _ (.head _)) (by have := cutS_len l f; omega)
      rw [cut_meets] at hc9
      have HC9 := Lib.hid hc9
      clear hc9
      go_wp2_with (go_at_call 20; refine HC9.out.mono ?_; rintro e w109 ⟨rfl, b9⟩; refine Hid.out ?_)
      refine Lib.hid ?_
      have HZ9 := Lib.hid (HZ8.out.up b9)
      clear b9 HZ8 HC9  e8a e8b
      obtain ⟨nl, hnl⟩ : ∃ n, cntS (normS l) = n := ⟨_, rfl⟩
      have hcn : cntS (normS (cutS l f)) = nl - size := by rw [norm_self (cut_normal l f), cnt_cut HHAS.out, hnl, hf2]
      have hnb := cntS_bound (norm_ok l).1
      rw [hnl] at hnb
      obtain ⟨hnb1, hnb2⟩ := hnb
      have HNL := Lib.hid hnl
      have HCN := Lib.hid hcn
      have hsz2 : size ≤ 1048576 := by omega
      clear hnl hcn
      have hc10 := scount_any _ (cutS l f) _ (HZ9.out.sl _ (.head _)) (by have := cutS_len l f; omega)
      rw [HCN.out] at hc10
      have HC10 := Lib.hid hc10
      clear hc10
      go_wp2_with (go_at_call 22; refine HC10.out.mono ?_; rintro e w110 ⟨rfl, b10⟩; refine Hid.out ?_)
      refine Lib.hid ?_
      have HZ10 := Lib.hid (HZ9.out.up b10)
      clear b10 HZ9 HC10 
      have hc11 := scount_any _ l _ (HZ10.out.sl _ (.tail _ (.tail _ (.head _)))) (by omega)
      rw [HNL.out] at hc11
      have HC11 := Lib.hid hc11
      clear hc11
      go_wp2_with (go_at_call 22; refine HC11.out.mono ?_; rintro e w111 ⟨rfl, b11⟩; refine Hid.out ?_)
      refine Lib.hid ?_
      have HZ11 := Lib.hid (HZ10.out.up b11)
      clear b11 HZ10 HC11 
      have hrS11 := rangeAll (HZ11.out.bx _ (.head _))
      have e11a := rng0 hrS11
      have e11b := rng1 hrS11
      simp only [Nat.zero_add] at e11a e11b
      clear hrS11
      have hc12 := sadd_any _ (cutS l f) f _ (HZ11.out.sl _ (.head _)) (by have := cutS_len l f; omega)
      rw [cut_add_back HHAS.out] at hc12
      have HC12 := Lib.hid hc12
      clear hc12
      go_wp2_with (go_at_call 12; refine HC12.out.mono ?_; rintro e w112 ⟨v12, rfl, i12, b12⟩; refine Hid.out ?_)
      refine Lib.hid ?_
      obtain ⟨a12, c12, rfl, _⟩ := i12.form
      have HZ12 := Lib.hid ((HZ11.out.up b12).add i12)
      clear b12 HZ11 HC12 i12 e11a e11b
      have hc13 := rsame_any _ _ (normS l) _ (HZ12.out.sl _ (.head _)) (HZ12.out.sl _ (.tail _ (.tail _ (.head _)))) (by omega)
      have HC13 := Lib.hid hc13
      clear hc13
      go_wp2_with (go_at_call 9; refine HC13.out.mono ?_; rintro e w113 ⟨rfl, b13⟩; refine Hid.out ?_)
      refine Lib.hid ?_
      have HZ13 := Lib.hid (HZ12.out.up b13)
      clear b13 HZ12 HC13 
      have HBF := Lib.hid HZ13.out.below
      clear HZ13
      go_wp2
      go_ret
      exact ⟨rfl, HBF.out⟩
  | false =>
    refine held_take (v := ?v250) 3 rfl (by kernel_rfl) (by kernel_rfl) (by kernel_rfl) (fun _ _ _ h => h) (by rfl) ?y250 (by assumption) ?_
    case y250 => (intro w hSw; (try dsimp only at hSw); go_simp; (try with_reducible rfl); (try omega))
    simp only [List.setIfInBounds_toArray, List.set_cons_zero, List.set_cons_succ]
    refine held_take (v := ?v253) 4 rfl (by kernel_rfl) (by kernel_rfl) (by kernel_rfl) (fun _ _ _ h => h) (by rfl) ?y253 (by assumption) ?_
    case y253 => (intro w hSw; (try dsimp only at hSw); go_simp; (try with_reducible rfl); (try omega))
    simp only [List.setIfInBounds_toArray, List.set_cons_zero, List.set_cons_succ]
    refine held_take (v := ?v256) 5 rfl (by kernel_rfl) (by kernel_rfl) (by kernel_rfl) (fun _ _ _ h => h) (by rfl) ?y256 (by assumption) ?_
    case y256 => (intro w hSw; (try dsimp only at hSw); go_simp; (try with_reducible rfl); (try omega))
    simp only [List.setIfInBounds_toArray, List.set_cons_zero, List.set_cons_succ]
    refine held_take (v := sV s) 6 rfl (by kernel_rfl) (by kernel_rfl) (by kernel_rfl) (fun _ _ _ h => h) (by rfl) (fun W hSw => exec_load_any _ (.tmp 4) rfl w.heap.size 0 (sR s) _ rfl (rangeAll (hSw _ (.head _))) Try.underlying24 rfl sp_info) (by assumption) ?_
    simp only [List.setIfInBounds_toArray, List.set_cons_zero, List.set_cons_succ]
    refine held_take (v := sV s) 8 rfl (by kernel_rfl) (by kernel_rfl) (by kernel_rfl) (fun _ _ _ h => h) (by rfl) (fun W hSw => exec_load_any _ (.tmp 4) rfl w.heap.size 0 (sR s) _ rfl (rangeAll (hSw _ (.head _))) Try.underlying24 rfl sp_info) (by assumption) ?_
    simp only [List.setIfInBounds_toArray, List.set_cons_zero, List.set_cons_succ]
    refine held_take (v := ?v263) 10 rfl (by kernel_rfl) (by kernel_rfl) (by kernel_rfl) (fun _ _ _ h => h) (by rfl) ?y263 (by assumption) ?_
    case y263 => (intro w hSw; (try dsimp only at hSw); go_simp; (try with_reducible rfl); (try omega))
    simp only [List.setIfInBounds_toArray, List.set_cons_zero, List.set_cons_succ]
    have hc5 := sadd_any _ l s _ (HZ4.out.sl _ (.tail _ (.head _))) (by omega)
    have HC5 := Lib.hid hc5
    clear hc5
    refine held_one 7 rfl (by kernel_rfl) (by rfl) (fun K hK => ?_)
    go_simp
    refine HC5.out.mono ?_
    rintro e w105 ⟨v5, rfl, i5, b5⟩
    obtain ⟨a5, c5, rfl, _⟩ := i5.form
    have HZ5 := Lib.hid ((HZ4.out.up b5).add i5)
    refine hK.out _ _ HZ5.out.bx (fun hHeld => ?_)
    clear hK K b5 HZ4 HC5 i5
    (try simp only [List.setIfInBounds_toArray, List.set_cons_zero, List.set_cons_succ])
    have hc6 := scut_any _ (addS l s) s _ (HZ5.out.sl _ (.head _)) (by have := addS_len l s; omega)
    rw [add_cut_back HMB.out] at hc6
    have HC6 := Lib.hid hc6
    clear hc6
    refine held_one 9 rfl (by kernel_rfl) (by rfl) (fun K hK => ?_)
    go_simp
    refine HC6.out.mono ?_
    rintro e w106 ⟨v6, rfl, i6, b6⟩
    obtain ⟨a6, c6, rfl, _⟩ := i6.form
    have HZ6 := Lib.hid ((HZ5.out.up b6).add i6)
    refine hK.out _ _ HZ6.out.bx (fun hHeld => ?_)
    clear hK K b6 HZ5 HC6 i6
    (try simp only [List.setIfInBounds_toArray, List.set_cons_zero, List.set_cons_succ])
    have hc7 := rsame_any _ _ (normS l) _ (HZ6.out.sl _ (.head _)) (HZ6.out.sl _ (.tail _ (.tail _ (.head _)))) (by omega)
    have HC7 := Lib.hid hc7
    clear hc7
    refine held_one 11 rfl (by kernel_rfl) (by rfl) (fun K hK => ?_)
    go_simp
    refine HC7.out.mono ?_
    rintro e w107 ⟨rfl, b7⟩
    have HZ7 := Lib.hid (HZ6.out.up b7)
    refine hK.out _ _ HZ7.out.bx (fun hHeld => ?_)
    clear hK K b7 HZ6 HC7 
    (try simp only [List.setIfInBounds_toArray, List.set_cons_zero, List.set_cons_succ])
    refine held_take (v := ?v302) 12 rfl (by kernel_rfl) (by kernel_rfl) (by kernel_rfl) (fun _ _ _ h => h) (by rfl) ?y302 (by assumption) ?_
    case y302 => (intro w hSw; (try dsimp only at hSw); go_simp; (try with_reducible rfl); (try omega))
    simp only [List.setIfInBounds_toArray, List.set_cons_zero, List.set_cons_succ]
    refine held_take (v := ?v305) 13 rfl (by kernel_rfl) (by kernel_rfl) (by kernel_rfl) (fun _ _ _ h => h) (by rfl) ?y305 (by assumption) ?_
    case y305 => (intro w hSw; (try dsimp only at hSw); go_simp; (try with_reducible rfl); (try omega))
    simp only [List.setIfInBounds_toArray, List.set_cons_zero, List.set_cons_succ]
    refine wpAnyH_done (by kernel_rfl) ?_ _
    refine NoPanic.normal ?_
    have hc8 := sfirst_any _ l size _ (HZ7.out.sl _ (.tail _ (.tail _ (.tail _ (.head _))))) (by omega)
    rw [HFR.out] at hc8
    have HC8 := Lib.hid hc8
    clear hc8
    go_wp2_with (go_at_call 16; refine HC8.out.mono ?_; rintro e w108 ⟨rfl, b8⟩; refine Hid.out ?_)
    refine Lib.hid ?_
    have HZ8 := Lib.hid (HZ7.out.up b8)
    clear b8 HZ7 HC8 
    have HZ9 := Lib.hid ((HZ8.out.up (HAL.out w108 (.cells #[.int .i64 p.f, .int .i64 p.l] 24))).box (Bx.new w108 24 (sR p)))
    clear HZ8
    cases o with
    | none =>
      have hp0 : p = ⟨0, 0⟩ := HP.out.symm
      subst hp0
      have HLT := Lib.hid (fun (h : 0 < size) => long_lt HO.out h)
      simp only [Option.isSome_none]
      have hrS9 := rangeAll (HZ9.out.bx _ (.head _))
      have e9a := rng0 hrS9
      have e9b := rng1 hrS9
      simp only [Nat.zero_add] at e9a e9b
      clear hrS9
      by_cases hs1 : size < 1
      · have HBF := Lib.hid HZ9.out.below
        clear HZ9
        go_wp2
        go_ret
        exact ⟨rfl, HBF.out⟩
      · have hs2 : 1 ≤ size := by omega
        obtain ⟨ll, hll⟩ : ∃ n, longS (normS l) 0 = n := ⟨_, rfl⟩
        have hlt2 := HLT.out (by omega)
        rw [hll] at hlt2
        have HLL := Lib.hid hll
        clear hll
        have hc10 := slong_any _ l _ (HZ9.out.sl _ (.tail _ (.tail _ (.tail _ (.head _))))) (by omega)
        rw [HLL.out] at hc10
        have HC10 := Lib.hid hc10
        clear hc10
        go_wp2_with (go_at_call 24; refine HC10.out.mono ?_; rintro e w110 ⟨rfl, b10⟩; refine Hid.out ?_)
        refine Lib.hid ?_
        have HZ10 := Lib.hid (HZ9.out.up b10)
        clear b10 HZ9 HC10  e9a e9b
        have HBF := Lib.hid HZ10.out.below
        clear HZ10
        go_wp2
        go_ret
        exact ⟨rfl, HBF.out⟩
    | some f =>
      have hpf : f = p := HP.out
      subst hpf
      simp only [Option.isSome_some]
      have hfs := first_some (norm_ok l).1 HO.out
      have HHAS := Lib.hid (first_has HO.out)
      obtain ⟨hf1, hf2, hf3, _⟩ := hfs
      unfold mayS at hf3
      obtain ⟨hf4, hf5, hf6⟩ := hf3
      have hrS9 := rangeAll (HZ9.out.bx _ (.head _))
      have e9a := rng0 hrS9
      have e9b := rng1 hrS9
      simp only [Nat.zero_add] at e9a e9b
      clear hrS9
      have hc10 := scut_any _ l f _ (HZ9.out.sl _ (.tail _ (.tail _ (.tail _ (.head _))))) (by omega)
      have HC10 := Lib.hid hc10
      clear hc10
      go_wp2_with (go_at_call 14; refine HC10.out.mono ?_; rintro e w110 ⟨v10, rfl, i10, b10⟩; refine Hid.out ?_)
      refine Lib.hid ?_
      obtain ⟨a10, c10, rfl, _⟩ := i10.form
      have HZ10 := Lib.hid ((HZ9.out.up b10).add i10)
      clear b10 HZ9 HC10 i10 e9a e9b
      have hrS10 := rangeAll (HZ10.out.bx _ (.head _))
      have e10a := rng0 hrS10
      have e10b := rng1 hrS10
      simp only [Nat.zero_add] at e10a e10b
      clear hrS10
      have hc11 := shas_any _ l f _ (HZ10.out.sl _ (.tail _ (.tail _ (.tail _ (.tail _ (.head _)))))) (by omega)
      rw [HHAS.out] at hc11
      have HC11 := Lib.hid hc11
      clear hc11
      go_wp2_with (go_at_call 18; refine HC11.out.mono ?_; rintro e w111 ⟨rfl, b11⟩; refine Hid.out ?_)
      refine Lib.hid ?_
      have HZ11 := Lib.hid (HZ10.out.up b11)
      clear b11 HZ10 HC11  e10a e10b
      have hrS11 := rangeAll (HZ11.out.bx _ (.head _))
      have e11a := rng0 hrS11
      have e11b := rng1 hrS11
      simp only [Nat.zero_add] at e11a e11b
      clear hrS11
      have hf7 : f.l - f.f + 1 = size := hf2
      have hf8 : f.l - f.f + 1 ≤ 1048576 := by omega
      have hf9 : 0 ≤ f.l - f.f := by omega
      have hc12 := smeet_any _ (cutS l f) f _ (HZ11.out.sl _ (.head _)) (by have := cutS_len l f; omega)
      rw [cut_meets] at hc12
      have HC12 := Lib.hid hc12
      clear hc12
      go_wp2_with (go_at_call 20; refine HC12.out.mono ?_; rintro e w112 ⟨rfl, b12⟩; refine Hid.out ?_)
      refine Lib.hid ?_
      have HZ12 := Lib.hid (HZ11.out.up b12)
      clear b12 HZ11 HC12  e11a e11b
      obtain ⟨nl, hnl⟩ : ∃ n, cntS (normS l) = n := ⟨_, rfl⟩
      have hcn : cntS (normS (cutS l f)) = nl - size := by rw [norm_self (cut_normal l f), cnt_cut HHAS.out, hnl, hf2]
      have hnb := cntS_bound (norm_ok l).1
      rw [hnl] at hnb
      obtain ⟨hnb1, hnb2⟩ := hnb
      have HNL := Lib.hid hnl
      have HCN := Lib.hid hcn
      have hsz2 : size ≤ 1048576 := by omega
      clear hnl hcn
      have hc13 := scount_any _ (cutS l f) _ (HZ12.out.sl _ (.head _)) (by have := cutS_len l f; omega)
      rw [HCN.out] at hc13
      have HC13 := Lib.hid hc13
      clear hc13
      go_wp2_with (go_at_call 22; refine HC13.out.mono ?_; rintro e w113 ⟨rfl, b13⟩; refine Hid.out ?_)
      refine Lib.hid ?_
      have HZ13 := Lib.hid (HZ12.out.up b13)
      clear b13 HZ12 HC13 
      have hc14 := scount_any _ l _ (HZ13.out.sl _ (.tail _ (.tail _ (.tail _ (.tail _ (.head _)))))) (by omega)
      rw [HNL.out] at hc14
      have HC14 := Lib.hid hc14
      clear hc14
      go_wp2_with (go_at_call 22; refine HC14.out.mono ?_; rintro e w114 ⟨rfl, b14⟩; refine Hid.out ?_)
      refine Lib.hid ?_
      have HZ14 := Lib.hid (HZ13.out.up b14)
      clear b14 HZ13 HC14 
      have hrS14 := rangeAll (HZ14.out.bx _ (.head _))
      have e14a := rng0 hrS14
      have e14b := rng1 hrS14
      simp only [Nat.zero_add] at e14a e14b
      clear hrS14
      have hc15 := sadd_any _ (cutS l f) f _ (HZ14.out.sl _ (.head _)) (by have := cutS_len l f; omega)
      rw [cut_add_back HHAS.out] at hc15
      have HC15 := Lib.hid hc15
      clear hc15
      go_wp2_with (go_at_call 12; refine HC15.out.mono ?_; rintro e w115 ⟨v15, rfl, i15, b15⟩; refine Hid.out ?_)
      refine Lib.hid ?_
      obtain ⟨a15, c15, rfl, _⟩ := i15.form
      have HZ15 := Lib.hid ((HZ14.out.up b15).add i15)
      clear b15 HZ14 HC15 i15 e14a e14b
      have hc16 := rsame_any _ _ (normS l) _ (HZ15.out.sl _ (.head _)) (HZ15.out.sl _ (.tail _ (.tail _ (.tail _ (.tail _ (.head _)))))) (by omega)
      have HC16 := Lib.hid hc16
      clear hc16
      go_wp2_with (go_at_call 9; refine HC16.out.mono ?_; rintro e w116 ⟨rfl, b16⟩; refine Hid.out ?_)
      refine Lib.hid ?_
      have HZ16 := Lib.hid (HZ15.out.up b16)
      clear b16 HZ15 HC16 
      have HBF := Lib.hid HZ16.out.below
      clear HZ16
      go_wp2
      go_ret
      exact ⟨rfl, HBF.out⟩

/-- As the row hands it its facts. -/
theorem back11_walk_row (a : Option Addr) (n0 c : Nat) (l : List Spn) (f e : Int) (size : Int) (w : World) (h : IsS w (.slice a n0 c) l) {P0 P1 P2 P3 P4 P5 : Prop} (_ : P0) (_ : P1) (_ : P2) (_ : P3) (_ : P4) (_ : P5) :
    Calls Try.prog 6 #[.slice a n0 c, .agg #[.int .i64 f, .int .i64 e], .int .i64 size] w fun e w' => e = .returned (.bool true) ∧ Below w.heap.size w w' := back11_walk a n0 c l ⟨f, e⟩ size w h
end Go.Proofs.Ythmcgignejofiaa
