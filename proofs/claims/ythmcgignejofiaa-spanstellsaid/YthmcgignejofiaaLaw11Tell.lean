/- SpansTell: whether any rows have all of one, or any, how many labels they have, the lowest run of any size, and the longest one, are the document's. -/
import Derived.Test.YthmcgignejofiaaAw11
import Derived.Test.YthmcgignejofiaaRs5
import Derived.Test.YthmcgignejofiaaRs6
import Derived.Test.YthmcgignejofiaaReg
namespace Go.Proofs.Ythmcgignejofiaa
open Go Go.RowKit Go.Shelf

set_option maxRecDepth 100000 in
set_option maxHeartbeats 8000000 in
theorem tell11_walk (a : Option Addr) (n0 c : Nat) (l : List Spn) (s : Spn) (size : Int) (w : World) (h : IsS w (.slice a n0 c) l) :
    Calls Try.prog 4 #[.slice a n0 c, .agg #[.int .i64 s.f, .int .i64 s.l], .int .i64 size] w fun e w' => e = .returned (.bool true) ∧ Below w.heap.size w w' := by
  have HA := Lib.hid (fun W => awake11 W)
  obtain ⟨rfl, hcap, hcm, _⟩ := h.shape
  unfold maxLen at hcm
  have HZ := Lib.hid (z11_new w h s)
  rw [show Value.agg #[.int .i64 s.f, .int .i64 s.l] = .agg (sR s).toArray from rfl]
  have HAL := Lib.hid (fun (W : World) (o : Obj) => ((Below.refl W.heap.size W).alloc (Nat.le_refl _) o : Below W.heap.size W (W.alloc o)))
  clear h
  by_cases h30 : 30 < l.length
  · have h30i : (30 : Int) < (l.length : Int) := by omega
    go_enter Try.func4, Try.ntmps4
    go_wp2_with (go_at_call 8; refine (HA.out _).mono ?_; rintro e w1 ⟨rfl, b1⟩; refine Hid.out ?_)
    refine Lib.hid ?_
    have HBF := Lib.hid (HZ.out.up b1).below
    clear b1 HZ
    go_wp2
    go_ret
    exact ⟨rfl, HBF.out⟩
  have h30i : (l.length : Int) ≤ 30 := by omega
  obtain ⟨p, hp⟩ : ∃ p, (firstS size (normS l)).getD ⟨0, 0⟩ = p := ⟨_, rfl⟩
  obtain ⟨ib, hib⟩ : ∃ ib, (firstS size (normS l)).isSome = ib := ⟨_, rfl⟩
  have HFR := Lib.hid (show fRes (firstS size (normS l)) = .tuple #[.agg #[.int .i64 p.f, .int .i64 p.l], .bool ib] by rw [fRes_of, hp, hib])
  clear hp hib
  go_enter Try.func4, Try.ntmps4
  go_wp2_with (go_at_call 8; refine (HA.out _).mono ?_; rintro e w1 ⟨rfl, b1⟩; refine Hid.out ?_)
  refine Lib.hid ?_
  have HZ1 := Lib.hid (HZ.out.up b1)
  clear b1 HZ
  have hc2 := sfirst_any _ l size _ (HZ1.out.sl _ (.head _)) (by omega)
  rw [HFR.out] at hc2
  have HC2 := Lib.hid hc2
  clear hc2
  go_wp2_with (go_at_call 16; refine HC2.out.mono ?_; rintro e w102 ⟨rfl, b2⟩; refine Hid.out ?_)
  refine Lib.hid ?_
  have HZ2 := Lib.hid (HZ1.out.up b2)
  clear b2 HZ1 HC2 
  have HZ3 := Lib.hid ((HZ2.out.up (HAL.out w102 (.cells #[.int .i64 p.f, .int .i64 p.l] 24))).box (Bx.new w102 24 (sR p)))
  clear HZ2
  have hc4 := rfirst_any _ l size _ (HZ3.out.sl _ (.head _)) (by omega)
  rw [HFR.out] at hc4
  have HC4 := Lib.hid hc4
  clear hc4
  go_wp2_with (go_at_call 17; refine HC4.out.mono ?_; rintro e w104 ⟨rfl, b4⟩; refine Hid.out ?_)
  refine Lib.hid ?_
  have HZ4 := Lib.hid (HZ3.out.up b4)
  clear b4 HZ3 HC4 
  have HZ5 := Lib.hid ((HZ4.out.up (HAL.out w104 (.cells #[.int .i64 p.f, .int .i64 p.l] 24))).box (Bx.new w104 24 (sR p)))
  clear HZ4
  obtain ⟨rh, hrh⟩ : ∃ r, hasS l s = r := ⟨_, rfl⟩
  obtain ⟨rm, hrm⟩ : ∃ r, meetS l s = r := ⟨_, rfl⟩
  obtain ⟨rc, hrc⟩ : ∃ r, cntS (normS l) = r := ⟨_, rfl⟩
  obtain ⟨rl, hrl⟩ : ∃ r, longS (normS l) 0 = r := ⟨_, rfl⟩
  have HRH := Lib.hid hrh
  have HRM := Lib.hid hrm
  have HRC := Lib.hid hrc
  have HRL := Lib.hid hrl
  clear hrh hrm hrc hrl
  go_wp2
  generalize w104.alloc (.cells #[.int .i64 p.f, .int .i64 p.l] 24) = w5 at *
  have HZ6 := Lib.hid (HZ5.out.up (Below.refl _ _).drew)
  refine wp_region_noPanic ?_
  refine wp_region_held_drew (S := BxA [(w104.heap.size, p), (w102.heap.size, p), (w.heap.size, s)]) (by kernel_rfl) HZ6.out.bx (fun hHeld => ?_)
  clear HZ5
  refine held_take (v := ?v74) 0 rfl (by kernel_rfl) (by kernel_rfl) (by kernel_rfl) (fun _ _ _ h => h) (by rfl) ?y74 (by assumption) ?_
  case y74 => (intro w hSw; (try dsimp only at hSw); go_simp; (try with_reducible rfl); (try omega))
  simp only [List.setIfInBounds_toArray, List.set_cons_zero, List.set_cons_succ]
  refine held_take (v := sV s) 1 rfl (by kernel_rfl) (by kernel_rfl) (by kernel_rfl) (fun _ _ _ h => h) (by rfl) (fun W hSw => exec_load_any _ (.tmp 4) rfl w.heap.size 0 (sR s) _ rfl (rangeAll (hSw _ (.tail _ (.tail _ (.head _))))) Try.underlying24 rfl sp_info) (by assumption) ?_
  simp only [List.setIfInBounds_toArray, List.set_cons_zero, List.set_cons_succ]
  refine held_take (v := ?v79) 3 rfl (by kernel_rfl) (by kernel_rfl) (by kernel_rfl) (fun _ _ _ h => h) (by rfl) ?y79 (by assumption) ?_
  case y79 => (intro w hSw; (try dsimp only at hSw); go_simp; (try with_reducible rfl); (try omega))
  simp only [List.setIfInBounds_toArray, List.set_cons_zero, List.set_cons_succ]
  refine held_take (v := sV s) 4 rfl (by kernel_rfl) (by kernel_rfl) (by kernel_rfl) (fun _ _ _ h => h) (by rfl) (fun W hSw => exec_load_any _ (.tmp 4) rfl w.heap.size 0 (sR s) _ rfl (rangeAll (hSw _ (.tail _ (.tail _ (.head _))))) Try.underlying24 rfl sp_info) (by assumption) ?_
  simp only [List.setIfInBounds_toArray, List.set_cons_zero, List.set_cons_succ]
  have hc7 := shas_any _ l s _ (HZ6.out.sl _ (.head _)) (by omega)
  rw [HRH.out] at hc7
  have HC7 := Lib.hid hc7
  clear hc7
  refine held_one 2 rfl (by kernel_rfl) (by rfl) (fun K hK => ?_)
  go_simp
  refine HC7.out.mono ?_
  rintro e w107 ⟨rfl, b7⟩
  have HZ7 := Lib.hid (HZ6.out.up b7)
  refine hK.out _ _ HZ7.out.bx (fun hHeld => ?_)
  clear hK K b7 HZ6 HC7 
  (try simp only [List.setIfInBounds_toArray, List.set_cons_zero, List.set_cons_succ])
  have hc8 := rhas_any _ l s _ (HZ7.out.sl _ (.head _)) (by omega)
  rw [HRH.out] at hc8
  have HC8 := Lib.hid hc8
  clear hc8
  refine held_one 5 rfl (by kernel_rfl) (by rfl) (fun K hK => ?_)
  go_simp
  refine HC8.out.mono ?_
  rintro e w108 ⟨rfl, b8⟩
  have HZ8 := Lib.hid (HZ7.out.up b8)
  refine hK.out _ _ HZ8.out.bx (fun hHeld => ?_)
  clear hK K b8 HZ7 HC8 
  (try simp only [List.setIfInBounds_toArray, List.set_cons_zero, List.set_cons_succ])
  refine held_take (v := .bool true) 6 rfl (by kernel_rfl) (by kernel_rfl) (by kernel_rfl) (fun _ _ _ h => h) (by rfl) (fun W hSw => (by go_simp)) (by assumption) ?_
  simp only [List.setIfInBounds_toArray, List.set_cons_zero, List.set_cons_succ]
  refine held_take (v := ?v110) 7 rfl (by kernel_rfl) (by kernel_rfl) (by kernel_rfl) (fun _ _ _ h => h) (by rfl) ?y110 (by assumption) ?_
  case y110 => (intro w hSw; (try dsimp only at hSw); go_simp; (try with_reducible rfl); (try omega))
  simp only [List.setIfInBounds_toArray, List.set_cons_zero, List.set_cons_succ]
  refine held_take (v := ?v113) 8 rfl (by kernel_rfl) (by kernel_rfl) (by kernel_rfl) (fun _ _ _ h => h) (by rfl) ?y113 (by assumption) ?_
  case y113 => (intro w hSw; (try dsimp only at hSw); go_simp; (try with_reducible rfl); (try omega))
  simp only [List.setIfInBounds_toArray, List.set_cons_zero, List.set_cons_succ]
  refine held_take (v := sV s) 9 rfl (by kernel_rfl) (by kernel_rfl) (by kernel_rfl) (fun _ _ _ h => h) (by rfl) (fun W hSw => exec_load_any _ (.tmp 4) rfl w.heap.size 0 (sR s) _ rfl (rangeAll (hSw _ (.tail _ (.tail _ (.head _))))) Try.underlying24 rfl sp_info) (by assumption) ?_
  simp only [List.setIfInBounds_toArray, List.set_cons_zero, List.set_cons_succ]
  refine held_take (v := ?v118) 11 rfl (by kernel_rfl) (by kernel_rfl) (by kernel_rfl) (fun _ _ _ h => h) (by rfl) ?y118 (by assumption) ?_
  case y118 => (intro w hSw; (try dsimp only at hSw); go_simp; (try with_reducible rfl); (try omega))
  simp only [List.setIfInBounds_toArray, List.set_cons_zero, List.set_cons_succ]
  refine held_take (v := sV s) 12 rfl (by kernel_rfl) (by kernel_rfl) (by kernel_rfl) (fun _ _ _ h => h) (by rfl) (fun W hSw => exec_load_any _ (.tmp 4) rfl w.heap.size 0 (sR s) _ rfl (rangeAll (hSw _ (.tail _ (.tail _ (.head _))))) Try.underlying24 rfl sp_info) (by assumption) ?_
  simp only [List.setIfInBounds_toArray, List.set_cons_zero, List.set_cons_succ]
  have hc9 := smeet_any _ l s _ (HZ8.out.sl _ (.head _)) (by omega)
  rw [HRM.out] at hc9
  have HC9 := Lib.hid hc9
  clear hc9
  refine held_one 10 rfl (by kernel_rfl) (by rfl) (fun K hK => ?_)
  go_simp
  refine HC9.out.mono ?_
  rintro e w109 ⟨rfl, b9⟩
  have HZ9 := Lib.hid (HZ8.out.up b9)
  refine hK.out _ _ HZ9.out.bx (fun hHeld => ?_)
  clear hK K b9 HZ8 HC9 
  (try simp only [List.setIfInBounds_toArray, List.set_cons_zero, List.set_cons_succ])
  have hc10 := rmeet_any _ l s _ (HZ9.out.sl _ (.head _)) (by omega)
  rw [HRM.out] at hc10
  have HC10 := Lib.hid hc10
  clear hc10
  refine held_one 13 rfl (by kernel_rfl) (by rfl) (fun K hK => ?_)
  go_simp
  refine HC10.out.mono ?_
  rintro e w110 ⟨rfl, b10⟩
  have HZ10 := Lib.hid (HZ9.out.up b10)
  refine hK.out _ _ HZ10.out.bx (fun hHeld => ?_)
  clear hK K b10 HZ9 HC10 
  (try simp only [List.setIfInBounds_toArray, List.set_cons_zero, List.set_cons_succ])
  refine held_take (v := .bool true) 14 rfl (by kernel_rfl) (by kernel_rfl) (by kernel_rfl) (fun _ _ _ h => h) (by rfl) (fun W hSw => (by go_simp)) (by assumption) ?_
  simp only [List.setIfInBounds_toArray, List.set_cons_zero, List.set_cons_succ]
  refine held_take (v := ?v149) 15 rfl (by kernel_rfl) (by kernel_rfl) (by kernel_rfl) (fun _ _ _ h => h) (by rfl) ?y149 (by assumption) ?_
  case y149 => (intro w hSw; (try dsimp only at hSw); go_simp; (try with_reducible rfl); (try omega))
  simp only [List.setIfInBounds_toArray, List.set_cons_zero, List.set_cons_succ]
  refine held_take (v := ?v152) 16 rfl (by kernel_rfl) (by kernel_rfl) (by kernel_rfl) (fun _ _ _ h => h) (by rfl) ?y152 (by assumption) ?_
  case y152 => (intro w hSw; (try dsimp only at hSw); go_simp; (try with_reducible rfl); (try omega))
  simp only [List.setIfInBounds_toArray, List.set_cons_zero, List.set_cons_succ]
  refine held_take (v := ?v155) 17 rfl (by kernel_rfl) (by kernel_rfl) (by kernel_rfl) (fun _ _ _ h => h) (by rfl) ?y155 (by assumption) ?_
  case y155 => (intro w hSw; (try dsimp only at hSw); go_simp; (try with_reducible rfl); (try omega))
  simp only [List.setIfInBounds_toArray, List.set_cons_zero, List.set_cons_succ]
  refine held_take (v := ?v158) 19 rfl (by kernel_rfl) (by kernel_rfl) (by kernel_rfl) (fun _ _ _ h => h) (by rfl) ?y158 (by assumption) ?_
  case y158 => (intro w hSw; (try dsimp only at hSw); go_simp; (try with_reducible rfl); (try omega))
  simp only [List.setIfInBounds_toArray, List.set_cons_zero, List.set_cons_succ]
  have hc11 := scount_any _ l _ (HZ10.out.sl _ (.head _)) (by omega)
  rw [HRC.out] at hc11
  have HC11 := Lib.hid hc11
  clear hc11
  refine held_one 18 rfl (by kernel_rfl) (by rfl) (fun K hK => ?_)
  go_simp
  refine HC11.out.mono ?_
  rintro e w111 ⟨rfl, b11⟩
  have HZ11 := Lib.hid (HZ10.out.up b11)
  refine hK.out _ _ HZ11.out.bx (fun hHeld => ?_)
  clear hK K b11 HZ10 HC11 
  (try simp only [List.setIfInBounds_toArray, List.set_cons_zero, List.set_cons_succ])
  have hc12 := rcount_any _ l _ (HZ11.out.sl _ (.head _)) (by omega)
  rw [HRC.out] at hc12
  have HC12 := Lib.hid hc12
  clear hc12
  refine held_one 20 rfl (by kernel_rfl) (by rfl) (fun K hK => ?_)
  go_simp
  refine HC12.out.mono ?_
  rintro e w112 ⟨rfl, b12⟩
  have HZ12 := Lib.hid (HZ11.out.up b12)
  refine hK.out _ _ HZ12.out.bx (fun hHeld => ?_)
  clear hK K b12 HZ11 HC12 
  (try simp only [List.setIfInBounds_toArray, List.set_cons_zero, List.set_cons_succ])
  refine held_take (v := .bool true) 21 rfl (by kernel_rfl) (by kernel_rfl) (by kernel_rfl) (fun _ _ _ h => h) (by rfl) (fun W hSw => (by go_simp)) (by assumption) ?_
  simp only [List.setIfInBounds_toArray, List.set_cons_zero, List.set_cons_succ]
  refine held_take (v := ?v187) 22 rfl (by kernel_rfl) (by kernel_rfl) (by kernel_rfl) (fun _ _ _ h => h) (by rfl) ?y187 (by assumption) ?_
  case y187 => (intro w hSw; (try dsimp only at hSw); go_simp; (try with_reducible rfl); (try omega))
  simp only [List.setIfInBounds_toArray, List.set_cons_zero, List.set_cons_succ]
  refine held_take (v := ?v190) 23 rfl (by kernel_rfl) (by kernel_rfl) (by kernel_rfl) (fun _ _ _ h => h) (by rfl) ?y190 (by assumption) ?_
  case y190 => (intro w hSw; (try dsimp only at hSw); go_simp; (try with_reducible rfl); (try omega))
  simp only [List.setIfInBounds_toArray, List.set_cons_zero, List.set_cons_succ]
  refine held_take (v := sV p) 24 rfl (by kernel_rfl) (by kernel_rfl) (by kernel_rfl) (fun _ _ _ h => h) (by rfl) (fun W hSw => exec_load_any _ (.tmp 8) rfl w102.heap.size 0 (sR p) _ rfl (rangeAll (hSw _ (.tail _ (.head _)))) Try.underlying24 rfl sp_info) (by assumption) ?_
  simp only [List.setIfInBounds_toArray, List.set_cons_zero, List.set_cons_succ]
  refine held_take (v := sV p) 25 rfl (by kernel_rfl) (by kernel_rfl) (by kernel_rfl) (fun _ _ _ h => h) (by rfl) (fun W hSw => exec_load_any _ (.tmp 10) rfl w104.heap.size 0 (sR p) _ rfl (rangeAll (hSw _ (.head _))) Try.underlying24 rfl sp_info) (by assumption) ?_
  simp only [List.setIfInBounds_toArray, List.set_cons_zero, List.set_cons_succ]
  refine held_take (v := .bool true) 26 rfl (by kernel_rfl) (by kernel_rfl) (by kernel_rfl) (fun _ _ _ h => h) (by rfl) (fun W hSw => (by unfold sV sR; go_simp)) (by assumption) ?_
  simp only [List.setIfInBounds_toArray, List.set_cons_zero, List.set_cons_succ]
  refine held_take (v := ?v199) 27 rfl (by kernel_rfl) (by kernel_rfl) (by kernel_rfl) (fun _ _ _ h => h) (by rfl) ?y199 (by assumption) ?_
  case y199 => (intro w hSw; (try dsimp only at hSw); go_simp; (try with_reducible rfl); (try omega))
  simp only [List.setIfInBounds_toArray, List.set_cons_zero, List.set_cons_succ]
  refine held_take (v := ?v202) 28 rfl (by kernel_rfl) (by kernel_rfl) (by kernel_rfl) (fun _ _ _ h => h) (by rfl) ?y202 (by assumption) ?_
  case y202 => (intro w hSw; (try dsimp only at hSw); go_simp; (try with_reducible rfl); (try omega))
  simp only [List.setIfInBounds_toArray, List.set_cons_zero, List.set_cons_succ]
  refine held_take (v := ?v205) 29 rfl (by kernel_rfl) (by kernel_rfl) (by kernel_rfl) (fun _ _ _ h => h) (by rfl) ?y205 (by assumption) ?_
  case y205 => (intro w hSw; (try dsimp only at hSw); go_simp; (try with_reducible rfl); (try omega))
  simp only [List.setIfInBounds_toArray, List.set_cons_zero, List.set_cons_succ]
  refine held_take (v := ?v208) 30 rfl (by kernel_rfl) (by kernel_rfl) (by kernel_rfl) (fun _ _ _ h => h) (by rfl) ?y208 (by assumption) ?_
  case y208 => (intro w hSw; (try dsimp only at hSw); go_simp; (try with_reducible rfl); (try omega))
  simp only [List.setIfInBounds_toArray, List.set_cons_zero, List.set_cons_succ]
  refine held_take (v := .bool true) 31 rfl (by kernel_rfl) (by kernel_rfl) (by kernel_rfl) (fun _ _ _ h => h) (by rfl) (fun W hSw => (by go_simp)) (by assumption) ?_
  simp only [List.setIfInBounds_toArray, List.set_cons_zero, List.set_cons_succ]
  refine held_take (v := ?v213) 32 rfl (by kernel_rfl) (by kernel_rfl) (by kernel_rfl) (fun _ _ _ h => h) (by rfl) ?y213 (by assumption) ?_
  case y213 => (intro w hSw; (try dsimp only at hSw); go_simp; (try with_reducible rfl); (try omega))
  simp only [List.setIfInBounds_toArray, List.set_cons_zero, List.set_cons_succ]
  refine held_take (v := ?v216) 33 rfl (by kernel_rfl) (by kernel_rfl) (by kernel_rfl) (fun _ _ _ h => h) (by rfl) ?y216 (by assumption) ?_
  case y216 => (intro w hSw; (try dsimp only at hSw); go_simp; (try with_reducible rfl); (try omega))
  simp only [List.setIfInBounds_toArray, List.set_cons_zero, List.set_cons_succ]
  refine held_take (v := ?v219) 34 rfl (by kernel_rfl) (by kernel_rfl) (by kernel_rfl) (fun _ _ _ h => h) (by rfl) ?y219 (by assumption) ?_
  case y219 => (intro w hSw; (try dsimp only at hSw); go_simp; (try with_reducible rfl); (try omega))
  simp only [List.setIfInBounds_toArray, List.set_cons_zero, List.set_cons_succ]
  refine held_take (v := ?v222) 36 rfl (by kernel_rfl) (by kernel_rfl) (by kernel_rfl) (fun _ _ _ h => h) (by rfl) ?y222 (by assumption) ?_
  case y222 => (intro w hSw; (try dsimp only at hSw); go_simp; (try with_reducible rfl); (try omega))
  simp only [List.setIfInBounds_toArray, List.set_cons_zero, List.set_cons_succ]
  have hc13 := slong_any _ l _ (HZ12.out.sl _ (.head _)) (by omega)
  rw [HRL.out] at hc13
  have HC13 := Lib.hid hc13
  clear hc13
  refine held_one 35 rfl (by kernel_rfl) (by rfl) (fun K hK => ?_)
  go_simp
  refine HC13.out.mono ?_
  rintro e w113 ⟨rfl, b13⟩
  have HZ13 := Lib.hid (HZ12.out.up b13)
  refine hK.out _ _ HZ13.out.bx (fun hHeld => ?_)
  clear hK K b13 HZ12 HC13 
  (try simp only [List.setIfInBounds_toArray, List.set_cons_zero, List.set_cons_succ])
  have hc14 := rlong_any _ l _ (HZ13.out.sl _ (.head _)) (by omega)
  rw [HRL.out] at hc14
  have HC14 := Lib.hid hc14
  clear hc14
  refine held_one 37 rfl (by kernel_rfl) (by rfl) (fun K hK => ?_)
  go_simp
  refine HC14.out.mono ?_
  rintro e w114 ⟨rfl, b14⟩
  have HZ14 := Lib.hid (HZ13.out.up b14)
  refine hK.out _ _ HZ14.out.bx (fun hHeld => ?_)
  clear hK K b14 HZ13 HC14 
  (try simp only [List.setIfInBounds_toArray, List.set_cons_zero, List.set_cons_succ])
  refine held_take (v := .bool true) 38 rfl (by kernel_rfl) (by kernel_rfl) (by kernel_rfl) (fun _ _ _ h => h) (by rfl) (fun W hSw => (by go_simp)) (by assumption) ?_
  simp only [List.setIfInBounds_toArray, List.set_cons_zero, List.set_cons_succ]
  refine held_take (v := ?v251) 39 rfl (by kernel_rfl) (by kernel_rfl) (by kernel_rfl) (fun _ _ _ h => h) (by rfl) ?y251 (by assumption) ?_
  case y251 => (intro w hSw; (try dsimp only at hSw); go_simp; (try with_reducible rfl); (try omega))
  simp only [List.setIfInBounds_toArray, List.set_cons_zero, List.set_cons_succ]
  refine held_take (v := ?v254) 40 rfl (by kernel_rfl) (by kernel_rfl) (by kernel_rfl) (fun _ _ _ h => h) (by rfl) ?y254 (by assumption) ?_
  case y254 => (intro w hSw; (try dsimp only at hSw); go_simp; (try with_reducible rfl); (try omega))
  simp only [List.setIfInBounds_toArray, List.set_cons_zero, List.set_cons_succ]
  refine wpAnyH_done (by kernel_rfl) ?_ _
  refine NoPanic.normal ?_
  have HBF := Lib.hid HZ14.out.below
  clear HZ14
  go_wp2
  go_ret
  exact ⟨rfl, HBF.out⟩

/-- As the row hands it its facts. -/
theorem tell11_walk_row (a : Option Addr) (n0 c : Nat) (l : List Spn) (f e : Int) (size : Int) (w : World) (h : IsS w (.slice a n0 c) l) {P0 P1 P2 P3 P4 P5 : Prop} (_ : P0) (_ : P1) (_ : P2) (_ : P3) (_ : P4) (_ : P5) :
    Calls Try.prog 4 #[.slice a n0 c, .agg #[.int .i64 f, .int .i64 e], .int .i64 size] w fun e w' => e = .returned (.bool true) ∧ Below w.heap.size w w' := tell11_walk a n0 c l ⟨f, e⟩ size w h
end Go.Proofs.Ythmcgignejofiaa
