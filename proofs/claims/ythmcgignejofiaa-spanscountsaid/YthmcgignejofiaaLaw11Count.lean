/- SpansCount: with a span that may be there are as many labels as without it, and as it has; what is cut twice is as cut once. -/
import Derived.Test.YthmcgignejofiaaAw11
import Derived.Test.YthmcgignejofiaaReg
namespace Go.Proofs.Ythmcgignejofiaa
open Go Go.RowKit Go.Shelf

set_option maxRecDepth 100000 in
set_option maxHeartbeats 8000000 in
theorem count11_walk (a : Option Addr) (n0 c : Nat) (l : List Spn) (s : Spn) (w : World) (h : IsS w (.slice a n0 c) l) :
    Calls Try.prog 7 #[.slice a n0 c, .agg #[.int .i64 s.f, .int .i64 s.l]] w fun e w' => e = .returned (.bool true) ∧ Below w.heap.size w w' := by
  have HA := Lib.hid (fun W => awake11 W)
  obtain ⟨rfl, hcap, hcm, _⟩ := h.shape
  unfold maxLen at hcm
  have HZ := Lib.hid (z11_new w h s)
  rw [show Value.agg #[.int .i64 s.f, .int .i64 s.l] = .agg (sR s).toArray from rfl]
  have HAL := Lib.hid (fun (W : World) (o : Obj) => ((Below.refl W.heap.size W).alloc (Nat.le_refl _) o : Below W.heap.size W (W.alloc o)))
  clear h
  by_cases h30 : 30 < l.length
  · have h30i : (30 : Int) < (l.length : Int) := by omega
    go_enter Try.func7, Try.ntmps7
    go_wp2_with (go_at_call 8; refine (HA.out _).mono ?_; rintro e w1 ⟨rfl, b1⟩; refine Hid.out ?_)
    refine Lib.hid ?_
    have HBF := Lib.hid (HZ.out.up b1).below
    clear b1 HZ
    go_wp2
    go_ret
    exact ⟨rfl, HBF.out⟩
  have h30i : (l.length : Int) ≤ 30 := by omega
  go_enter Try.func7, Try.ntmps7
  go_wp2_with (go_at_call 8; refine (HA.out _).mono ?_; rintro e w1 ⟨rfl, b1⟩; refine Hid.out ?_)
  refine Lib.hid ?_
  have HZ1 := Lib.hid (HZ.out.up b1)
  clear b1 HZ
  have hrS1 := rangeAll (HZ1.out.bx _ (.head _))
  have e1a := rng0 hrS1
  have e1b := rng1 hrS1
  simp only [Nat.zero_add] at e1a e1b
  clear hrS1
  have hc2 := scut_any _ l s _ (HZ1.out.sl _ (.head _)) (by omega)
  have HC2 := Lib.hid hc2
  clear hc2
  go_wp2_with (go_at_call 14; refine HC2.out.mono ?_; rintro e w102 ⟨v2, rfl, i2, b2⟩; refine Hid.out ?_)
  refine Lib.hid ?_
  obtain ⟨a2, c2, rfl, _⟩ := i2.form
  have HZ2 := Lib.hid ((HZ1.out.up b2).add i2)
  clear b2 HZ1 HC2 i2 e1a e1b
  have hrS2 := rangeAll (HZ2.out.bx _ (.head _))
  have e2a := rng0 hrS2
  have e2b := rng1 hrS2
  simp only [Nat.zero_add] at e2a e2b
  clear hrS2
  have hc3 := sadd_any _ l s _ (HZ2.out.sl _ (.tail _ (.head _))) (by omega)
  have HC3 := Lib.hid hc3
  clear hc3
  go_wp2_with (go_at_call 12; refine HC3.out.mono ?_; rintro e w103 ⟨v3, rfl, i3, b3⟩; refine Hid.out ?_)
  refine Lib.hid ?_
  obtain ⟨a3, c3, rfl, _⟩ := i3.form
  have HZ3 := Lib.hid ((HZ2.out.up b3).add i3)
  clear b3 HZ2 HC3 i3 e2a e2b
  have hrS3 := rangeAll (HZ3.out.bx _ (.head _))
  have e3a := rng0 hrS3
  have e3b := rng1 hrS3
  simp only [Nat.zero_add] at e3a e3b
  clear hrS3
  have HZB := Lib.hid ((HZ3.out.up (HAL.out _ (.cells ([s].flatMap sR).toArray 24))).add (isS_new _ [s] (by simp) _ rfl))
  clear HZ3
  have HZ4 := HZB
  clear HZB
  have hc5 := scount_any _ [s] _ (HZ4.out.sl _ (.head _)) (by simp)
  have HC5 := Lib.hid hc5
  clear hc5
  go_wp2_with (first
    | (refine plV rfl (.slice (some ⟨w103.heap.size, 0, none⟩) 1 1) (exec_one_spf (.tmp 21) rfl s rfl _ rfl) ?_)
    | (go_at_call 22; refine HC5.out.mono ?_; rintro e w105 ⟨rfl, b5⟩; refine Hid.out ?_))
  refine Lib.hid ?_
  have HZ5 := Lib.hid (HZ4.out.up b5)
  clear b5 HZ4 HC5  e3a e3b
  obtain ⟨na, hna⟩ : ∃ n, cntS (normS (addS l s)) = n := ⟨_, rfl⟩
  obtain ⟨nc, hnc⟩ : ∃ n, cntS (normS (cutS l s)) = n := ⟨_, rfl⟩
  obtain ⟨ns, hns⟩ : ∃ n, cntS (normS [s]) = n := ⟨_, rfl⟩
  have hsum : na = nc + ns := by rw [← hna, ← hnc, ← hns, norm_self (add_normal l s), norm_self (cut_normal l s)]; exact cnt_add l s
  have hb1 := cntS_bound (norm_ok (cutS l s)).1
  have hb2 := cntS_bound (norm_ok [s]).1
  rw [hnc] at hb1
  rw [hns] at hb2
  obtain ⟨hb3, hb4⟩ := hb1
  obtain ⟨hb5, hb6⟩ := hb2
  have HNA := Lib.hid hna
  have HNC := Lib.hid hnc
  have HNS := Lib.hid hns
  have HSU := Lib.hid hsum
  rw [hns]
  clear hna hnc hns hsum
  have hc6 := scount_any _ (addS l s) _ (HZ5.out.sl _ (.tail _ (.head _))) (by have := addS_len l s; omega)
  rw [HNA.out] at hc6
  have HC6 := Lib.hid hc6
  clear hc6
  go_wp2_with (go_at_call 22; refine HC6.out.mono ?_; rintro e w106 ⟨rfl, b6⟩; refine Hid.out ?_)
  refine Lib.hid ?_
  have HZ6 := Lib.hid (HZ5.out.up b6)
  clear b6 HZ5 HC6 
  have hc7 := scount_any _ (cutS l s) _ (HZ6.out.sl _ (.tail _ (.tail _ (.head _)))) (by have := cutS_len l s; omega)
  rw [HNC.out] at hc7
  have HC7 := Lib.hid hc7
  clear hc7
  go_wp2_with (go_at_call 22; refine HC7.out.mono ?_; rintro e w107 ⟨rfl, b7⟩; refine Hid.out ?_)
  refine Lib.hid ?_
  have HZ7 := Lib.hid (HZ6.out.up b7)
  clear b7 HZ6 HC7 
  have hsu2 := HSU.out
  subst hsu2
  have hrS7 := rangeAll (HZ7.out.bx _ (.head _))
  have e7a := rng0 hrS7
  have e7b := rng1 hrS7
  simp only [Nat.zero_add] at e7a e7b
  clear hrS7
  have hc8 := scut_any _ (cutS l s) s _ (HZ7.out.sl _ (.tail _ (.tail _ (.head _)))) (by have := cutS_len l s; omega)
  rw [cut_cut] at hc8
  have HC8 := Lib.hid hc8
  clear hc8
  go_wp2_with (go_at_call 14; refine HC8.out.mono ?_; rintro e w108 ⟨v8, rfl, i8, b8⟩; refine Hid.out ?_)
  refine Lib.hid ?_
  obtain ⟨a8, c8, rfl, _⟩ := i8.form
  have HZ8 := Lib.hid ((HZ7.out.up b8).add i8)
  clear b8 HZ7 HC8 i8 e7a e7b
  have hc9 := rsame_any _ _ (cutS l s) _ (HZ8.out.sl _ (.head _)) (HZ8.out.sl _ (.tail _ (.tail _ (.tail _ (.head _))))) (by have := cutS_len l s; omega)
  have HC9 := Lib.hid hc9
  clear hc9
  go_wp2_with (go_at_call 9; refine HC9.out.mono ?_; rintro e w109 ⟨rfl, b9⟩; refine Hid.out ?_)
  refine Lib.hid ?_
  have HZ9 := Lib.hid (HZ8.out.up b9)
  clear b9 HZ8 HC9 
  have hrS9 := rangeAll (HZ9.out.bx _ (.head _))
  have e9a := rng0 hrS9
  have e9b := rng1 hrS9
  simp only [Nat.zero_add] at e9a e9b
  clear hrS9
  have hc10 := sadd_any _ (addS l s) s _ (HZ9.out.sl _ (.tail _ (.tail _ (.head _)))) (by have := addS_len l s; omega)
  rw [add_add] at hc10
  have HC10 := Lib.hid hc10
  clear hc10
  go_wp2_with (go_at_call 12; refine HC10.out.mono ?_; rintro e w110 ⟨v10, rfl, i10, b10⟩; refine Hid.out ?_)
  refine Lib.hid ?_
  obtain ⟨a10, c10, rfl, _⟩ := i10.form
  have HZ10 := Lib.hid ((HZ9.out.up b10).add i10)
  clear b10 HZ9 HC10 i10 e9a e9b
  have hc11 := rsame_any _ _ (addS l s) _ (HZ10.out.sl _ (.head _)) (HZ10.out.sl _ (.tail _ (.tail _ (.tail _ (.head _))))) (by have := addS_len l s; omega)
  have HC11 := Lib.hid hc11
  clear hc11
  go_wp2_with (go_at_call 9; refine HC11.out.mono ?_; rintro e w111 ⟨rfl, b11⟩; refine Hid.out ?_)
  refine Lib.hid ?_
  have HZ11 := Lib.hid (HZ10.out.up b11)
  clear b11 HZ10 HC11 
  have hrS11 := rangeAll (HZ11.out.bx _ (.head _))
  have e11a := rng0 hrS11
  have e11b := rng1 hrS11
  simp only [Nat.zero_add] at e11a e11b
  clear hrS11
  have hc12 := sadd_any _ (cutS l s) s _ (HZ11.out.sl _ (.tail _ (.tail _ (.tail _ (.tail _ (.head _)))))) (by have := cutS_len l s; omega)
  rw [cut_add] at hc12
  have HC12 := Lib.hid hc12
  clear hc12
  go_wp2_with (go_at_call 12; refine HC12.out.mono ?_; rintro e w112 ⟨v12, rfl, i12, b12⟩; refine Hid.out ?_)
  refine Lib.hid ?_
  obtain ⟨a12, c12, rfl, _⟩ := i12.form
  have HZ12 := Lib.hid ((HZ11.out.up b12).add i12)
  clear b12 HZ11 HC12 i12 e11a e11b
  have hc13 := rsame_any _ _ (addS l s) _ (HZ12.out.sl _ (.head _)) (HZ12.out.sl _ (.tail _ (.tail _ (.tail _ (.tail _ (.head _)))))) (by have := addS_len l s; omega)
  have HC13 := Lib.hid hc13
  clear hc13
  go_wp2_with (go_at_call 9; refine HC13.out.mono ?_; rintro e w113 ⟨rfl, b13⟩; refine Hid.out ?_)
  refine Lib.hid ?_
  have HZ13 := Lib.hid (HZ12.out.up b13)
  clear b13 HZ12 HC13 
  obtain ⟨la, hla⟩ : ∃ n, longS (normS (addS l s)) 0 = n := ⟨_, rfl⟩
  obtain ⟨ll, hll⟩ : ∃ n, longS (normS l) 0 = n := ⟨_, rfl⟩
  have hle : ll ≤ la := by rw [← hla, ← hll, norm_self (add_normal l s)]; exact long_add l s
  have HLA := Lib.hid hla
  have HLL := Lib.hid hll
  clear hla hll
  have hc14 := slong_any _ (addS l s) _ (HZ13.out.sl _ (.tail _ (.tail _ (.tail _ (.tail _ (.head _)))))) (by have := addS_len l s; omega)
  rw [HLA.out] at hc14
  have HC14 := Lib.hid hc14
  clear hc14
  go_wp2_with (go_at_call 24; refine HC14.out.mono ?_; rintro e w114 ⟨rfl, b14⟩; refine Hid.out ?_)
  refine Lib.hid ?_
  have HZ14 := Lib.hid (HZ13.out.up b14)
  clear b14 HZ13 HC14 
  have hc15 := slong_any _ l _ (HZ14.out.sl _ (.tail _ (.tail _ (.tail _ (.tail _ (.tail _ (.tail _ (.head _)))))))) (by omega)
  rw [HLL.out] at hc15
  have HC15 := Lib.hid hc15
  clear hc15
  go_wp2_with (go_at_call 24; refine HC15.out.mono ?_; rintro e w115 ⟨rfl, b15⟩; refine Hid.out ?_)
  refine Lib.hid ?_
  have HZ15 := Lib.hid (HZ14.out.up b15)
  clear b15 HZ14 HC15 
  have HBF := Lib.hid HZ15.out.below
  clear HZ15
  go_wp2
  go_ret
  exact ⟨rfl, HBF.out⟩

/-- As the row hands it its facts. -/
theorem count11_walk_row (a : Option Addr) (n0 c : Nat) (l : List Spn) (f e : Int) (w : World) (h : IsS w (.slice a n0 c) l) {P0 P1 P2 P3 : Prop} (_ : P0) (_ : P1) (_ : P2) (_ : P3) :
    Calls Try.prog 7 #[.slice a n0 c, .agg #[.int .i64 f, .int .i64 e]] w fun e w' => e = .returned (.bool true) ∧ Below w.heap.size w w' := count11_walk a n0 c l ⟨f, e⟩ w h
end Go.Proofs.Ythmcgignejofiaa
