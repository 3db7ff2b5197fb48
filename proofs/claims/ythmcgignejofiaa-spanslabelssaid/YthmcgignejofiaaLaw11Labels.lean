/- SpansLabels: a label is in rows with one more, just if it is in these, or in that; in rows without one, just if it is in these, and not in that; disjoint rows have the same labels. -/
import Derived.Test.YthmcgignejofiaaAw11
import Derived.Test.YthmcgignejofiaaReg
namespace Go.Proofs.Ythmcgignejofiaa
open Go Go.RowKit Go.Shelf

def HeldV (b k j : Nat) (f e : Int) (W : World) : Prop := W.cell? ⟨b, k, none⟩ = some (.int .i64 f) ∧ W.cell? ⟨b, j, none⟩ = some (.int .i64 e)
theorem idx_addr {ρ : Operand → Value} {o : Oper} {W : World} (x y : Operand) (ho : o.op = .indexAddr 22 x y) (b k n c i : Nat) (hx : ρ x = .slice (some ⟨b, k, none⟩) n c) (hy : ρ y = .int .i64 (i : Int)) (hi : i < n) :
    (execOp ρ o).run Try.prog W = .ok (.value (.pointer (some ⟨b, k + i * 2, none⟩))) W := by
  have h0 : (0 : Int) ≤ (i : Int) := by omega
  have h1 : (i : Int) < (n : Int) := by omega
  unfold execOp
  simp only [ho, hx, hy]
  go_simp
set_option maxRecDepth 100000 in
set_option maxHeartbeats 8000000 in
theorem labels11_walk (a : Option Addr) (n0 c : Nat) (l : List Spn) (s : Spn) (n : Int) (w : World) (h : IsS w (.slice a n0 c) l) :
    Calls Try.prog 5 #[.slice a n0 c, .agg #[.int .i64 s.f, .int .i64 s.l], .int .i64 n] w fun e w' => e = .returned (.bool true) ∧ Below w.heap.size w w' := by
  have HA := Lib.hid (fun W => awake11 W)
  obtain ⟨rfl, hcap, hcm, _⟩ := h.shape
  unfold maxLen at hcm
  have HZ := Lib.hid (z11_new w h s)
  rw [show Value.agg #[.int .i64 s.f, .int .i64 s.l] = .agg (sR s).toArray from rfl]
  have HAL := Lib.hid (fun (W : World) (o : Obj) => ((Below.refl W.heap.size W).alloc (Nat.le_refl _) o : Below W.heap.size W (W.alloc o)))
  clear h
  by_cases h30 : 30 < l.length
  · have h30i : (30 : Int) < (l.length : Int) := by omega
    go_enter Try.func5, Try.ntmps5
    go_wp2_with (go_at_call 8; refine (HA.out _).mono ?_; rintro e w1 ⟨rfl, b1⟩; refine Hid.out ?_)
    refine Lib.hid ?_
    have HBF := Lib.hid (HZ.out.up b1).below
    clear b1 HZ
    go_wp2
    go_ret
    exact ⟨rfl, HBF.out⟩
  have h30i : (l.length : Int) ≤ 30 := by omega
  obtain ⟨rn, hrn⟩ : ∃ r, inLab l n = r := ⟨_, rfl⟩
  obtain ⟨rs, hrs⟩ : ∃ r, inSd s n = r := ⟨_, rfl⟩
  have HRN := Lib.hid hrn
  have HRS := Lib.hid (show inLab [s] n = rs by rw [← hrs]; exact Bool.or_false _)
  have HNL := Lib.hid (show inLab (normS l) n = rn by rw [(norm_ok l).2, hrn])
  have HADD := Lib.hid (show inLab (addS l s) n = (rn || rs) by rw [add_in, hrn, hrs])
  have HCUT := Lib.hid (show inLab (cutS l s) n = (rn && !rs) by rw [cut_in', hrn, hrs])
  clear hrn hrs
  go_enter Try.func5, Try.ntmps5
  go_wp2_with (go_at_call 8; refine (HA.out _).mono ?_; rintro e w1 ⟨rfl, b1⟩; refine Hid.out ?_)
  refine Lib.hid ?_
  have HZ1 := Lib.hid (HZ.out.up b1)
  clear b1 HZ
  have hc2 := rin_any _ l n _ (HZ1.out.sl _ (.head _)) (by omega)
  rw [HRN.out] at hc2
  have HC2 := Lib.hid hc2
  clear hc2
  go_wp2_with (go_at_call 26; refine HC2.out.mono ?_; rintro e w102 ⟨rfl, b2⟩; refine Hid.out ?_)
  refine Lib.hid ?_
  have HZ2 := Lib.hid (HZ1.out.up b2)
  clear b2 HZ1 HC2 
  have hrS2 := rangeAll (HZ2.out.bx _ (.head _))
  have e2a := rng0 hrS2
  have e2b := rng1 hrS2
  simp only [Nat.zero_add] at e2a e2b
  clear hrS2
  have HZB := Lib.hid ((HZ2.out.up (HAL.out _ (.cells ([s].flatMap sR).toArray 24))).add (isS_new _ [s] (by simp) _ rfl))
  clear HZ2
  have HZ3 := HZB
  clear HZB
  have hc4 := rin_any _ [s] n _ (HZ3.out.sl _ (.head _)) (by simp)
  rw [HRS.out] at hc4
  have HC4 := Lib.hid hc4
  clear hc4
  go_wp2_with (first
    | (refine plV rfl (.slice (some ⟨w102.heap.size, 0, none⟩) 1 1) (exec_one_spf (.tmp 21) rfl s rfl _ rfl) ?_)
    | (go_at_call 26; refine HC4.out.mono ?_; rintro e w104 ⟨rfl, b4⟩; refine Hid.out ?_))
  refine Lib.hid ?_
  have HZ4 := Lib.hid (HZ3.out.up b4)
  clear b4 HZ3 HC4  e2a e2b
  have hc5 := snorm_any _ l _ (HZ4.out.sl _ (.tail _ (.head _))) (by omega)
  have HC5 := Lib.hid hc5
  clear hc5
  go_wp2_with (go_at_call 10; refine HC5.out.mono ?_; rintro e w105 ⟨v5, rfl, i5, b5⟩; refine Hid.out ?_)
  refine Lib.hid ?_
  obtain ⟨a5, c5, rfl, _⟩ := i5.form
  have HZ5 := Lib.hid ((HZ4.out.up b5).add i5)
  clear b5 HZ4 HC5 i5
  have HNORM := Lib.hid (norm_ok l).1
  have hml := normS_length_le l
  generalize hm : normS l = m at *
  have HM := Lib.hid hm
  clear hm
  go_wp2
  go_loopw [11] (fun r wr => ∃ i : Nat, r = .int .i64 ((i : Int) + 1) ∧ i ≤ m.length ∧ Below w105.heap.size w105 wr) (fun r _ => m.length + 2 - (intOf r).toNat)
  case atStart => exact ⟨0, rfl, Nat.zero_le _, Below.refl _ _⟩
  case round =>
    obtain ⟨i, rfl, hi, hbel⟩ := hrel
    by_cases hlt : i + 1 < m.length
    · have hlti : (i : Int) + 1 < (m.length : Int) := by omega
      have h0i : (0 : Int) ≤ (i : Int) := by omega
      have h1i : (0 : Int) ≤ (i : Int) + 1 := by omega
      have hlt0 : (i : Int) < (m.length : Int) := by omega
      obtain ⟨x, hx⟩ : ∃ x, m[i]? = some x := ⟨m[i], List.getElem?_eq_getElem (by omega)⟩
      obtain ⟨y, hy⟩ : ∃ y, m[i + 1]? = some y := ⟨m[i + 1], List.getElem?_eq_getElem hlt⟩
      have hxy : x.l + 1 < y.f ∧ x.l ≤ 1048575 ∧ 0 ≤ x.l := by
        have h2 := normal_take HNORM.out (i + 2)
        rw [show i + 2 = (i + 1) + 1 from rfl, take_next hy] at h2
        have h3 := ((normal_snoc _ y).1 h2).2.2 x (by rw [take_next hx]; simp)
        have h4 := HNORM.out.may x (List.mem_of_getElem? hx)
        unfold mayS at h4
        omega
      have hzs := HZ5.out.sl _ (.head _)
      obtain ⟨b, o, ea, hbl⟩ := IsS.place hzs (by show 0 < m.length; omega)
      cases ea
      have hrx := IsS.range (hzs.below hbel) i x hx
      have hry := IsS.range (hzs.below hbel) (i + 1) y hy
      have hH : HeldV b (o + (i + 1) * 2) (o + i * 2 + 1) y.f x.l wr.drew := ⟨rng0 hry, rng1 hrx⟩
      have kw : IntKind.i64.wrap ((i : Int) + 1 - 1) = (i : Int) := by simp [IntKind.wrap, IntKind.bits, IntKind.signed]; omega
      have k2 : IntKind.i64.wrap (x.l + 1) = x.l + 1 := by simp [IntKind.wrap, IntKind.bits, IntKind.signed]; omega
      have kw2 : IntKind.i64.wrap (i : Int) = (i : Int) := by simp [IntKind.wrap, IntKind.bits, IntKind.signed]; omega
      have hne : ¬ y.f ≤ x.l + 1 := by omega
      have HB2 := Lib.hid (below_up hbel ((Below.refl wr.heap.size wr).drew) hbel.size)
      clear hx hy hzs hrx hry hbel
      go_wp2
      refine wp_region_noPanic ?_
      refine wp_region_held_drew (S := HeldV b (o + (i + 1) * 2) (o + i * 2 + 1) y.f x.l) (by kernel_rfl) hH (fun hHeld => ?_)
      refine held_take (v := ?v123) 0 rfl (by kernel_rfl) (by kernel_rfl) (by kernel_rfl) (fun _ _ _ h => h) (by rfl) ?y123 (by assumption) ?_
      case y123 => (intro w hSw; unfold HeldV at hSw; go_simp; (try with_reducible rfl); (try omega))
      simp only [List.setIfInBounds_toArray, List.set_cons_zero, List.set_cons_succ]
      refine held_take (v := ?v126) 1 rfl (by kernel_rfl) (by kernel_rfl) (by kernel_rfl) (fun _ _ _ h => h) (by rfl) ?y126 (by assumption) ?_
      case y126 => (intro w hSw; unfold HeldV at hSw; go_simp; (try with_reducible rfl); (try omega))
      simp only [List.setIfInBounds_toArray, List.set_cons_zero, List.set_cons_succ]
      refine held_take (v := .pointer (some ⟨b, o + (i + 1) * 2, none⟩)) 2 rfl (by kernel_rfl) (by kernel_rfl) (by kernel_rfl) (fun _ _ _ h => h) (by rfl) (fun W hSw => (idx_addr (.tmp 33) (.tmp 34) rfl b o m.length _ (i + 1) rfl (by show Value.int .i64 ((i : Int) + 1) = _; simp) (by omega))) (by assumption) ?_
      simp only [List.setIfInBounds_toArray, List.set_cons_zero, List.set_cons_succ]
      refine held_take (v := ?v131) 3 rfl (by kernel_rfl) (by kernel_rfl) (by kernel_rfl) (fun _ _ _ h => h) (by rfl) ?y131 (by assumption) ?_
      case y131 => (intro w hSw; unfold HeldV at hSw; go_simp; (try with_reducible rfl); (try omega))
      simp only [List.setIfInBounds_toArray, List.set_cons_zero, List.set_cons_succ]
      refine held_take (v := ?v134) 4 rfl (by kernel_rfl) (by kernel_rfl) (by kernel_rfl) (fun _ _ _ h => h) (by rfl) ?y134 (by assumption) ?_
      case y134 => (intro w hSw; unfold HeldV at hSw; go_simp; (try with_reducible rfl); (try omega))
      simp only [List.setIfInBounds_toArray, List.set_cons_zero, List.set_cons_succ]
      refine held_take (v := ?v137) 5 rfl (by kernel_rfl) (by kernel_rfl) (by kernel_rfl) (fun _ _ _ h => h) (by rfl) ?y137 (by assumption) ?_
      case y137 => (intro w hSw; unfold HeldV at hSw; go_simp; (try with_reducible rfl); (try omega))
      simp only [List.setIfInBounds_toArray, List.set_cons_zero, List.set_cons_succ]
      refine held_take (v := ?v140) 6 rfl (by kernel_rfl) (by kernel_rfl) (by kernel_rfl) (fun _ _ _ h => h) (by rfl) ?y140 (by assumption) ?_
      case y140 => (intro w hSw; unfold HeldV at hSw; go_simp; (try with_reducible rfl); (try omega))
      simp only [List.setIfInBounds_toArray, List.set_cons_zero, List.set_cons_succ]
      refine held_take (v := .int .i64 (i : Int)) 7 rfl (by kernel_rfl) (by kernel_rfl) (by kernel_rfl) (fun _ _ _ h => h) (by rfl) (fun W hSw => (by go_simp; (try exact kw2))) (by assumption) ?_
      simp only [List.setIfInBounds_toArray, List.set_cons_zero, List.set_cons_succ]
      refine held_take (v := .pointer (some ⟨b, o + i * 2, none⟩)) 8 rfl (by kernel_rfl) (by kernel_rfl) (by kernel_rfl) (fun _ _ _ h => h) (by rfl) (fun W hSw => (idx_addr (.tmp 38) (.tmp 40) rfl b o m.length _ i rfl rfl (by omega))) (by assumption) ?_
      simp only [List.setIfInBounds_toArray, List.set_cons_zero, List.set_cons_succ]
      refine held_take (v := ?v147) 9 rfl (by kernel_rfl) (by kernel_rfl) (by kernel_rfl) (fun _ _ _ h => h) (by rfl) ?y147 (by assumption) ?_
      case y147 => (intro w hSw; unfold HeldV at hSw; go_simp; (try with_reducible rfl); (try omega))
      simp only [List.setIfInBounds_toArray, List.set_cons_zero, List.set_cons_succ]
      refine held_take (v := ?v150) 10 rfl (by kernel_rfl) (by kernel_rfl) (by kernel_rfl) (fun _ _ _ h => h) (by rfl) ?y150 (by assumption) ?_
      case y150 => (intro w hSw; unfold HeldV at hSw; go_simp; (try with_reducible rfl); (try omega))
      simp only [List.setIfInBounds_toArray, List.set_cons_zero, List.set_cons_succ]
      refine held_take (v := .int .i64 (x.l + 1)) 11 rfl (by kernel_rfl) (by kernel_rfl) (by kernel_rfl) (fun _ _ _ h => h) (by rfl) (fun W hSw => (by go_simp; (try exact k2))) (by assumption) ?_
      simp only [List.setIfInBounds_toArray, List.set_cons_zero, List.set_cons_succ]
      refine held_take (v := .bool false) 12 rfl (by kernel_rfl) (by kernel_rfl) (by kernel_rfl) (fun _ _ _ h => h) (by rfl) (fun W hSw => (by go_simp; (try omega))) (by assumption) ?_
      simp only [List.setIfInBounds_toArray, List.set_cons_zero, List.set_cons_succ]
      refine wpAnyH_done (by kernel_rfl) ?_ _
      refine NoPanic.normal ?_
      go_wp2
      go_roundw
      case rel => exact ⟨i + 1, by simp, by omega, HB2.out⟩
      case measure => simp only [intOf]; omega
    · have hlti : ¬ (i : Int) + 1 < (m.length : Int) := by omega
      have HZ6 := Lib.hid (HZ5.out.up hbel)
      clear hbel HZ5
      cases rn with
      | false =>
        cases rs with
        | false =>
          have hc7 := rin_any _ m n _ (HZ6.out.sl _ (.head _)) (by omega)
          rw [HNL.out] at hc7
          have HC7 := Lib.hid hc7
          clear hc7
          go_wp2_with (go_at_call 26; refine HC7.out.mono ?_; rintro e w107 ⟨rfl, b7⟩; refine Hid.out ?_)
          refine Lib.hid ?_
          have HZ7 := Lib.hid (HZ6.out.up b7)
          clear b7 HZ6 HC7 
          have hrS7 := rangeAll (HZ7.out.bx _ (.head _))
          have e7a := rng0 hrS7
          have e7b := rng1 hrS7
          simp only [Nat.zero_add] at e7a e7b
          clear hrS7
          have hc8 := sadd_any _ l s _ (HZ7.out.sl _ (.tail _ (.tail _ (.head _)))) (by omega)
          have HC8 := Lib.hid hc8
          clear hc8
          go_wp2_with (go_at_call 12; refine HC8.out.mono ?_; rintro e w108 ⟨v8, rfl, i8, b8⟩; refine Hid.out ?_)
          refine Lib.hid ?_
          obtain ⟨a8, c8, rfl, _⟩ := i8.form
          have HZ8 := Lib.hid ((HZ7.out.up b8).add i8)
          clear b8 HZ7 HC8 i8 e7a e7b
          have hc9 := rin_any _ (addS l s) n _ (HZ8.out.sl _ (.head _)) (by have := addS_len l s; omega)
          rw [HADD.out] at hc9
          have HC9 := Lib.hid hc9
          clear hc9
          go_wp2_with (go_at_call 26; refine HC9.out.mono ?_; rintro e w109 ⟨rfl, b9⟩; refine Hid.out ?_)
          refine Lib.hid ?_
          have HZ9 := Lib.hid (HZ8.out.up b9)
          clear b9 HZ8 HC9 
          have hrS9 := rangeAll (HZ9.out.bx _ (.head _))
          have e9a := rng0 hrS9
          have e9b := rng1 hrS9
          simp only [Nat.zero_add] at e9a e9b
          clear hrS9
          have hc10 := scut_any _ l s _ (HZ9.out.sl _ (.tail _ (.tail _ (.tail _ (.head _))))) (by omega)
          have HC10 := Lib.hid hc10
          clear hc10
          go_wp2_with (go_at_call 14; refine HC10.out.mono ?_; rintro e w110 ⟨v10, rfl, i10, b10⟩; refine Hid.out ?_)
          refine Lib.hid ?_
          obtain ⟨a10, c10, rfl, _⟩ := i10.form
          have HZ10 := Lib.hid ((HZ9.out.up b10).add i10)
          clear b10 HZ9 HC10 i10 e9a e9b
          have hc11 := rin_any _ (cutS l s) n _ (HZ10.out.sl _ (.head _)) (by have := cutS_len l s; omega)
          rw [HCUT.out] at hc11
          have HC11 := Lib.hid hc11
          clear hc11
          go_wp2_with (go_at_call 26; refine HC11.out.mono ?_; rintro e w111 ⟨rfl, b11⟩; refine Hid.out ?_)
          refine Lib.hid ?_
          have HZ11 := Lib.hid (HZ10.out.up b11)
          clear b11 HZ10 HC11 
          have HBF := Lib.hid HZ11.out.below
          clear HZ11
          go_wp2
          go_ret
          exact ⟨rfl, HBF.out⟩
        | true =>
          have hc7 := rin_any _ m n _ (HZ6.out.sl _ (.head _)) (by omega)
          rw [HNL.out] at hc7
          have HC7 := Lib.hid hc7
          clear hc7
          go_wp2_with (go_at_call 26; refine HC7.out.mono ?_; rintro e w107 ⟨rfl, b7⟩; refine Hid.out ?_)
          refine Lib.hid ?_
          have HZ7 := Lib.hid (HZ6.out.up b7)
          clear b7 HZ6 HC7 
          have hrS7 := rangeAll (HZ7.out.bx _ (.head _))
          have e7a := rng0 hrS7
          have e7b := rng1 hrS7
          simp only [Nat.zero_add] at e7a e7b
          clear hrS7
          have hc8 := sadd_any _ l s _ (HZ7.out.sl _ (.tail _ (.tail _ (.head _)))) (by omega)
          have HC8 := Lib.hid hc8
          clear hc8
          go_wp2_with (go_at_call 12; refine HC8.out.mono ?_; rintro e w108 ⟨v8, rfl, i8, b8⟩; refine Hid.out ?_)
          refine Lib.hid ?_
          obtain ⟨a8, c8, rfl, _⟩ := i8.form
          have HZ8 := Lib.hid ((HZ7.out.up b8).add i8)
          clear b8 HZ7 HC8 i8 e7a e7b
          have hc9 := rin_any _ (addS l s) n _ (HZ8.out.sl _ (.head _)) (by have := addS_len l s; omega)
          rw [HADD.out] at hc9
          have HC9 := Lib.hid hc9
          clear hc9
          go_wp2_with (go_at_call 26; refine HC9.out.mono ?_; rintro e w109 ⟨rfl, b9⟩; refine Hid.out ?_)
          refine Lib.hid ?_
          have HZ9 := Lib.hid (HZ8.out.up b9)
          clear b9 HZ8 HC9 
          have hrS9 := rangeAll (HZ9.out.bx _ (.head _))
          have e9a := rng0 hrS9
          have e9b := rng1 hrS9
          simp only [Nat.zero_add] at e9a e9b
          clear hrS9
          have hc10 := scut_any _ l s _ (HZ9.out.sl _ (.tail _ (.tail _ (.tail _ (.head _))))) (by omega)
          have HC10 := Lib.hid hc10
          clear hc10
          go_wp2_with (go_at_call 14; refine HC10.out.mono ?_; rintro e w110 ⟨v10, rfl, i10, b10⟩; refine Hid.out ?_)
          refine Lib.hid ?_
          obtain ⟨a10, c10, rfl, _⟩ := i10.form
          have HZ10 := Lib.hid ((HZ9.out.up b10).add i10)
          clear b10 HZ9 HC10 i10 e9a e9b
          have hc11 := rin_any _ (cutS l s) n _ (HZ10.out.sl _ (.head _)) (by have := cutS_len l s; omega)
          rw [HCUT.out] at hc11
          have HC11 := Lib.hid hc11
          clear hc11
          go_wp2_with (go_at_call 26; refine HC11.out.mono ?_; rintro e w111 ⟨rfl, b11⟩; refine Hid.out ?_)
          refine Lib.hid ?_
          have HZ11 := Lib.hid (HZ10.out.up b11)
          clear b11 HZ10 HC11 
          have HBF := Lib.hid HZ11.out.below
          clear HZ11
          go_wp2
          go_ret
          exact ⟨rfl, HBF.out⟩
      | true =>
        cases rs with
        | false =>
          have hc7 := rin_any _ m n _ (HZ6.out.sl _ (.head _)) (by omega)
          rw [HNL.out] at hc7
          have HC7 := Lib.hid hc7
          clear hc7
          go_wp2_with (go_at_call 26; refine HC7.out.mono ?_; rintro e w107 ⟨rfl, b7⟩; refine Hid.out ?_)
          refine Lib.hid ?_
          have HZ7 := Lib.hid (HZ6.out.up b7)
          clear b7 HZ6 HC7 
          have hrS7 := rangeAll (HZ7.out.bx _ (.head _))
          have e7a := rng0 hrS7
          have e7b := rng1 hrS7
          simp only [Nat.zero_add] at e7a e7b
          clear hrS7
          have hc8 := sadd_any _ l s _ (HZ7.out.sl _ (.tail _ (.tail _ (.head _)))) (by omega)
          have HC8 := Lib.hid hc8
          clear hc8
          go_wp2_with (go_at_call 12; refine HC8.out.mono ?_; rintro e w108 ⟨v8, rfl, i8, b8⟩; refine Hid.out ?_)
          refine Lib.hid ?_
          obtain ⟨a8, c8, rfl, _⟩ := i8.form
          have HZ8 := Lib.hid ((HZ7.out.up b8).add i8)
          clear b8 HZ7 HC8 i8 e7a e7b
          have hc9 := rin_any _ (addS l s) n _ (HZ8.out.sl _ (.head _)) (by have := addS_len l s; omega)
          rw [HADD.out] at hc9
          have HC9 := Lib.hid hc9
          clear hc9
          go_wp2_with (go_at_call 26; refine HC9.out.mono ?_; rintro e w109 ⟨rfl, b9⟩; refine Hid.out ?_)
          refine Lib.hid ?_
          have HZ9 := Lib.hid (HZ8.out.up b9)
          clear b9 HZ8 HC9 
          have hrS9 := rangeAll (HZ9.out.bx _ (.head _))
          have e9a := rng0 hrS9
          have e9b := rng1 hrS9
          simp only [Nat.zero_add] at e9a e9b
          clear hrS9
          have hc10 := scut_any _ l s _ (HZ9.out.sl _ (.tail _ (.tail _ (.tail _ (.head _))))) (by omega)
          have HC10 := Lib.hid hc10
          clear hc10
          go_wp2_with (go_at_call 14; refine HC10.out.mono ?_; rintro e w110 ⟨v10, rfl, i10, b10⟩; refine Hid.out ?_)
          refine Lib.hid ?_
          obtain ⟨a10, c10, rfl, _⟩ := i10.form
          have HZ10 := Lib.hid ((HZ9.out.up b10).add i10)
          clear b10 HZ9 HC10 i10 e9a e9b
          have hc11 := rin_any _ (cutS l s) n _ (HZ10.out.sl _ (.head _)) (by have := cutS_len l s; omega)
          rw [HCUT.out] at hc11
          have HC11 := Lib.hid hc11
          clear hc11
          go_wp2_with (go_at_call 26; refine HC11.out.mono ?_; rintro e w111 ⟨rfl, b11⟩; refine Hid.out ?_)
          refine Lib.hid ?_
          have HZ11 := Lib.hid (HZ10.out.up b11)
          clear b11 HZ10 HC11 
          have HBF := Lib.hid HZ11.out.below
          clear HZ11
          go_wp2
          go_ret
          exact ⟨rfl, HBF.out⟩
        | true =>
          have hc7 := rin_any _ m n _ (HZ6.out.sl _ (.head _)) (by omega)
          rw [HNL.out] at hc7
          have HC7 := Lib.hid hc7
          clear hc7
          go_wp2_with (go_at_call 26; refine HC7.out.mono ?_; rintro e w107 ⟨rfl, b7⟩; refine Hid.out ?_)
          refine Lib.hid ?_
          have HZ7 := Lib.hid (HZ6.out.up b7)
          clear b7 HZ6 HC7 
          have hrS7 := rangeAll (HZ7.out.bx _ (.head _))
          have e7a := rng0 hrS7
          have e7b := rng1 hrS7
          simp only [Nat.zero_add] at e7a e7b
          clear hrS7
          have hc8 := sadd_any _ l s _ (HZ7.out.sl _ (.tail _ (.tail _ (.head _)))) (by omega)
          have HC8 := Lib.hid hc8
          clear hc8
          go_wp2_with (go_at_call 12; refine HC8.out.mono ?_; rintro e w108 ⟨v8, rfl, i8, b8⟩; refine Hid.out ?_)
          refine Lib.hid ?_
          obtain ⟨a8, c8, rfl, _⟩ := i8.form
          have HZ8 := Lib.hid ((HZ7.out.up b8).add i8)
          clear b8 HZ7 HC8 i8 e7a e7b
          have hc9 := rin_any _ (addS l s) n _ (HZ8.out.sl _ (.head _)) (by have := addS_len l s; omega)
          rw [HADD.out] at hc9
          have HC9 := Lib.hid hc9
          clear hc9
          go_wp2_with (go_at_call 26; refine HC9.out.mono ?_; rintro e w109 ⟨rfl, b9⟩; refine Hid.out ?_)
          refine Lib.hid ?_
          have HZ9 := Lib.hid (HZ8.out.up b9)
          clear b9 HZ8 HC9 
          have hrS9 := rangeAll (HZ9.out.bx _ (.head _))
          have e9a := rng0 hrS9
          have e9b := rng1 hrS9
          simp only [Nat.zero_add] at e9a e9b
          clear hrS9
          have hc10 := scut_any _ l s _ (HZ9.out.sl _ (.tail _ (.tail _ (.tail _ (.head _))))) (by omega)
          have HC10 := Lib.hid hc10
          clear hc10
          go_wp2_with (go_at_call 14; refine HC10.out.mono ?_; rintro e w110 ⟨v10, rfl, i10, b10⟩; refine Hid.out ?_)
          refine Lib.hid ?_
          obtain ⟨a10, c10, rfl, _⟩ := i10.form
          have HZ10 := Lib.hid ((HZ9.out.up b10).add i10)
          clear b10 HZ9 HC10 i10 e9a e9b
          have hc11 := rin_any _ (cutS l s) n _ (HZ10.out.sl _ (.head _)) (by have := cutS_len l s; omega)
          rw [HCUT.out] at hc11
          have HC11 := Lib.hid hc11
          clear hc11
          go_wp2_with (go_at_call 26; refine HC11.out.mono ?_; rintro e w111 ⟨rfl, b11⟩; refine Hid.out ?_)
          refine Lib.hid ?_
          have HZ11 := Lib.hid (HZ10.out.up b11)
          clear b11 HZ10 HC11 
          have HBF := Lib.hid HZ11.out.below
          clear HZ11
          go_wp2
          go_ret
          exact ⟨rfl, HBF.out⟩

/-- As the row hands it its facts. -/
theorem labels11_walk_row (a : Option Addr) (n0 c : Nat) (l : List Spn) (f e : Int) (n : Int) (w : World) (h : IsS w (.slice a n0 c) l) {P0 P1 P2 P3 P4 P5 : Prop} (_ : P0) (_ : P1) (_ : P2) (_ : P3) (_ : P4) (_ : P5) :
    Calls Try.prog 5 #[.slice a n0 c, .agg #[.int .i64 f, .int .i64 e], .int .i64 n] w fun e w' => e = .returned (.bool true) ∧ Below w.heap.size w w' := labels11_walk a n0 c l ⟨f, e⟩ n w h
end Go.Proofs.Ythmcgignejofiaa
