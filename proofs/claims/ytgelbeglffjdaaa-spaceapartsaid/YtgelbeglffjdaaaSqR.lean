/- Package space: an area's rows; what is left of it; whether a span is. Package space: whether a span is left of an area; what is left of it. Package space: New, Area, Blocks, Owner, Index. -/
import Derived.Test.YtgelbeglffjdaaaSq5
import Derived.Test.YtgelbeglffjdaaaSpA
import Derived.Deep.AppendLies
import Derived.Lib.SliceRun
namespace Go.Proofs.Ytgelbeglffjdaaa
open Go Go.RowKit Go.Shelf
attribute [local go_sem] Oper.semAt_some

set_option maxRecDepth 100000 in
set_option maxHeartbeats 1000000 in
theorem named_any (k : Int) (w : World) : Calls Try.prog 57 #[.int .i64 k] w fun e w' => e = .returned (.bool (decide (k = 1 ∨ k = 2))) ∧ Below w.heap.size w w' := by
  have HB := Lib.hid (Below.refl w.heap.size w)
  have HM := Lib.hid (show decide (k = 1 ∨ k = 2) = decide (k = 1 ∨ k = 2) from rfl)
  generalize hr : decide (k = 1 ∨ k = 2) = r at HM ⊢
  have HR := Lib.hid hr
  clear hr HM
  go_enter Try.func57, Try.ntmps57
  go_wp2
  all_goals (go_ret; refine ⟨?_, HB.out⟩; rw [← HR.out]; by_cases h1 : k = 1 <;> by_cases h2 : k = 2 <;> simp_all)
set_option maxRecDepth 100000 in
set_option maxHeartbeats 1000000 in
theorem ownable_any (s : Spn) (w : World) : Calls Try.prog 61 #[sV s] w fun e w' => e = .returned (.bool (mayOB s)) ∧ Below w.heap.size w w' := by
  have HB := Lib.hid ((Below.refl w.heap.size w).alloc (Nat.le_refl _) (.cells (sR s).toArray 27))
  have hr := rangeAll (Bx.new w 27 (sR s))
  have c0 := rng0 hr
  have c1 := rng1 hr
  have HM := Lib.hid (show mayOB s = decide (16 ≤ s.f ∧ s.f ≤ s.l ∧ s.l ≤ 1048575) from rfl)
  rw [show sV s = .agg (sR s).toArray from rfl]
  generalize mayOB s = r at *
  clear hr
  go_enter Try.func61, Try.ntmps61
  go_wp2
  all_goals (go_ret; refine ⟨?_, HB.out⟩; rw [HM.out]; simp_all <;> omega)
theorem spC_ar (t : SpS) (vb vr : Value) (k : Nat) (hk : k = 1 ∨ k = 2) {W : World} {pt : Nat} (h : Bx W pt 92 (spC t vb vr)) : W.rangeAt pt (k * 2) (sR (t.ar k)) := by
  rcases hk with rfl | rfl
  · exact h.range 2 (sR t.a1) rfl
  · exact h.range 4 (sR t.a2) rfl
theorem laid_is {t : SpS} (h : WF t) (k : Int) : ((t.ar k) ≠ ⟨0, 0⟩) ↔ (t.ar k).f ≠ 0 := by
  rcases okAr h k with h1 | h1
  · rw [h1]; simp
  · unfold mayO at h1
    constructor
    · intro _; omega
    · intro h2 h3; rw [h3] at h1; simp at h1
def laidB (t : SpS) (k : Int) : Bool := decide ((k = 1 ∨ k = 2) ∧ (t.ar k).f ≠ 0)
set_option maxRecDepth 100000 in
set_option maxHeartbeats 1000000 in
theorem laid_any {base pt : Nat} {vb vr : Value} {t : SpS} (k : Int) (w : World) (h : SpM w base pt vb vr t) :
    Calls Try.prog 51 #[.pointer (some ⟨pt, 0, none⟩), .int .i64 k] w fun e w' => e = .returned (.bool (laidB t k)) ∧ Below w.heap.size w w' := by
  have HN := Lib.hid (named_any k w)
  have HM := Lib.hid h
  by_cases hk : k = 1 ∨ k = 2
  · have hr := Lib.hid (fun W (hW : Below w.heap.size w W) => (show W.rangeAt pt (k.toNat * 2) (sR (t.ar k)) from (by
      have := spC_ar t vb vr k.toNat (by omega) (h.bx.up hW)
      rwa [show ((k.toNat : Nat) : Int) = k by omega] at this)))
    have HL := Lib.hid (show laidB t k = !decide ((t.ar k).f = 0 ∧ (t.ar k).l = 0) by
      unfold laidB
      rw [← decide_not, decide_eq_decide]
      have h1 := laid_is h.wf k
      have h2 : t.ar k = ⟨0, 0⟩ ↔ ((t.ar k).f = 0 ∧ (t.ar k).l = 0) := by
        cases t.ar k; simp
      rw [← h2]
      constructor
      · rintro ⟨_, h3⟩; exact h1.2 h3
      · intro h3; exact ⟨hk, h1.1 h3⟩)
    rw [decide_eq_true hk] at HN
    generalize t.ar k = s at *
    generalize laidB t k = r at *
    clear h
    rcases hk with rfl | rfl
    · go_enter Try.func51, Try.ntmps51
      go_wp2_with (go_at_call 57; refine HN.out.mono ?_; rintro e w1 ⟨rfl, b1⟩; refine Hid.out ?_)
      refine Lib.hid ?_
      have hr1 := hr.out _ b1
      have x0 : w1.cell? ⟨pt, 2, none⟩ = some (.int .i64 s.f) := rng0 hr1
      have x1 : w1.cell? ⟨pt, 3, none⟩ = some (.int .i64 s.l) := rng1 hr1
      have HB1 := Lib.hid b1
      clear hr1 b1
      go_wp2
      all_goals (go_ret; refine ⟨?_, HB1.out⟩; rw [HL.out]; simp_all)
    · go_enter Try.func51, Try.ntmps51
      go_wp2_with (go_at_call 57; refine HN.out.mono ?_; rintro e w1 ⟨rfl, b1⟩; refine Hid.out ?_)
      refine Lib.hid ?_
      have hr1 := hr.out _ b1
      have x0 : w1.cell? ⟨pt, 4, none⟩ = some (.int .i64 s.f) := rng0 hr1
      have x1 : w1.cell? ⟨pt, 5, none⟩ = some (.int .i64 s.l) := rng1 hr1
      have HB1 := Lib.hid b1
      clear hr1 b1
      go_wp2
      all_goals (go_ret; refine ⟨?_, HB1.out⟩; rw [HL.out]; simp_all)
  · have HL := Lib.hid (show laidB t k = false from decide_eq_false (fun h => hk h.1))
    rw [decide_eq_false hk] at HN
    generalize laidB t k = r at *
    clear h
    go_enter Try.func51, Try.ntmps51
    go_wp2_with (go_at_call 57; refine HN.out.mono ?_; rintro e w1 ⟨rfl, b1⟩; refine Hid.out ?_)
    refine Lib.hid ?_
    have HB1 := Lib.hid b1
    clear b1
    go_wp2
    go_ret
    exact ⟨by rw [HL.out]; rfl, HB1.out⟩

def HeldA (pt : Nat) (s u : Spn) (W : World) : Prop := W.rangeAt pt 2 (sR s) ∧ W.rangeAt pt 4 (sR u)
theorem exec_one_ar {ρ : Operand → Value} {o : Oper} {w : World} (x : Operand) (ho : o.op = .buildSlice 51 1 #[(0, x)]) (s : Spn) (hx : ρ x = sV s) (b : Nat) (hb : w.heap.size = b) (W : World) (hW : w.alloc (.cells (sR s).toArray 27) = W) :
    (execOp ρ o).run Try.prog w = .ok (.value (.slice (some ⟨b, 0, none⟩) 1 1)) W := by
  subst hW
  exact exec_one_spb x ho s hx b hb
set_option maxRecDepth 100000 in
set_option maxHeartbeats 2000000 in
theorem parts_any {base pt : Nat} {vb vr : Value} {t : SpS} (k : Int) (w : World) (h : SpM w base pt vb vr t) :
    Calls Try.prog 54 #[.pointer (some ⟨pt, 0, none⟩), .int .i64 k] w fun e w' => ∃ v', e = .returned v' ∧ IsS w' v' (partsP t k) ∧ Below w.heap.size w w' := by
  have mixed : Try.prog.follows .mixedOrders = true := by kernel_rfl
  by_cases hk : k = 0
  · subst hk
    have HPP := Lib.hid (show partsP t 0 = cutS (cutS [allO] t.a1) t.a2 by unfold partsP; rw [if_pos rfl])
    have hb0 : Below w.heap.size w (w.alloc (.cells (sR allO).toArray 27)) := (Below.refl _ _).alloc (Nat.le_refl _) _
    have hI := Lib.hid (isS_new w [allO] (by simp) _ rfl)
    have HM := Lib.hid (h.up hb0)
    have HB0 := Lib.hid hb0
    clear h hb0
    go_enter Try.func54, Try.ntmps54
    go_wp2_with (first
      | (refine plV rfl (sV allO) (exec_build2 _ 0 1 _ _ rfl _ _ (sR allO) rfl rfl (built_sp2 _ _)) ?_)
      | (refine plV rfl (.slice (some ⟨w.heap.size, 0, none⟩) 1 1) (exec_one_spb (.tmp 9) rfl allO rfl _ rfl) ?_))
    have hd : Below (w.alloc (.cells (sR allO).toArray 27)).heap.size (w.alloc (.cells (sR allO).toArray 27)) (w.alloc (.cells (sR allO).toArray 27)).drew := (Below.refl _ _).drew
    have HM1 := Lib.hid (HM.out.up hd)
    have HI1 := Lib.hid (hI.out.below hd)
    have HB1 := Lib.hid (below_up HB0.out hd HB0.out.size)
    have hH : HeldA pt t.a1 t.a2 (w.alloc (.cells (sR allO).toArray 27)).drew := ⟨HM1.out.bx.range 2 (sR t.a1) rfl, HM1.out.bx.range 4 (sR t.a2) rfl⟩
    refine wp_region_noPanic ?_
    refine wp_region_held_drew (S := HeldA pt t.a1 t.a2) (by kernel_rfl) hH (fun hHeld => ?_)
    clear hH hd
    generalize (w.alloc (.cells (sR allO).toArray 27)).drew = wd at *
    refine held_take (v := ?v135) 0 rfl (by kernel_rfl) (by kernel_rfl) (by kernel_rfl) (fun _ _ _ h => h) (by rfl) ?y135 (by assumption) ?_
    case y135 => (intro w hSw; unfold HeldA at hSw; go_simp; (try with_reducible rfl); (try omega))
    simp only [List.setIfInBounds_toArray, List.set_cons_zero, List.set_cons_succ]
    refine held_take (v := ?v138) 1 rfl (by kernel_rfl) (by kernel_rfl) (by kernel_rfl) (fun _ _ _ h => h) (by rfl) ?y138 (by assumption) ?_
    case y138 => (intro w hSw; unfold HeldA at hSw; go_simp; (try with_reducible rfl); (try omega))
    simp only [List.setIfInBounds_toArray, List.set_cons_zero, List.set_cons_succ]
    refine held_take (v := ?v141) 2 rfl (by kernel_rfl) (by kernel_rfl) (by kernel_rfl) (fun _ _ _ h => h) (by rfl) ?y141 (by assumption) ?_
    case y141 => (intro w hSw; unfold HeldA at hSw; go_simp; (try with_reducible rfl); (try omega))
    simp only [List.setIfInBounds_toArray, List.set_cons_zero, List.set_cons_succ]
    refine held_take (v := ?v144) 3 rfl (by kernel_rfl) (by kernel_rfl) (by kernel_rfl) (fun _ _ _ h => h) (by rfl) ?y144 (by assumption) ?_
    case y144 => (intro w hSw; unfold HeldA at hSw; go_simp; (try with_reducible rfl); (try omega))
    simp only [List.setIfInBounds_toArray, List.set_cons_zero, List.set_cons_succ]
    refine held_take (v := sV t.a1) 4 rfl (by kernel_rfl) (by kernel_rfl) (by kernel_rfl) (fun _ _ _ h => h) (by rfl) (fun W hSw => exec_load_any _ (.tmp 14) rfl pt 2 (sR t.a1) _ rfl hSw.1 Try.underlying27 rfl sp_info) (by assumption) ?_
    simp only [List.setIfInBounds_toArray, List.set_cons_zero, List.set_cons_succ]
    refine held_take (v := ?v149) 6 rfl (by kernel_rfl) (by kernel_rfl) (by kernel_rfl) (fun _ _ _ h => h) (by rfl) ?y149 (by assumption) ?_
    case y149 => (intro w hSw; unfold HeldA at hSw; go_simp; (try with_reducible rfl); (try omega))
    simp only [List.setIfInBounds_toArray, List.set_cons_zero, List.set_cons_succ]
    refine held_take (v := ?v152) 7 rfl (by kernel_rfl) (by kernel_rfl) (by kernel_rfl) (fun _ _ _ h => h) (by rfl) ?y152 (by assumption) ?_
    case y152 => (intro w hSw; unfold HeldA at hSw; go_simp; (try with_reducible rfl); (try omega))
    simp only [List.setIfInBounds_toArray, List.set_cons_zero, List.set_cons_succ]
    refine held_take (v := ?v155) 8 rfl (by kernel_rfl) (by kernel_rfl) (by kernel_rfl) (fun _ _ _ h => h) (by rfl) ?y155 (by assumption) ?_
    case y155 => (intro w hSw; unfold HeldA at hSw; go_simp; (try with_reducible rfl); (try omega))
    simp only [List.setIfInBounds_toArray, List.set_cons_zero, List.set_cons_succ]
    refine held_take (v := sV t.a2) 9 rfl (by kernel_rfl) (by kernel_rfl) (by kernel_rfl) (fun _ _ _ h => h) (by rfl) (fun W hSw => exec_load_any _ (.tmp 19) rfl pt 4 (sR t.a2) _ rfl hSw.2 Try.underlying27 rfl sp_info) (by assumption) ?_
    simp only [List.setIfInBounds_toArray, List.set_cons_zero, List.set_cons_succ]
    refine held_one 5 rfl (by kernel_rfl) (by rfl) (fun K hK => ?_)
    go_simp
    refine (scut_any _ [allO] t.a1 wd HI1.out (by simp)).mono ?_
    rintro e w2 ⟨v2, rfl, i2, b2⟩
    have HI2 := Lib.hid i2
    have HM2 := Lib.hid (HM1.out.up b2)
    have HB2 := Lib.hid (below_up HB1.out b2 HB1.out.size)
    have hl2 := cutS_length [allO] t.a1
    refine hK.out _ _ ⟨HM2.out.bx.range 2 (sR t.a1) rfl, HM2.out.bx.range 4 (sR t.a2) rfl⟩ (fun _ => ?_)
    (try simp only [Act.put, List.setIfInBounds_toArray, List.set_cons_zero, List.set_cons_succ])
    clear hK K i2 b2
    refine held_one 10 rfl (by kernel_rfl) (by rfl) (fun K hK => ?_)
    go_simp
    refine (scut_any _ (cutS [allO] t.a1) t.a2 w2 HI2.out (by simp only [List.length_singleton] at hl2; omega)).mono ?_
    rintro e w3 ⟨v3, rfl, i3, b3⟩
    obtain ⟨a3, c3, rfl, hc3⟩ := i3.form
    have HR3 := Lib.hid (⟨HPP.out ▸ i3, below_up HB2.out b3 HB2.out.size⟩ : IsS w3 (.slice a3 (cutS (cutS [allO] t.a1) t.a2).length c3) (partsP t 0) ∧ Below w.heap.size w w3)
    have HM3 := Lib.hid (HM2.out.up b3)
    refine hK.out _ _ ⟨HM3.out.bx.range 2 (sR t.a1) rfl, HM3.out.bx.range 4 (sR t.a2) rfl⟩ (fun _ => ?_)
    (try simp only [Act.put, List.setIfInBounds_toArray, List.set_cons_zero, List.set_cons_succ])
    clear hK K i3 b3
    refine held_take (v := ?v181) 11 rfl (by kernel_rfl) (by kernel_rfl) (by kernel_rfl) (fun _ _ _ h => h) (by rfl) ?y181 (by assumption) ?_
    case y181 => (intro w hSw; unfold HeldA at hSw; go_simp; (try with_reducible rfl); (try omega))
    simp only [List.setIfInBounds_toArray, List.set_cons_zero, List.set_cons_succ]
    refine wpAnyH_done (by kernel_rfl) ?_ _
    refine NoPanic.normal ?_
    go_wp2
    go_ret
    exact ⟨_, rfl, HR3.out⟩
  · have HL := Lib.hid (laid_any k w h)
    have HM := Lib.hid h
    by_cases hl : laidB t k = true
    · have hl2 := of_decide_eq_true hl
      rw [hl] at HL
      have HPP := Lib.hid (show partsP t k = [t.ar k] by unfold partsP; rw [if_neg hk, if_pos hl2])
      have HR := Lib.hid (fun W (hW : Below w.heap.size w W) => (show W.rangeAt pt (k.toNat * 2) (sR (t.ar k)) from (by
        have := spC_ar t vb vr k.toNat (by omega) (h.bx.up hW)
        rwa [show ((k.toNat : Nat) : Int) = k by omega] at this)))
      generalize t.ar k = s at *
      clear hl h
      have hk2 := hl2.1
      clear hl2
      rcases hk2 with rfl | rfl
      · go_enter Try.func54, Try.ntmps54
        go_wp2_with (go_at_call 51; refine HL.out.mono ?_; rintro e w1 ⟨rfl, b1⟩; refine Hid.out ?_)
        refine Lib.hid ?_
        have hr1 : w1.rangeAt pt 2 (sR s) := HR.out _ b1
        have HS := Lib.hid (isS_new w1 [s] (by simp) _ rfl)
        have HB1 := Lib.hid (below_up b1 ((Below.refl w1.heap.size w1).alloc (Nat.le_refl _) (.cells (sR s).toArray 27)) b1.size)
        clear b1
        go_wp2_with (first
          | (refine plV rfl (sV s) (exec_load_any 27 (.tmp 29) rfl pt 2 (sR s) _ rfl hr1 Try.underlying27 rfl sp_info) ?_)
          | (refine plV rfl (.slice (some ⟨w1.heap.size, 0, none⟩) 1 1) (exec_one_spb (.tmp 30) rfl s rfl _ rfl) ?_))
        go_ret
        exact ⟨_, rfl, by rw [HPP.out]; exact HS.out, HB1.out⟩
      · go_enter Try.func54, Try.ntmps54
        go_wp2_with (go_at_call 51; refine HL.out.mono ?_; rintro e w1 ⟨rfl, b1⟩; refine Hid.out ?_)
        refine Lib.hid ?_
        have hr1 : w1.rangeAt pt 4 (sR s) := HR.out _ b1
        have HS := Lib.hid (isS_new w1 [s] (by simp) _ rfl)
        have HB1 := Lib.hid (below_up b1 ((Below.refl w1.heap.size w1).alloc (Nat.le_refl _) (.cells (sR s).toArray 27)) b1.size)
        clear b1
        go_wp2_with (first
          | (refine plV rfl (sV s) (exec_load_any 27 (.tmp 29) rfl pt 4 (sR s) _ rfl hr1 Try.underlying27 rfl sp_info) ?_)
          | (refine plV rfl (.slice (some ⟨w1.heap.size, 0, none⟩) 1 1) (exec_one_spb (.tmp 30) rfl s rfl _ rfl) ?_))
        go_ret
        exact ⟨_, rfl, by rw [HPP.out]; exact HS.out, HB1.out⟩
    · have hl0 : laidB t k = false := by cases h9 : laidB t k <;> simp_all
      rw [hl0] at HL
      have HPP := Lib.hid (show partsP t k = [] by
        unfold partsP
        rw [if_neg hk, if_neg (of_decide_eq_false hl0)])
      clear hl hl0 h
      go_enter Try.func54, Try.ntmps54
      go_wp2_with (go_at_call 51; refine HL.out.mono ?_; rintro e w1 ⟨rfl, b1⟩; refine Hid.out ?_)
      refine Lib.hid ?_
      have HB1 := Lib.hid b1
      clear b1
      go_wp2
      go_ret
      exact ⟨_, rfl, by rw [HPP.out]; exact IsC.nil _, HB1.out⟩
end Go.Proofs.Ytgelbeglffjdaaa
namespace Go.Proofs.Ytgelbeglffjdaaa
open Go Go.RowKit Go.Shelf
attribute [local go_sem] Oper.semAt_some

def HeldPs (b : Nat) (s : Spn) (W : World) : Prop := W.rangeAt b 0 (sR s)
set_option maxRecDepth 100000 in
set_option maxHeartbeats 2000000 in
theorem sleft_any {base pt : Nat} {vb vr : Value} {t : SpS} (k : Int) (s : Spn) (hs : mayO s) (w : World) (h : SpM w base pt vb vr t) :
    Calls Try.prog 62 #[.pointer (some ⟨pt, 0, none⟩), .int .i64 k, sV s] w fun e w' => e = .returned (.bool (hasS (t.left k) s)) ∧ Below w.heap.size w w' := by
  have mixed : Try.prog.follows .mixedOrders = true := by kernel_rfl
  have hb0 : Below w.heap.size w (w.alloc (.cells (sR s).toArray 27)) := (Below.refl _ _).alloc (Nat.le_refl _) _
  have hd : Below (w.alloc (.cells (sR s).toArray 27)).heap.size (w.alloc (.cells (sR s).toArray 27)) (w.alloc (.cells (sR s).toArray 27)).drew := (Below.refl _ _).drew
  have HM0 := Lib.hid ((h.up hb0).up hd)
  have HX0 := Lib.hid ((Bx.new w 27 (sR s)).up hd)
  have HB0 := Lib.hid (below_up hb0 hd hb0.size)
  have HMAY := Lib.hid hs
  rw [has_left h.wf, show sV s = .agg (sR s).toArray from rfl]
  have hpl := parts_length (t := t) k
  obtain ⟨hb, hhb⟩ : ∃ hb, hasS (partsP t k) s = hb := ⟨_, rfl⟩
  obtain ⟨mb, hmb⟩ : ∃ mb, metK t.l s = mb := ⟨_, rfl⟩
  rw [hhb, hmb]
  have HHB := Lib.hid hhb
  have HMB := Lib.hid hmb
  clear h hb0 hd hs hhb hmb
  go_enter Try.func62, Try.ntmps62
  go_wp2
  refine wp_region_noPanic ?_
  refine wp_region_held_drew (S := HeldPs w.heap.size s) (by kernel_rfl) (rangeAll HX0.out) (fun hHeld => ?_)
  generalize (w.alloc (.cells (sR s).toArray 27)).drew = wd at *
  refine held_take (v := ?v271) 0 rfl (by kernel_rfl) (by kernel_rfl) (by kernel_rfl) (fun _ _ _ h => h) (by rfl) ?y271 (by assumption) ?_
  case y271 => (intro w hSw; unfold HeldPs at hSw; go_simp; (try with_reducible rfl); (try omega))
  simp only [List.setIfInBounds_toArray, List.set_cons_zero, List.set_cons_succ]
  refine held_take (v := ?v274) 1 rfl (by kernel_rfl) (by kernel_rfl) (by kernel_rfl) (fun _ _ _ h => h) (by rfl) ?y274 (by assumption) ?_
  case y274 => (intro w hSw; unfold HeldPs at hSw; go_simp; (try with_reducible rfl); (try omega))
  simp only [List.setIfInBounds_toArray, List.set_cons_zero, List.set_cons_succ]
  refine held_take (v := ?v277) 2 rfl (by kernel_rfl) (by kernel_rfl) (by kernel_rfl) (fun _ _ _ h => h) (by rfl) ?y277 (by assumption) ?_
  case y277 => (intro w hSw; unfold HeldPs at hSw; go_simp; (try with_reducible rfl); (try omega))
  simp only [List.setIfInBounds_toArray, List.set_cons_zero, List.set_cons_succ]
  refine held_take (v := ?v280) 3 rfl (by kernel_rfl) (by kernel_rfl) (by kernel_rfl) (fun _ _ _ h => h) (by rfl) ?y280 (by assumption) ?_
  case y280 => (intro w hSw; unfold HeldPs at hSw; go_simp; (try with_reducible rfl); (try omega))
  simp only [List.setIfInBounds_toArray, List.set_cons_zero, List.set_cons_succ]
  refine held_take (v := sV s) 5 rfl (by kernel_rfl) (by kernel_rfl) (by kernel_rfl) (fun _ _ _ h => h) (by rfl) (fun W hSw => exec_load_any _ (.tmp 5) rfl w.heap.size 0 (sR s) _ rfl hSw Try.underlying27 rfl sp_info) (by assumption) ?_
  simp only [List.setIfInBounds_toArray, List.set_cons_zero, List.set_cons_succ]
  refine held_one 4 rfl (by kernel_rfl) (by rfl) (fun K hK => ?_)
  go_simp
  refine (parts_any k wd HM0.out).mono ?_
  rintro e w2 ⟨v2, rfl, i2, b2⟩
  have HI2 := Lib.hid i2
  have HM2 := Lib.hid (HM0.out.up b2)
  have HX2 := Lib.hid (HX0.out.up b2)
  have HB2 := Lib.hid (below_up HB0.out b2 HB0.out.size)
  refine hK.out _ _ (rangeAll HX2.out) (fun _ => ?_)
  (try simp only [Act.put, List.setIfInBounds_toArray, List.set_cons_zero, List.set_cons_succ])
  clear hK K i2 b2
  refine held_one 6 rfl (by kernel_rfl) (by rfl) (fun K hK => ?_)
  go_simp
  refine (shas_any _ (partsP t k) s w2 HI2.out (by omega)).mono ?_
  rintro e w3 ⟨rfl, b3⟩
  have HM3 := Lib.hid (HM2.out.up b3)
  have HX3 := Lib.hid (HX2.out.up b3)
  have HB3 := Lib.hid (below_up HB2.out b3 HB2.out.size)
  refine hK.out _ _ (rangeAll HX3.out) (fun _ => ?_)
  (try simp only [Act.put, List.setIfInBounds_toArray, List.set_cons_zero, List.set_cons_succ])
  rw [HHB.out]
  clear hK K b3
  refine held_take (v := ?v307) 7 rfl (by kernel_rfl) (by kernel_rfl) (by kernel_rfl) (fun _ _ _ h => h) (by rfl) ?y307 (by assumption) ?_
  case y307 => (intro w hSw; unfold HeldPs at hSw; go_simp; (try with_reducible rfl); (try omega))
  simp only [List.setIfInBounds_toArray, List.set_cons_zero, List.set_cons_succ]
  cases hb with
  | false =>
    refine held_skip 8 rfl (by kernel_rfl) (by kernel_rfl) (by kernel_rfl) (fun _ _ _ h => h) (by rfl) (by assumption) ?_
    simp only [List.setIfInBounds_toArray, List.set_cons_zero, List.set_cons_succ]
    refine held_skip 9 rfl (by kernel_rfl) (by kernel_rfl) (by kernel_rfl) (fun _ _ _ h => h) (by rfl) (by assumption) ?_
    simp only [List.setIfInBounds_toArray, List.set_cons_zero, List.set_cons_succ]
    refine held_skip 10 rfl (by kernel_rfl) (by kernel_rfl) (by kernel_rfl) (fun _ _ _ h => h) (by rfl) (by assumption) ?_
    simp only [List.setIfInBounds_toArray, List.set_cons_zero, List.set_cons_succ]
    refine held_skip 11 rfl (by kernel_rfl) (by kernel_rfl) (by kernel_rfl) (fun _ _ _ h => h) (by rfl) (by assumption) ?_
    simp only [List.setIfInBounds_toArray, List.set_cons_zero, List.set_cons_succ]
    refine held_skip 12 rfl (by kernel_rfl) (by kernel_rfl) (by kernel_rfl) (fun _ _ _ h => h) (by rfl) (by assumption) ?_
    simp only [List.setIfInBounds_toArray, List.set_cons_zero, List.set_cons_succ]
    refine held_skip 13 rfl (by kernel_rfl) (by kernel_rfl) (by kernel_rfl) (fun _ _ _ h => h) (by rfl) (by assumption) ?_
    simp only [List.setIfInBounds_toArray, List.set_cons_zero, List.set_cons_succ]
    refine held_take (v := ?v324) 14 rfl (by kernel_rfl) (by kernel_rfl) (by kernel_rfl) (fun _ _ _ h => h) (by rfl) ?y324 (by assumption) ?_
    case y324 => (intro w hSw; unfold HeldPs at hSw; go_simp; (try with_reducible rfl); (try omega))
    simp only [List.setIfInBounds_toArray, List.set_cons_zero, List.set_cons_succ]
    refine held_take (v := ?v327) 15 rfl (by kernel_rfl) (by kernel_rfl) (by kernel_rfl) (fun _ _ _ h => h) (by rfl) ?y327 (by assumption) ?_
    case y327 => (intro w hSw; unfold HeldPs at hSw; go_simp; (try with_reducible rfl); (try omega))
    simp only [List.setIfInBounds_toArray, List.set_cons_zero, List.set_cons_succ]
    refine wpAnyH_done (by kernel_rfl) ?_ _
    refine NoPanic.normal ?_
    go_wp2
    go_ret
    exact ⟨rfl, HB3.out⟩
  | true =>
    refine held_take (v := ?v336) 8 rfl (by kernel_rfl) (by kernel_rfl) (by kernel_rfl) (fun _ _ _ h => h) (by rfl) ?y336 (by assumption) ?_
    case y336 => (intro w hSw; unfold HeldPs at hSw; go_simp; (try with_reducible rfl); (try omega))
    simp only [List.setIfInBounds_toArray, List.set_cons_zero, List.set_cons_succ]
    refine held_take (v := ?v339) 9 rfl (by kernel_rfl) (by kernel_rfl) (by kernel_rfl) (fun _ _ _ h => h) (by rfl) ?y339 (by assumption) ?_
    case y339 => (intro w hSw; unfold HeldPs at hSw; go_simp; (try with_reducible rfl); (try omega))
    simp only [List.setIfInBounds_toArray, List.set_cons_zero, List.set_cons_succ]
    refine held_take (v := ?v342) 10 rfl (by kernel_rfl) (by kernel_rfl) (by kernel_rfl) (fun _ _ _ h => h) (by rfl) ?y342 (by assumption) ?_
    case y342 => (intro w hSw; unfold HeldPs at hSw; go_simp; (try with_reducible rfl); (try omega))
    simp only [List.setIfInBounds_toArray, List.set_cons_zero, List.set_cons_succ]
    refine held_take (v := sV s) 11 rfl (by kernel_rfl) (by kernel_rfl) (by kernel_rfl) (fun _ _ _ h => h) (by rfl) (fun W hSw => exec_load_any _ (.tmp 5) rfl w.heap.size 0 (sR s) _ rfl hSw Try.underlying27 rfl sp_info) (by assumption) ?_
    simp only [List.setIfInBounds_toArray, List.set_cons_zero, List.set_cons_succ]
    refine held_one 12 rfl (by kernel_rfl) (by rfl) (fun K hK => ?_)
    go_simp
    refine (meets_any s HMAY.out w3 HM3.out).mono ?_
    rintro e w4 ⟨rfl, b4⟩
    have HX4 := Lib.hid (HX3.out.up b4)
    have HB4 := Lib.hid (below_up HB3.out b4 HB3.out.size)
    refine hK.out _ _ (rangeAll HX4.out) (fun _ => ?_)
    (try simp only [Act.put, List.setIfInBounds_toArray, List.set_cons_zero, List.set_cons_succ])
    rw [HMB.out]
    clear hK K b4
    refine held_take (v := ?v357) 13 rfl (by kernel_rfl) (by kernel_rfl) (by kernel_rfl) (fun _ _ _ h => h) (by rfl) ?y357 (by assumption) ?_
    case y357 => (intro w hSw; unfold HeldPs at hSw; go_simp; (try with_reducible rfl); (try omega))
    simp only [List.setIfInBounds_toArray, List.set_cons_zero, List.set_cons_succ]
    refine held_take (v := ?v360) 14 rfl (by kernel_rfl) (by kernel_rfl) (by kernel_rfl) (fun _ _ _ h => h) (by rfl) ?y360 (by assumption) ?_
    case y360 => (intro w hSw; unfold HeldPs at hSw; go_simp; (try with_reducible rfl); (try omega))
    simp only [List.setIfInBounds_toArray, List.set_cons_zero, List.set_cons_succ]
    refine held_take (v := ?v363) 15 rfl (by kernel_rfl) (by kernel_rfl) (by kernel_rfl) (fun _ _ _ h => h) (by rfl) ?y363 (by assumption) ?_
    case y363 => (intro w hSw; unfold HeldPs at hSw; go_simp; (try with_reducible rfl); (try omega))
    simp only [List.setIfInBounds_toArray, List.set_cons_zero, List.set_cons_succ]
    refine wpAnyH_done (by kernel_rfl) ?_ _
    refine NoPanic.normal ?_
    go_wp2
    go_ret
    exact ⟨by rw [Bool.true_and]; rfl, HB4.out⟩
set_option maxRecDepth 100000 in
set_option maxHeartbeats 2000000 in
theorem left_any {base pt : Nat} {vb vr : Value} {t : SpS} (k : Int) (w : World) (h : SpM w base pt vb vr t) :
    Calls Try.prog 21 #[.pointer (some ⟨pt, 0, none⟩), .int .i64 k] w fun e w' => ∃ v', e = .returned v' ∧ IsS w' v' (t.left k) ∧ Below w.heap.size w w' := by
  have mixed : Try.prog.follows .mixedOrders = true := by kernel_rfl
  have HP := Lib.hid (parts_any k w h)
  have HM := Lib.hid h
  have hpl := parts_length (t := t) k
  have hmy := Lib.hid (show ∀ p ∈ partsP t k, mayO p from fun p hp => by
    have h1 := (parts_normal h.wf k).may p hp
    have h2 : inLab (partsP t k) p.f = true := row_in (parts_normal h.wf k) hp (Int.le_refl _) (by unfold mayS at h1; omega)
    rw [parts_base h.wf] at h2
    split at h2
    · cases h2
    · have h3 : 16 ≤ p.f := by
        by_cases hk : k = 0
        · subst hk
          rw [base0_in h.wf] at h2
          simp only [Bool.and_eq_true, decide_eq_true_iff] at h2
          exact h2.1.1.1
        · unfold SpS.base at h2
          rw [if_neg hk] at h2
          obtain ⟨x, hx, h4, h5, h6⟩ := (inS_iff _ _).1 h2
          obtain rfl := List.mem_singleton.1 hx
          rcases okAr h.wf k with h7 | h7
          · rename_i hg
            exfalso
            apply hg
            unfold SpS.gone
            rw [h7]
            simp
            omega
          · unfold mayO at h7; omega
      unfold mayS at h1
      unfold mayO
      omega)
  have HLI := Lib.hid (fun g hg => left_is h.wf k (g := g) hg)
  generalize t.left k = lf at *
  generalize hP : partsP t k = ps at *
  have hsb := parts_length (t := t) k
  clear h hsb hP
  go_enter Try.func21, Try.ntmps21
  go_wp2_with (go_at_call 54; refine HP.out.mono ?_; rintro e w1 ⟨v1, rfl, i1, b1⟩; refine Hid.out ?_)
  refine Lib.hid ?_
  obtain ⟨a1, c1, rfl, hc1⟩ := i1.form
  have HI1 := Lib.hid i1
  have HM1 := Lib.hid (HM.out.up b1)
  have HB1 := Lib.hid b1
  have HO0 := Lib.hid (⟨[], by simp, by simp, World.ownsRow_nil w1 w1.heap.size 27 2, fun n => rfl⟩ : ∃ g : List Spn, g.length ≤ 0 * 1001 ∧ True ∧ w1.ownsRow w1.heap.size 27 2 (.slice none 0 0) g.length (g.flatMap sR) ∧ ∀ n, inLab g n = (inLab (ps.take 0) n && !hasB t.l n))
  clear i1 b1 HP HM
  go_wp2
  go_loopw [5, 16] (fun vo i wr => ∃ j : Nat, j ≤ ps.length ∧ i = .int .i64 (j : Int) ∧ Hid (∃ g : List Spn, g.length ≤ j * 1001 ∧ True ∧ wr.ownsRow w1.heap.size 27 2 vo g.length (g.flatMap sR) ∧ ∀ n, inLab g n = (inLab (ps.take j) n && !hasB t.l n)) ∧ Below w1.heap.size w1 wr) (fun _ i _ => ps.length - (intOf i).toNat)
  case atStart => exact ⟨0, Nat.zero_le _, rfl, HO0, Below.refl _ _⟩
  case round =>
    clear HO0
    obtain ⟨j, hj, rfl, HOW, hbel⟩ := hrel
    obtain ⟨ti, hti, htz, hts, htb⟩ := info_parts sp_infoF
    by_cases hlt : j < ps.length
    · have hlti : (j : Int) < (ps.length : Int) := by omega
      have h0k : (0 : Int) ≤ (j : Int) := by omega
      obtain ⟨x, hx⟩ : ∃ x, ps[j]? = some x := ⟨ps[j], List.getElem?_eq_getElem hlt⟩
      obtain ⟨b, o, rfl, hbl⟩ := IsS.place HI1.out (by omega)
      have hr := IsS.range (HI1.out.below hbel) j x hx
      have x0 := rng0 hr
      have x1 := rng1 hr
      have HXM := Lib.hid (hmy.out x (List.mem_of_getElem? hx))
      have hb1 : Below wr.heap.size wr (wr.alloc (.cells (sR x).toArray 27)) := (Below.refl _ _).alloc (Nat.le_refl _) _
      have hd : Below (wr.alloc (.cells (sR x).toArray 27)).heap.size (wr.alloc (.cells (sR x).toArray 27)) (wr.alloc (.cells (sR x).toArray 27)).drew := (Below.refl _ _).drew
      have hbd := below_up hb1 hd hb1.size
      have HX3 := Lib.hid ((Bx.new wr 27 (sR x)).up hd)
      have HB3 := Lib.hid (below_up hbel hbd hbel.size)
      have HTK := Lib.hid (show ps.take (j + 1) = ps.take j ++ [x] from take_next hx)
      have HOW3 := Lib.hid (fun v xs n (hv : wr.ownsRow w1.heap.size 27 2 v n xs) => own_below hv hbd)
      have hwd := hbd.size
      clear hx hr hb1 hd hbd
      go_wp2_with (refine plS rfl (exec_store_fresh _ (.tmp 7) (.tmp 19) rfl (sR x) _ wr.heap.size rfl rfl rfl sp_info rfl (sR_one x)) ?_)
      refine wp_region_noPanic ?_
      refine wp_region_held_drew (S := HeldPs wr.heap.size x) (by kernel_rfl) (rangeAll HX3.out) (fun hHeld => ?_)
      generalize (wr.alloc (.cells (sR x).toArray 27)).drew = wd at *
      refine held_take (v := ?v450) 0 rfl (by kernel_rfl) (by kernel_rfl) (by kernel_rfl) (fun _ _ _ h => h) (by rfl) ?y450 (by assumption) ?_
      case y450 => (intro w hSw; unfold HeldPs at hSw; go_simp; (try with_reducible rfl); (try omega))
      simp only [List.setIfInBounds_toArray, List.set_cons_zero, List.set_cons_succ]
      refine held_take (v := ?v453) 1 rfl (by kernel_rfl) (by kernel_rfl) (by kernel_rfl) (fun _ _ _ h => h) (by rfl) ?y453 (by assumption) ?_
      case y453 => (intro w hSw; unfold HeldPs at hSw; go_simp; (try with_reducible rfl); (try omega))
      simp only [List.setIfInBounds_toArray, List.set_cons_zero, List.set_cons_succ]
      refine held_take (v := ?v456) 2 rfl (by kernel_rfl) (by kernel_rfl) (by kernel_rfl) (fun _ _ _ h => h) (by rfl) ?y456 (by assumption) ?_
      case y456 => (intro w hSw; unfold HeldPs at hSw; go_simp; (try with_reducible rfl); (try omega))
      simp only [List.setIfInBounds_toArray, List.set_cons_zero, List.set_cons_succ]
      refine held_take (v := ?v459) 3 rfl (by kernel_rfl) (by kernel_rfl) (by kernel_rfl) (fun _ _ _ h => h) (by rfl) ?y459 (by assumption) ?_
      case y459 => (intro w hSw; unfold HeldPs at hSw; go_simp; (try with_reducible rfl); (try omega))
      simp only [List.setIfInBounds_toArray, List.set_cons_zero, List.set_cons_succ]
      refine held_take (v := sV x) 4 rfl (by kernel_rfl) (by kernel_rfl) (by kernel_rfl) (fun _ _ _ h => h) (by rfl) (fun W hSw => exec_load_any _ (.tmp 7) rfl wr.heap.size 0 (sR x) _ rfl hSw Try.underlying27 rfl sp_info) (by assumption) ?_
      simp only [List.setIfInBounds_toArray, List.set_cons_zero, List.set_cons_succ]
      refine held_one 5 rfl (by kernel_rfl) (by rfl) (fun K hK => ?_)
      go_simp
      refine (gaps_any x HXM.out wd (HM1.out.up HB3.out)).mono ?_
      rintro e w4 ⟨v4, g4, rfl, i4, hg0, hg1, hg2, b4⟩
      obtain ⟨gv, cv, rfl, hcv⟩ := i4.form
      obtain ⟨gb, go, rfl, hgb⟩ := IsS.place i4 hg0
      have HI4 := Lib.hid i4
      have HX4 := Lib.hid (HX3.out.up b4)
      have HB4 := Lib.hid (below_up HB3.out b4 HB3.out.size)
      refine hK.out _ _ (rangeAll HX4.out) (fun _ => ?_)
      (try simp only [Act.put, List.setIfInBounds_toArray, List.set_cons_zero, List.set_cons_succ])
      clear hK K i4
      obtain ⟨g, hgl, _, hgo, hgi⟩ := HOW.out
      have HG4 := Lib.hid (own_below (HOW3.out _ _ _ hgo) b4)
      have HGI := Lib.hid hgi
      have hj5 : j ≤ 4 := by omega
      refine held_one 6 rfl (by kernel_rfl) (by rfl) (fun K hK => ?_)
      refine wp_append_lies _ _ _ 51 rfl w1.heap.size 27 ti (sV ⟨0, 0⟩) 2 16 Try.underlying51 hti htz hts htb rfl (by decide) _ _ _ rfl HG4.out ⟨gb, go, none⟩ g4.length cv (g4.flatMap sR) rfl (cflat_length g4 (sR_all g4)) (fun q u hq => by
        obtain ⟨_, _, _, h9⟩ := HI4.out.shape
        obtain ⟨b9, k9, e9, _, hc9⟩ := h9 hg0
        cases e9
        rw [Addr.add_lit]
        exact hc9 q u hq) (flat_one sR sR_one _) hg0 (by unfold maxLen; omega) (by omega) (by have := HB4.out.size; omega) _ rfl ?_
      intro g9 cap9 w9 hown hgr hat hlt9
      have hB9 : Below w1.heap.size w1 w9 := HB4.out.grown hgr (by have := HB4.out.size; omega) (fun k e => owned_low HG4.out k e)
      have HO9 := Lib.hid (show ∃ g' : List Spn, g'.length ≤ (j + 1) * 1001 ∧ True ∧ w9.ownsRow w1.heap.size 27 2 (.slice (some ⟨g9, 0, none⟩) (g.length + g4.length) cap9) g'.length (g'.flatMap sR) ∧ ∀ n, inLab g' n = (inLab (ps.take (j + 1)) n && !hasB t.l n) by
        refine ⟨g ++ g4, by rw [List.length_append]; omega, trivial, ?_, fun n => ?_⟩
        · rw [List.length_append, List.flatMap_append]; exact hown
        · rw [inS_append, HGI.out, hg2, HTK.out, inS_append]
          show (_ || _) = ((_ || (inSd x n || false)) && _)
          cases inLab (ps.take j) n <;> cases inSd x n <;> cases hasB t.l n <;> rfl)
      have HB9 := Lib.hid hB9
      have hX9 : HeldPs wr.heap.size x w9 := rangeAll (show Bx w9 wr.heap.size 27 (sR x) from (hgr.block wr.heap.size HX4.out.lt (fun e => own_notnew hgo e.symm)).trans HX4.out)
      refine hK.out _ _ hX9 (fun _ => ?_)
      (try simp only [Act.put, List.setIfInBounds_toArray, List.set_cons_zero, List.set_cons_succ])
      clear hK K hown hgr hat hB9
      refine held_take (v := ?v500) 7 rfl (by kernel_rfl) (by kernel_rfl) (by kernel_rfl) (fun _ _ _ h => h) (by rfl) ?y500 (by assumption) ?_
      case y500 => (intro w hSw; unfold HeldPs at hSw; go_simp; (try with_reducible rfl); (try omega))
      simp only [List.setIfInBounds_toArray, List.set_cons_zero, List.set_cons_succ]
      refine wpAnyH_done (by kernel_rfl) ?_ _
      refine NoPanic.normal ?_
      go_wp2
      go_roundw
      case rel => exact ⟨j + 1, by omega, rfl, HO9, HB9.out⟩
      case measure => simp only [intOf]; omega
    · have hke : j = ps.length := by omega
      subst hke
      rw [List.take_of_length_le (Nat.le_refl _)] at HOW
      obtain ⟨g, hgl, _, hgo, hgi⟩ := HOW.out
      have hI : IsS wr _ g := IsC.of_owned (sR_all _) hgo
      have HE := Lib.hid (HLI.out g hgi)
      have HN := Lib.hid (snorm_any _ g wr hI (by omega))
      obtain ⟨ag, cg, e9, hcg⟩ := hI.form
      subst e9
      have HBW := Lib.hid hbel
      have hlti : ¬ ((ps.length : Int) < (ps.length : Int)) := by omega
      clear hgo hgi hI hbel HOW
      go_wp2_with (go_at_call 56; refine HN.out.mono ?_; rintro e w5 ⟨v5, rfl, i5, b5⟩; refine Hid.out ?_)
      refine Lib.hid ?_
      obtain ⟨a5, c5, rfl, hc5⟩ := i5.form
      have HR := Lib.hid (⟨HE.out ▸ i5, below_up HB1.out (below_up HBW.out b5 HBW.out.size) HB1.out.size⟩ : IsS w5 (.slice a5 (normS g).length c5) lf ∧ Below w.heap.size w w5)
      clear i5 b5
      go_wp2
      go_ret
      exact ⟨_, rfl, HR.out⟩
end Go.Proofs.Ytgelbeglffjdaaa
namespace Go.Proofs.Ytgelbeglffjdaaa
open Go Go.RowKit Go.Shelf
attribute [local go_sem] Oper.semAt_some

def newT : SpS := ⟨⟨0, 0⟩, ⟨0, 0⟩, []⟩
theorem built_space0 : Try.prog.built 92 [] = some (spC newT (.slice none 0 0) (.slice none 0 0)).toArray := by kernel_rfl
set_option maxRecDepth 100000 in
set_option maxHeartbeats 1000000 in
theorem new_any (w : World) : Calls Try.prog 11 #[] w fun e w' => e = .returned (.pointer (some ⟨w.heap.size, 0, none⟩)) ∧ SpM w' w.heap.size w.heap.size (.slice none 0 0) (.slice none 0 0) newT ∧ Below w.heap.size w w' := by
  have hM : SpM (w.alloc (.cells (spC newT (.slice none 0 0) (.slice none 0 0)).toArray 92)) w.heap.size w.heap.size (.slice none 0 0) (.slice none 0 0) newT :=
    ⟨Bx.new w _ _, World.ownsRow_nil _ _ _ _, World.ownsRow_nil _ _ _ _, WF.new, by decide, by simp⟩
  have HM := Lib.hid hM
  have HB := Lib.hid ((Below.refl w.heap.size w).alloc (Nat.le_refl _) (.cells (spC newT (.slice none 0 0) (.slice none 0 0)).toArray 92))
  clear hM
  go_enter Try.func11, Try.ntmps11
  go_wp2_with (refine plV rfl (.agg (spC newT (.slice none 0 0) (.slice none 0 0)).toArray) (by unfold execOp; simp only [List.map_toArray, List.map_nil]; rw [show Try.prog.built _ _ = _ from built_space0]; rfl) ?_)
  go_ret
  exact ⟨rfl, HM.out, HB.out⟩
theorem area_laid {t : SpS} (k : Int) : t.area k = if laidB t k = true then (t.ar k, true) else (⟨0, 0⟩, false) := by
  unfold SpS.area laidB
  by_cases h : (k = 1 ∨ k = 2) ∧ (t.ar k).f ≠ 0
  · rw [if_pos (show decide ((k = 1 ∨ k = 2) ∧ (t.ar k).f ≠ 0) = true from decide_eq_true h), if_neg (show ¬ (k < 1 ∨ 2 < k ∨ (t.ar k).f = 0) by omega)]
  · rw [if_pos (show k < 1 ∨ 2 < k ∨ (t.ar k).f = 0 by omega), if_neg (show ¬ (decide ((k = 1 ∨ k = 2) ∧ (t.ar k).f ≠ 0) = true) from by rw [decide_eq_true_iff]; exact h)]
def arRes (x : Spn × Bool) : Value := .tuple #[sV x.1, .bool x.2]
set_option maxRecDepth 100000 in
set_option maxHeartbeats 2000000 in
theorem area_any {base pt : Nat} {vb vr : Value} {t : SpS} (k : Int) (w : World) (h : SpM w base pt vb vr t) :
    Calls Try.prog 19 #[.pointer (some ⟨pt, 0, none⟩), .int .i64 k] w fun e w' => e = .returned (arRes (t.area k)) ∧ Below w.heap.size w w' := by
  have hb0 : Below w.heap.size w (w.alloc (.cells #[.int .i64 0, .int .i64 0] 27)) := (Below.refl _ _).alloc (Nat.le_refl _) _
  have HX0 := Lib.hid (Bx.new w 27 (sR ⟨0, 0⟩))
  have HB0 := Lib.hid hb0
  have HL := Lib.hid (laid_any k _ (h.up hb0))
  have HM := Lib.hid h
  rw [area_laid]
  cases hl : laidB t k with
  | false =>
    rw [hl] at HL
    rw [if_neg (by simp)]
    clear h hb0 hl
    go_enter Try.func19, Try.ntmps19
    go_wp2_with (go_at_call 51; refine HL.out.mono ?_; rintro e w1 ⟨rfl, b1⟩; refine Hid.out ?_)
    refine Lib.hid ?_
    have HX1 := Lib.hid (HX0.out.up b1)
    have HB1 := Lib.hid (below_up HB0.out b1 HB0.out.size)
    clear b1
    go_wp2_with (refine plS rfl (exec_store_bxK _ (.tmp 4) (.tmp 16) rfl w.heap.size (sR ⟨0, 0⟩) _ rfl rfl HX1.out sp_info rfl (sR_one _)) ?_)
    have HX2 := Lib.hid (HX1.out.row (sR ⟨0, 0⟩))
    have HB2 := Lib.hid (below_row HB1.out (Nat.le_refl _) (sR ⟨0, 0⟩).toArray)
    generalize w1.setRow w.heap.size (sR ⟨0, 0⟩).toArray = WZ at HX2 HB2 ⊢
    have z0 : WZ.cell? ⟨w.heap.size, 0, none⟩ = some (.int .i64 0) := by rw [HX2.out.cell]; rfl
    have z1 : WZ.cell? ⟨w.heap.size, 1, none⟩ = some (.int .i64 0) := by rw [HX2.out.cell]; rfl
    exact bodyPost_ret (v := arRes (⟨0, 0⟩, false)) (by simp [results, Try.results19, go_sem, arRes, sV, sR, z0, z1]) rfl ⟨rfl, HB2.out⟩
  | true =>
    rw [hl] at HL
    rw [if_pos rfl]
    have hl2 := of_decide_eq_true hl
    have HR := Lib.hid (fun W (hW : Below w.heap.size w W) => (show W.rangeAt pt (k.toNat * 2) (sR (t.ar k)) from (by
      have := spC_ar t vb vr k.toNat (by omega) (h.bx.up hW)
      rwa [show ((k.toNat : Nat) : Int) = k by omega] at this)))
    generalize t.ar k = s at *
    have hk2 := hl2.1
    clear h hb0 hl hl2
    rcases hk2 with rfl | rfl
    · go_enter Try.func19, Try.ntmps19
      go_wp2_with (go_at_call 51; refine HL.out.mono ?_; rintro e w1 ⟨rfl, b1⟩; refine Hid.out ?_)
      refine Lib.hid ?_
      have HX1 := Lib.hid (HX0.out.up b1)
      have hbb := below_up HB0.out b1 HB0.out.size
      have HB1 := Lib.hid hbb
      have hr1 : w1.rangeAt pt 2 (sR s) := HR.out _ hbb
      clear b1 hbb
      go_wp2_with (first
        | (refine plV rfl (sV s) (exec_load_any 27 (.tmp 21) rfl pt 2 (sR s) _ rfl hr1 Try.underlying27 rfl sp_info) ?_)
        | (refine plS rfl (exec_store_bxK _ (.tmp 4) (.tmp 22) rfl w.heap.size (sR s) _ rfl rfl HX1.out sp_info rfl (sR_one _)) ?_))
      have HX2 := Lib.hid (HX1.out.row (sR s))
      have HB2 := Lib.hid (below_row HB1.out (Nat.le_refl _) (sR s).toArray)
      generalize w1.setRow w.heap.size (sR s).toArray = WZ at HX2 HB2 ⊢
      have z0 : WZ.cell? ⟨w.heap.size, 0, none⟩ = some (.int .i64 s.f) := by rw [HX2.out.cell]; rfl
      have z1 : WZ.cell? ⟨w.heap.size, 1, none⟩ = some (.int .i64 s.l) := by rw [HX2.out.cell]; rfl
      exact bodyPost_ret (v := arRes (s, true)) (by simp [results, Try.results19, go_sem, arRes, sV, sR, z0, z1]) rfl ⟨rfl, HB2.out⟩
    · go_enter Try.func19, Try.ntmps19
      go_wp2_with (go_at_call 51; refine HL.out.mono ?_; rintro e w1 ⟨rfl, b1⟩; refine Hid.out ?_)
      refine Lib.hid ?_
      have HX1 := Lib.hid (HX0.out.up b1)
      have hbb := below_up HB0.out b1 HB0.out.size
      have HB1 := Lib.hid hbb
      have hr1 : w1.rangeAt pt 4 (sR s) := HR.out _ hbb
      clear b1 hbb
      go_wp2_with (first
        | (refine plV rfl (sV s) (exec_load_any 27 (.tmp 21) rfl pt 4 (sR s) _ rfl hr1 Try.underlying27 rfl sp_info) ?_)
        | (refine plS rfl (exec_store_bxK _ (.tmp 4) (.tmp 22) rfl w.heap.size (sR s) _ rfl rfl HX1.out sp_info rfl (sR_one _)) ?_))
      have HX2 := Lib.hid (HX1.out.row (sR s))
      have HB2 := Lib.hid (below_row HB1.out (Nat.le_refl _) (sR s).toArray)
      generalize w1.setRow w.heap.size (sR s).toArray = WZ at HX2 HB2 ⊢
      have z0 : WZ.cell? ⟨w.heap.size, 0, none⟩ = some (.int .i64 s.f) := by rw [HX2.out.cell]; rfl
      have z1 : WZ.cell? ⟨w.heap.size, 1, none⟩ = some (.int .i64 s.l) := by rw [HX2.out.cell]; rfl
      exact bodyPost_ret (v := arRes (s, true)) (by simp [results, Try.results19, go_sem, arRes, sV, sR, z0, z1]) rfl ⟨rfl, HB2.out⟩
theorem exec_zero_blk {ρ : Operand → Value} {o : Oper} {w : World} (ho : o.op = .buildSlice 44 0 #[]) :
    (execOp ρ o).run Try.prog w = .ok (.value (.slice (some ⟨w.heap.size, 0, none⟩) 0 0)) (w.alloc (.cells #[] 47)) := by
  obtain ⟨i, hi, _, _, _⟩ := info_parts blk_inf12
  have : (Instr.buildSlice 44 0 #[]).run Try.prog w = .ok (.slice (some ⟨w.heap.size, 0, none⟩) 0 0) (w.alloc (.cells #[] 47)) := by simp [Instr.buildSlice, run_underlying (P := Try.prog) Try.underlying44, sizeOf, typeInfo, hi, newRow, Instr.fill]; rw [show (Array.range 0 : Array Nat) = #[] from Array.eq_empty_of_size_eq_zero (by simp), Array.map_empty]
  unfold execOp
  simp only [ho, List.map_toArray, List.map_nil, Sem.run_bind, this, Result.andThen_ok, Sem.run_pure]
set_option maxRecDepth 100000 in
set_option maxHeartbeats 1000000 in
theorem clone_any (v : Value) (l : List Blk) (w : World) (hI : IsK w v l) (hl : l.length ≤ 100000) :
    Calls Try.prog 50 #[v] w fun e w' => ∃ v', e = .returned v' ∧ IsK w' v' l ∧ Below w.heap.size w w' := by
  obtain ⟨a, c, rfl, hc⟩ := hI.form
  have HI := Lib.hid hI
  rcases a with _ | ⟨ab, ao, asp⟩
  · have h0 : l = [] := by
      rcases Nat.eq_zero_or_pos l.length with h | h
      · exact List.eq_nil_of_length_eq_zero h
      · obtain ⟨_, _, _, h4⟩ := hI.shape
        obtain ⟨b, k, e1, _⟩ := h4 h
        cases e1
    subst h0
    clear hI
    simp only [List.length_nil]
    have hq : ∀ W, (binOp .eql 44 (.slice none 0 c) (.slice none 0 0)).run Try.prog W = .ok (.bool true) W := fun W => Lib.run_eql_slice_nil W 44 47 none 0 c 0 0 Try.underlying44
    go_enter Try.func50, Try.ntmps50
    go_wp2
    go_ret
    exact ⟨_, rfl, IsC.nil _, Below.refl _ _⟩
  · have hb0 : Below w.heap.size w (w.alloc (.cells #[] 47)) := (Below.refl _ _).alloc (Nat.le_refl _) _
    have HO0 := Lib.hid (show (w.alloc (.cells #[] 47)).ownsRow w.heap.size 47 4 (.slice (some ⟨w.heap.size, 0, none⟩) 0 0) 0 [] from ⟨rfl, .inr ⟨w.heap.size, 0, #[], rfl, Nat.le_refl _, heap_alloc_new w _, Nat.le_refl _, by decide, rfl, rfl⟩⟩)
    have HI0 := Lib.hid (hI.below hb0)
    have HB0 := Lib.hid hb0
    obtain ⟨ti, hti, htz, hts, htb⟩ := info_parts blk_inf12
    clear hI hb0
    have hq : ∀ W, (binOp .eql 44 (.slice (some ⟨ab, ao, asp⟩) l.length c) (.slice none 0 0)).run Try.prog W = .ok (.bool false) W := fun W => Lib.run_eql_slice_nil W 44 47 (some ⟨ab, ao, asp⟩) l.length c 0 0 Try.underlying44
    go_enter Try.func50, Try.ntmps50
    go_wp2_with (first
      | (refine plV rfl (.slice (some ⟨w.heap.size, 0, none⟩) 0 0) (exec_zero_blk rfl) ?_)
      | (at_builtin; refine append_flat rfl (.tmp 5) (.tmp 6) 44 rfl w.heap.size 47 ti (bV ⟨⟨0, 0⟩, 0, 0⟩) 32 Try.underlying44 hti htz hts htb rfl (by decide) (by decide) _ 0 [] rfl HO0.out _ _ _ l rfl HI0.out (fun y _ => bR_one y) (by omega) (by simp) ?_; intro v1 w1 hown hgr; refine Hid.out ?_))
    refine Lib.hid ?_
    have hI1 : IsK w1 v1 l := IsC.of_owned (base := w.heap.size) (e := 47) (bR_all _) (by simpa using hown)
    obtain ⟨a1, c1, rfl, hc1⟩ := hI1.form
    have HR := Lib.hid (⟨hI1, HB0.out.grown hgr (by simp) (fun k e => owned_low HO0.out k e)⟩ : IsK w1 (.slice a1 l.length c1) l ∧ Below w.heap.size w w1)
    clear hown hgr hI1
    go_wp2
    go_ret
    exact ⟨_, rfl, HR.out⟩
set_option maxRecDepth 100000 in
set_option maxHeartbeats 1000000 in
theorem blocks_any {base pt : Nat} {vb vr : Value} {t : SpS} (w : World) (h : SpM w base pt vb vr t) :
    Calls Try.prog 18 #[.pointer (some ⟨pt, 0, none⟩)] w fun e w' => ∃ v', e = .returned v' ∧ IsK w' v' t.l ∧ Below w.heap.size w w' := by
  have HC := Lib.hid (clone_any vb t.l w h.isK (Nat.le_trans h.len (by decide)))
  have c6 := h.own.1
  obtain ⟨a, cap, rfl, hcap⟩ := h.isK.form
  clear h
  go_enter Try.func18, Try.ntmps18
  go_wp2_with (go_at_call 50; refine HC.out.mono ?_; rintro e w1 ⟨v1, rfl, i1, b1⟩; refine Hid.out ?_)
  refine Lib.hid ?_
  obtain ⟨a1, c1, rfl, hc1⟩ := i1.form
  have HR := Lib.hid (⟨i1, b1⟩ : _ ∧ _)
  clear i1 b1
  go_wp2
  go_ret
  exact ⟨_, rfl, HR.out⟩
set_option maxRecDepth 100000 in
set_option maxHeartbeats 1000000 in
theorem owner_any {base pt : Nat} {vb vr : Value} {t : SpS} (n : Int) (w : World) (h : SpM w base pt vb vr t) :
    Calls Try.prog 13 #[.pointer (some ⟨pt, 0, none⟩), .int .i64 n] w fun e w' => e = .returned (.tuple #[.int .i64 (ownB n t.l).1, .int .i64 (ownB n t.l).2]) ∧ Below w.heap.size w w' := by
  have mixed : Try.prog.follows .mixedOrders = true := by kernel_rfl
  obtain ⟨A, Z, hP⟩ := place_split n h.wf.srt h.may
  have HA := Lib.hid (at_any A Z n hP w h)
  have hown := hP.own h.wf.srt h.may
  obtain ⟨x, hx⟩ : ∃ x : Blk, (atB n Z).getD ⟨⟨0, 0⟩, 0, 0⟩ = x := ⟨_, rfl⟩
  have ho1 : (ownB n t.l).1 = x.o ∧ (ownB n t.l).2 = x.a := by
    rw [hown, ← hx]
    cases atB n Z <;> exact ⟨rfl, rfl⟩
  rw [ho1.1, ho1.2]
  have HX := Lib.hid hx
  obtain ⟨is, his⟩ : ∃ is : Bool, (atB n Z).isSome = is := ⟨_, rfl⟩
  have hra : aRes (atB n Z) = .tuple #[.agg (bR x).toArray, .bool is] := by unfold aRes; rw [hx, his]; rfl
  rw [hra] at HA
  clear hown ho1 hx his hra hP h
  go_enter Try.func13, Try.ntmps13
  go_wp2_with ((go_at_call 46; refine HA.out.mono ?_; rintro e w1 ⟨rfl, b1⟩; refine Hid.out ?_))
  refine Lib.hid ?_
  have HB1 := Lib.hid b1
  have HX1 := Lib.hid (Bx.new w1 47 (bR x))
  have hbn : Below w1.heap.size w1 (w1.alloc (.cells (bR x).toArray 47)) := (Below.refl _ _).alloc (Nat.le_refl _) _
  have HB2 := Lib.hid (below_up b1 (below_up hbn (Below.refl _ _).drew hbn.size) b1.size)
  clear b1 hbn
  go_wp2_with (refine plS rfl (exec_store_fresh _ (.tmp 6) (.tmp 16) rfl (bR x) _ w1.heap.size rfl rfl rfl blk_info rfl (bR_one x)) ?_)
  have HX2 := HX1.out
  generalize w1.alloc (.cells (bR x).toArray 47) = w2 at *
  have c1 : w2.cell? ⟨w1.heap.size, 2, none⟩ = some (.int .i64 x.o) := by rw [HX2.cell]; rfl
  have c2 : w2.cell? ⟨w1.heap.size, 3, none⟩ = some (.int .i64 x.a) := by rw [HX2.cell]; rfl
  clear HX1 HX2
  go_region
  go_wp2
  go_ret2
  exact ⟨rfl, HB2.out⟩
end Go.Proofs.Ytgelbeglffjdaaa
