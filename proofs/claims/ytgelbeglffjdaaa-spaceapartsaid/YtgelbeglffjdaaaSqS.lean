/- Package space: an area given back; the label of a global segment's number; a block freed. Package space: an area given back. -/
import Derived.Test.YtgelbeglffjdaaaSqR
import Derived.Test.YtgelbeglffjdaaaSq9
namespace Go.Proofs.Ytgelbeglffjdaaa
open Go Go.RowKit Go.Shelf
attribute [local go_sem] Oper.semAt_some

set_option maxRecDepth 100000 in
set_option maxHeartbeats 2000000 in
theorem index_any {base pt : Nat} {vb vr : Value} {t : SpS} (n : Int) (hn : -9223372036854775808 ≤ n ∧ n ≤ 9223372036854775807) (w : World) (h : SpM w base pt vb vr t) :
    Calls Try.prog 15 #[.pointer (some ⟨pt, 0, none⟩), .int .i64 n] w fun e w' => e = .returned (.tuple #[.int .i64 (t.index n).1, .bool (t.index n).2]) ∧ Below w.heap.size w w' := by
  have HA := Lib.hid (area_any 1 w h)
  obtain ⟨x, hx⟩ : ∃ x : Spn × Bool, t.area 1 = x := ⟨_, rfl⟩
  have hix : t.index n = if x.2 = false ∨ n < 0 ∨ x.1.l - x.1.f < n then (0, false) else (x.1.f + n, true) := by
    rw [← hx]
    by_cases h0 : t.a1.f = 0
    · have e1 : t.area 1 = (⟨0, 0⟩, false) := by unfold SpS.area; rw [if_pos (show (1 : Int) < 1 ∨ (2 : Int) < 1 ∨ (t.ar 1).f = 0 from .inr (.inr h0))]
      unfold SpS.index
      rw [e1, if_pos (.inl h0), if_pos (.inl rfl)]
    · have e1 : t.area 1 = (t.a1, true) := by
        unfold SpS.area
        rw [if_neg (show ¬ ((1 : Int) < 1 ∨ (2 : Int) < 1 ∨ (t.ar 1).f = 0) from by rintro (h | h | h); omega; omega; exact h0 h)]
        rfl
      unfold SpS.index
      rw [e1]
      by_cases h1 : n < 0 ∨ t.a1.l - t.a1.f < n
      · rw [if_pos (show t.a1.f = 0 ∨ n < 0 ∨ t.a1.l - t.a1.f < n from .inr h1), if_pos (show true = false ∨ n < 0 ∨ t.a1.l - t.a1.f < n from .inr h1)]
      · rw [if_neg (show ¬ (t.a1.f = 0 ∨ n < 0 ∨ t.a1.l - t.a1.f < n) by omega), if_neg (show ¬ (true = false ∨ n < 0 ∨ t.a1.l - t.a1.f < n) by rintro (h | h); cases h; exact h1 h)]
  have hb : x.2 = true → 16 ≤ x.1.f ∧ x.1.f ≤ x.1.l ∧ x.1.l ≤ 1048575 := fun he => by
    rw [← hx, area_laid] at he ⊢
    split at he
    · rename_i hl
      rw [if_pos hl]
      have := of_decide_eq_true hl
      rcases okAr h.wf 1 with h9 | h9
      · rw [h9] at this; exact absurd rfl this.2
      · exact h9
    · cases he
  rw [hx] at HA
  rw [hix]
  obtain ⟨s, is⟩ := x
  have hra : arRes (s, is) = .tuple #[.agg (sR s).toArray, .bool is] := rfl
  rw [hra] at HA
  simp only at hb
  clear hx hix hra h
  cases is with
  | false =>
    rw [if_pos (.inl rfl)]
    clear hb
    go_enter Try.func15, Try.ntmps15
    go_wp2_with (go_at_call 19; refine HA.out.mono ?_; rintro e w1 ⟨rfl, b1⟩; refine Hid.out ?_)
    refine Lib.hid ?_
    have HB := Lib.hid (below_up b1 ((Below.refl w1.heap.size w1).alloc (Nat.le_refl _) (.cells (sR s).toArray 27)) b1.size)
    clear b1
    go_wp2_with (refine plS rfl (exec_store_fresh _ (.tmp 6) (.tmp 11) rfl (sR s) _ w1.heap.size rfl rfl rfl sp_info rfl (sR_one s)) ?_)
    go_ret2
    exact ⟨rfl, HB.out⟩
  | true =>
    obtain ⟨hb1, hb2, hb3⟩ := hb rfl
    have k1 : IntKind.i64.wrap (s.l - s.f) = s.l - s.f := by simp [IntKind.wrap, IntKind.bits, IntKind.signed]; omega
    by_cases hc : n < 0 ∨ s.l - s.f < n
    · rw [if_pos (by rcases hc with h1 | h1; exact .inr (.inl h1); exact .inr (.inr h1))]
      clear hb
      go_enter Try.func15, Try.ntmps15
      go_wp2_with (go_at_call 19; refine HA.out.mono ?_; rintro e w1 ⟨rfl, b1⟩; refine Hid.out ?_)
      refine Lib.hid ?_
      have HB := Lib.hid (below_up b1 ((Below.refl w1.heap.size w1).alloc (Nat.le_refl _) (.cells (sR s).toArray 27)) b1.size)
      have hr := rangeAll (Bx.new w1 27 (sR s))
      have x0 := rng0 hr
      have x1 := rng1 hr
      simp only [Nat.zero_add] at x1
      clear b1 hr
      go_wp2_with (refine plS rfl (exec_store_fresh _ (.tmp 6) (.tmp 11) rfl (sR s) _ w1.heap.size rfl rfl rfl sp_info rfl (sR_one s)) ?_)
      all_goals first
        | (go_ret2; exact ⟨rfl, HB.out⟩)
        | (exfalso; omega)
    · rw [if_neg (show ¬ (true = false ∨ n < 0 ∨ s.l - s.f < n) by rintro (h | h); cases h; exact hc h)]
      have k2 : IntKind.i64.wrap (s.f + n) = s.f + n := by simp [IntKind.wrap, IntKind.bits, IntKind.signed]; omega
      have hn0 : ¬ n < 0 := by omega
      have hn1 : ¬ s.l - s.f < n := by omega
      clear hb hc
      go_enter Try.func15, Try.ntmps15
      go_wp2_with (go_at_call 19; refine HA.out.mono ?_; rintro e w1 ⟨rfl, b1⟩; refine Hid.out ?_)
      refine Lib.hid ?_
      have HB := Lib.hid (below_up b1 ((Below.refl w1.heap.size w1).alloc (Nat.le_refl _) (.cells (sR s).toArray 27)) b1.size)
      have hr := rangeAll (Bx.new w1 27 (sR s))
      have x0 := rng0 hr
      have x1 := rng1 hr
      simp only [Nat.zero_add] at x1
      clear b1 hr
      go_wp2_with (refine plS rfl (exec_store_fresh _ (.tmp 6) (.tmp 11) rfl (sR s) _ w1.heap.size rfl rfl rfl sp_info rfl (sR_one s)) ?_)
      go_ret2
      exact ⟨rfl, HB.out⟩
end Go.Proofs.Ytgelbeglffjdaaa
namespace Go.Proofs.Ytgelbeglffjdaaa
open Go Go.RowKit Go.Shelf
attribute [local go_sem] Oper.semAt_some

def HeldQb (pt o : Nat) (s : Spn) (W : World) : Prop := W.rangeAt pt o (sR s)
theorem laidB_ne {t : SpS} {k : Int} (hk : k = 1 ∨ k = 2) : laidB t k = !decide ((t.ar k).f = 0) := by
  unfold laidB
  rw [← decide_not, decide_eq_decide]
  exact ⟨fun h => h.2, fun h => ⟨hk, h⟩⟩
set_option maxRecDepth 100000 in
set_option maxHeartbeats 2000000 in
theorem close_any {base pt : Nat} {vb vr : Value} {t : SpS} (k : Int) (w : World) (h : SpM w base pt vb vr t) :
    Calls Try.prog 40 #[.pointer (some ⟨pt, 0, none⟩), .int .i64 k] w fun e w' => e = .returned (.int .i64 (t.close k).2) ∧ SpTo w w' base pt vb vr (t.close k).1 := by
  have mixed : Try.prog.follows .mixedOrders = true := by kernel_rfl
  have HM := Lib.hid h
  have HN := Lib.hid (fun W => named_any k W)
  have HWF := Lib.hid (h.wf.close k)
  have HS := Lib.hid (fun W (hW : Below w.heap.size w W) => SpTo.same h hW)
  unfold SpS.close at HWF ⊢
  by_cases hk : k = 1 ∨ k = 2
  · rw [if_neg (show ¬ (k < 1 ∨ 2 < k) by omega)] at HWF ⊢
    rw [decide_eq_true hk] at HN
    have HLA := Lib.hid (fun W (hW : Below w.heap.size w W) => laid_any k W (h.up hW))
    rw [laidB_ne hk] at HLA
    by_cases hf : (t.ar k).f = 0
    · rw [if_pos hf]
      rw [decide_eq_true hf] at HLA
      clear h hk HWF hf
      go_enter Try.func40, Try.ntmps40
      go_wp2_with (go_at_call 57; refine (HN.out _).mono ?_; rintro e w1 ⟨rfl, b1⟩; refine Hid.out ?_)
      refine Lib.hid ?_
      have HB1 := Lib.hid b1
      clear b1
      go_wp2_with (go_at_call 51; refine (HLA.out _ HB1.out).mono ?_; rintro e w2 ⟨rfl, b2⟩; refine Hid.out ?_)
      refine Lib.hid ?_
      have HR := Lib.hid (HS.out _ (below_up HB1.out b2 HB1.out.size))
      clear b2
      go_wp2
      go_ret
      exact ⟨rfl, HR.out⟩
    · rw [if_neg hf] at HWF ⊢
      rw [decide_eq_false hf] at HLA
      have hmo : mayO (t.ar k) := by
        rcases okAr h.wf k with h9 | h9
        · rw [h9] at hf; exact absurd rfl hf
        · exact h9
      have HME := Lib.hid (fun W (hW : Below w.heap.size w W) => meets_any (t.ar k) hmo W (h.up hW))
      rw [busy_meets h.wf hk hf] at HME
      have HSA := Lib.hid (fun W (hW : Below w.heap.size w W) => (show W.rangeAt pt (k.toNat * 2) (sR (t.ar k)) from (by
        have := spC_ar t vb vr k.toNat (by omega) (h.bx.up hW)
        rwa [show ((k.toNat : Nat) : Int) = k by omega] at this)))
      cases hany : (t.l.any fun b => decide (b.a = k)) with
      | true =>
        rw [hany] at HME
        rw [if_pos rfl]
        generalize t.ar k = s at *
        clear h hf hmo HWF hany
        rcases hk with rfl | rfl
        · go_enter Try.func40, Try.ntmps40
          go_wp2_with (go_at_call 57; refine (HN.out _).mono ?_; rintro e w1 ⟨rfl, b1⟩; refine Hid.out ?_)
          refine Lib.hid ?_
          have HB1 := Lib.hid b1
          clear b1
          go_wp2_with (go_at_call 51; refine (HLA.out _ HB1.out).mono ?_; rintro e w2 ⟨rfl, b2⟩; refine Hid.out ?_)
          refine Lib.hid ?_
          have hb2 := below_up HB1.out b2 HB1.out.size
          have hM2 := HM.out.up (below_up hb2 (Below.refl _ _).drew hb2.size)
          have HB2 := Lib.hid (below_up hb2 (Below.refl _ _).drew hb2.size)
          clear b2 hb2
          go_wp2
          have hH : HeldQb pt 2 s w2.drew := HSA.out _ HB2.out
          refine wp_region_noPanic ?_
          refine wp_region_held_drew (S := HeldQb pt 2 s) (by kernel_rfl) hH (fun hHeld => ?_)
          generalize w2.drew = wd at *
          refine held_take (v := ?v168) 0 rfl (by kernel_rfl) (by kernel_rfl) (by kernel_rfl) (fun _ _ _ h => h) (by rfl) ?y168 (by assumption) ?_
          case y168 => (intro w hSw; unfold HeldQb at hSw; go_simp; (try with_reducible rfl); (try omega))
          simp only [List.setIfInBounds_toArray, List.set_cons_zero, List.set_cons_succ]
          refine held_take (v := ?v171) 1 rfl (by kernel_rfl) (by kernel_rfl) (by kernel_rfl) (fun _ _ _ h => h) (by rfl) ?y171 (by assumption) ?_
          case y171 => (intro w hSw; unfold HeldQb at hSw; go_simp; (try with_reducible rfl); (try omega))
          simp only [List.setIfInBounds_toArray, List.set_cons_zero, List.set_cons_succ]
          refine held_take (v := ?v174) 2 rfl (by kernel_rfl) (by kernel_rfl) (by kernel_rfl) (fun _ _ _ h => h) (by rfl) ?y174 (by assumption) ?_
          case y174 => (intro w hSw; unfold HeldQb at hSw; go_simp; (try with_reducible rfl); (try omega))
          simp only [List.setIfInBounds_toArray, List.set_cons_zero, List.set_cons_succ]
          refine held_take (v := ?v177) 3 rfl (by kernel_rfl) (by kernel_rfl) (by kernel_rfl) (fun _ _ _ h => h) (by rfl) ?y177 (by assumption) ?_
          case y177 => (intro w hSw; unfold HeldQb at hSw; go_simp; (try with_reducible rfl); (try omega))
          simp only [List.setIfInBounds_toArray, List.set_cons_zero, List.set_cons_succ]
          refine held_take (v := ?v180) 4 rfl (by kernel_rfl) (by kernel_rfl) (by kernel_rfl) (fun _ _ _ h => h) (by rfl) ?y180 (by assumption) ?_
          case y180 => (intro w hSw; unfold HeldQb at hSw; go_simp; (try with_reducible rfl); (try omega))
          simp only [List.setIfInBounds_toArray, List.set_cons_zero, List.set_cons_succ]
          refine held_take (v := ?v183) 5 rfl (by kernel_rfl) (by kernel_rfl) (by kernel_rfl) (fun _ _ _ h => h) (by rfl) ?y183 (by assumption) ?_
          case y183 => (intro w hSw; unfold HeldQb at hSw; go_simp; (try with_reducible rfl); (try omega))
          simp only [List.setIfInBounds_toArray, List.set_cons_zero, List.set_cons_succ]
          refine held_take (v := ?v186) 6 rfl (by kernel_rfl) (by kernel_rfl) (by kernel_rfl) (fun _ _ _ h => h) (by rfl) ?y186 (by assumption) ?_
          case y186 => (intro w hSw; unfold HeldQb at hSw; go_simp; (try with_reducible rfl); (try omega))
          simp only [List.setIfInBounds_toArray, List.set_cons_zero, List.set_cons_succ]
          refine held_take (v := ?v189) 7 rfl (by kernel_rfl) (by kernel_rfl) (by kernel_rfl) (fun _ _ _ h => h) (by rfl) ?y189 (by assumption) ?_
          case y189 => (intro w hSw; unfold HeldQb at hSw; go_simp; (try with_reducible rfl); (try omega))
          simp only [List.setIfInBounds_toArray, List.set_cons_zero, List.set_cons_succ]
          refine held_take (v := sV s) 8 rfl (by kernel_rfl) (by kernel_rfl) (by kernel_rfl) (fun _ _ _ h => h) (by rfl) (fun W hSw => exec_load_any _ (.tmp 28) rfl pt 2 (sR s) _ rfl hSw Try.underlying27 rfl sp_info) (by assumption) ?_
          simp only [List.setIfInBounds_toArray, List.set_cons_zero, List.set_cons_succ]
          refine held_one 9 rfl (by kernel_rfl) (by rfl) (fun K hK => ?_)
          go_simp
          refine (HME.out _ HB2.out).mono ?_
          rintro e w3 ⟨rfl, b3⟩
          have HB3 := Lib.hid (below_up HB2.out b3 HB2.out.size)
          refine hK.out _ _ (HSA.out _ HB3.out) (fun _ => ?_)
          (try simp only [Act.put, List.setIfInBounds_toArray, List.set_cons_zero, List.set_cons_succ])
          clear hK K b3 hM2 hH hHeld
          refine held_take (v := ?v202) 10 rfl (by kernel_rfl) (by kernel_rfl) (by kernel_rfl) (fun _ _ _ h => h) (by rfl) ?y202 (by assumption) ?_
          case y202 => (intro w hSw; unfold HeldQb at hSw; go_simp; (try with_reducible rfl); (try omega))
          simp only [List.setIfInBounds_toArray, List.set_cons_zero, List.set_cons_succ]
          refine wpAnyH_done (by kernel_rfl) ?_ _
          refine NoPanic.normal ?_
          have HR := Lib.hid (HS.out _ HB3.out)
          go_wp2
          go_ret
          exact ⟨rfl, HR.out⟩
        · go_enter Try.func40, Try.ntmps40
          go_wp2_with (go_at_call 57; refine (HN.out _).mono ?_; rintro e w1 ⟨rfl, b1⟩; refine Hid.out ?_)
          refine Lib.hid ?_
          have HB1 := Lib.hid b1
          clear b1
          go_wp2_with (go_at_call 51; refine (HLA.out _ HB1.out).mono ?_; rintro e w2 ⟨rfl, b2⟩; refine Hid.out ?_)
          refine Lib.hid ?_
          have hb2 := below_up HB1.out b2 HB1.out.size
          have hM2 := HM.out.up (below_up hb2 (Below.refl _ _).drew hb2.size)
          have HB2 := Lib.hid (below_up hb2 (Below.refl _ _).drew hb2.size)
          clear b2 hb2
          go_wp2
          have hH : HeldQb pt 4 s w2.drew := HSA.out _ HB2.out
          refine wp_region_noPanic ?_
          refine wp_region_held_drew (S := HeldQb pt 4 s) (by kernel_rfl) hH (fun hHeld => ?_)
          generalize w2.drew = wd at *
          refine held_take (v := ?v227) 0 rfl (by kernel_rfl) (by kernel_rfl) (by kernel_rfl) (fun _ _ _ h => h) (by rfl) ?y227 (by assumption) ?_
          case y227 => (intro w hSw; unfold HeldQb at hSw; go_simp; (try with_reducible rfl); (try omega))
          simp only [List.setIfInBounds_toArray, List.set_cons_zero, List.set_cons_succ]
          refine held_take (v := ?v230) 1 rfl (by kernel_rfl) (by kernel_rfl) (by kernel_rfl) (fun _ _ _ h => h) (by rfl) ?y230 (by assumption) ?_
          case y230 => (intro w hSw; unfold HeldQb at hSw; go_simp; (try with_reducible rfl); (try omega))
          simp only [List.setIfInBounds_toArray, List.set_cons_zero, List.set_cons_succ]
          refine held_take (v := ?v233) 2 rfl (by kernel_rfl) (by kernel_rfl) (by kernel_rfl) (fun _ _ _ h => h) (by rfl) ?y233 (by assumption) ?_
          case y233 => (intro w hSw; unfold HeldQb at hSw; go_simp; (try with_reducible rfl); (try omega))
          simp only [List.setIfInBounds_toArray, List.set_cons_zero, List.set_cons_succ]
          refine held_take (v := ?v236) 3 rfl (by kernel_rfl) (by kernel_rfl) (by kernel_rfl) (fun _ _ _ h => h) (by rfl) ?y236 (by assumption) ?_
          case y236 => (intro w hSw; unfold HeldQb at hSw; go_simp; (try with_reducible rfl); (try omega))
          simp only [List.setIfInBounds_toArray, List.set_cons_zero, List.set_cons_succ]
          refine held_take (v := ?v239) 4 rfl (by kernel_rfl) (by kernel_rfl) (by kernel_rfl) (fun _ _ _ h => h) (by rfl) ?y239 (by assumption) ?_
          case y239 => (intro w hSw; unfold HeldQb at hSw; go_simp; (try with_reducible rfl); (try omega))
          simp only [List.setIfInBounds_toArray, List.set_cons_zero, List.set_cons_succ]
          refine held_take (v := ?v242) 5 rfl (by kernel_rfl) (by kernel_rfl) (by kernel_rfl) (fun _ _ _ h => h) (by rfl) ?y242 (by assumption) ?_
          case y242 => (intro w hSw; unfold HeldQb at hSw; go_simp; (try with_reducible rfl); (try omega))
          simp only [List.setIfInBounds_toArray, List.set_cons_zero, List.set_cons_succ]
          refine held_take (v := ?v245) 6 rfl (by kernel_rfl) (by kernel_rfl) (by kernel_rfl) (fun _ _ _ h => h) (by rfl) ?y245 (by assumption) ?_
          case y245 => (intro w hSw; unfold HeldQb at hSw; go_simp; (try with_reducible rfl); (try omega))
          simp only [List.setIfInBounds_toArray, List.set_cons_zero, List.set_cons_succ]
          refine held_take (v := ?v248) 7 rfl (by kernel_rfl) (by kernel_rfl) (by kernel_rfl) (fun _ _ _ h => h) (by rfl) ?y248 (by assumption) ?_
          case y248 => (intro w hSw; unfold HeldQb at hSw; go_simp; (try with_reducible rfl); (try omega))
          simp only [List.setIfInBounds_toArray, List.set_cons_zero, List.set_cons_succ]
          refine held_take (v := sV s) 8 rfl (by kernel_rfl) (by kernel_rfl) (by kernel_rfl) (fun _ _ _ h => h) (by rfl) (fun W hSw => exec_load_any _ (.tmp 28) rfl pt 4 (sR s) _ rfl hSw Try.underlying27 rfl sp_info) (by assumption) ?_
          simp only [List.setIfInBounds_toArray, List.set_cons_zero, List.set_cons_succ]
          refine held_one 9 rfl (by kernel_rfl) (by rfl) (fun K hK => ?_)
          go_simp
          refine (HME.out _ HB2.out).mono ?_
          rintro e w3 ⟨rfl, b3⟩
          have HB3 := Lib.hid (below_up HB2.out b3 HB2.out.size)
          refine hK.out _ _ (HSA.out _ HB3.out) (fun _ => ?_)
          (try simp only [Act.put, List.setIfInBounds_toArray, List.set_cons_zero, List.set_cons_succ])
          clear hK K b3 hM2 hH hHeld
          refine held_take (v := ?v261) 10 rfl (by kernel_rfl) (by kernel_rfl) (by kernel_rfl) (fun _ _ _ h => h) (by rfl) ?y261 (by assumption) ?_
          case y261 => (intro w hSw; unfold HeldQb at hSw; go_simp; (try with_reducible rfl); (try omega))
          simp only [List.setIfInBounds_toArray, List.set_cons_zero, List.set_cons_succ]
          refine wpAnyH_done (by kernel_rfl) ?_ _
          refine NoPanic.normal ?_
          have HR := Lib.hid (HS.out _ HB3.out)
          go_wp2
          go_ret
          exact ⟨rfl, HR.out⟩
      | false =>
        rw [hany] at HME HWF
        rw [if_neg (by simp)] at HWF ⊢
        have HT := Lib.hid (fun W (hW : Below w.heap.size w W) => SpTo.area h hW k.toNat (by omega) ⟨0, 0⟩ (by rw [show ((k.toNat : Nat) : Int) = k by omega]; exact HWF.out))
        rw [show ((k.toNat : Nat) : Int) = k by omega] at HT
        generalize t.ar k = s at *
        clear h hf hmo HWF hany
        rcases hk with rfl | rfl
        · go_enter Try.func40, Try.ntmps40
          go_wp2_with (go_at_call 57; refine (HN.out _).mono ?_; rintro e w1 ⟨rfl, b1⟩; refine Hid.out ?_)
          refine Lib.hid ?_
          have HB1 := Lib.hid b1
          clear b1
          go_wp2_with (go_at_call 51; refine (HLA.out _ HB1.out).mono ?_; rintro e w2 ⟨rfl, b2⟩; refine Hid.out ?_)
          refine Lib.hid ?_
          have hb2 := below_up HB1.out b2 HB1.out.size
          have hM2 := HM.out.up (below_up hb2 (Below.refl _ _).drew hb2.size)
          have HB2 := Lib.hid (below_up hb2 (Below.refl _ _).drew hb2.size)
          clear b2 hb2
          go_wp2
          have hH : HeldQb pt 2 s w2.drew := HSA.out _ HB2.out
          refine wp_region_noPanic ?_
          refine wp_region_held_drew (S := HeldQb pt 2 s) (by kernel_rfl) hH (fun hHeld => ?_)
          generalize w2.drew = wd at *
          refine held_take (v := ?v294) 0 rfl (by kernel_rfl) (by kernel_rfl) (by kernel_rfl) (fun _ _ _ h => h) (by rfl) ?y294 (by assumption) ?_
          case y294 => (intro w hSw; unfold HeldQb at hSw; go_simp; (try with_reducible rfl); (try omega))
          simp only [List.setIfInBounds_toArray, List.set_cons_zero, List.set_cons_succ]
          refine held_take (v := ?v297) 1 rfl (by kernel_rfl) (by kernel_rfl) (by kernel_rfl) (fun _ _ _ h => h) (by rfl) ?y297 (by assumption) ?_
          case y297 => (intro w hSw; unfold HeldQb at hSw; go_simp; (try with_reducible rfl); (try omega))
          simp only [List.setIfInBounds_toArray, List.set_cons_zero, List.set_cons_succ]
          refine held_take (v := ?v300) 2 rfl (by kernel_rfl) (by kernel_rfl) (by kernel_rfl) (fun _ _ _ h => h) (by rfl) ?y300 (by assumption) ?_
          case y300 => (intro w hSw; unfold HeldQb at hSw; go_simp; (try with_reducible rfl); (try omega))
          simp only [List.setIfInBounds_toArray, List.set_cons_zero, List.set_cons_succ]
          refine held_take (v := ?v303) 3 rfl (by kernel_rfl) (by kernel_rfl) (by kernel_rfl) (fun _ _ _ h => h) (by rfl) ?y303 (by assumption) ?_
          case y303 => (intro w hSw; unfold HeldQb at hSw; go_simp; (try with_reducible rfl); (try omega))
          simp only [List.setIfInBounds_toArray, List.set_cons_zero, List.set_cons_succ]
          refine held_take (v := ?v306) 4 rfl (by kernel_rfl) (by kernel_rfl) (by kernel_rfl) (fun _ _ _ h => h) (by rfl) ?y306 (by assumption) ?_
          case y306 => (intro w hSw; unfold HeldQb at hSw; go_simp; (try with_reducible rfl); (try omega))
          simp only [List.setIfInBounds_toArray, List.set_cons_zero, List.set_cons_succ]
          refine held_take (v := ?v309) 5 rfl (by kernel_rfl) (by kernel_rfl) (by kernel_rfl) (fun _ _ _ h => h) (by rfl) ?y309 (by assumption) ?_
          case y309 => (intro w hSw; unfold HeldQb at hSw; go_simp; (try with_reducible rfl); (try omega))
          simp only [List.setIfInBounds_toArray, List.set_cons_zero, List.set_cons_succ]
          refine held_take (v := ?v312) 6 rfl (by kernel_rfl) (by kernel_rfl) (by kernel_rfl) (fun _ _ _ h => h) (by rfl) ?y312 (by assumption) ?_
          case y312 => (intro w hSw; unfold HeldQb at hSw; go_simp; (try with_reducible rfl); (try omega))
          simp only [List.setIfInBounds_toArray, List.set_cons_zero, List.set_cons_succ]
          refine held_take (v := ?v315) 7 rfl (by kernel_rfl) (by kernel_rfl) (by kernel_rfl) (fun _ _ _ h => h) (by rfl) ?y315 (by assumption) ?_
          case y315 => (intro w hSw; unfold HeldQb at hSw; go_simp; (try with_reducible rfl); (try omega))
          simp only [List.setIfInBounds_toArray, List.set_cons_zero, List.set_cons_succ]
          refine held_take (v := sV s) 8 rfl (by kernel_rfl) (by kernel_rfl) (by kernel_rfl) (fun _ _ _ h => h) (by rfl) (fun W hSw => exec_load_any _ (.tmp 28) rfl pt 2 (sR s) _ rfl hSw Try.underlying27 rfl sp_info) (by assumption) ?_
          simp only [List.setIfInBounds_toArray, List.set_cons_zero, List.set_cons_succ]
          refine held_one 9 rfl (by kernel_rfl) (by rfl) (fun K hK => ?_)
          go_simp
          refine (HME.out _ HB2.out).mono ?_
          rintro e w3 ⟨rfl, b3⟩
          have HB3 := Lib.hid (below_up HB2.out b3 HB2.out.size)
          refine hK.out _ _ (HSA.out _ HB3.out) (fun _ => ?_)
          (try simp only [Act.put, List.setIfInBounds_toArray, List.set_cons_zero, List.set_cons_succ])
          clear hK K b3 hM2 hH hHeld
          refine held_take (v := ?v328) 10 rfl (by kernel_rfl) (by kernel_rfl) (by kernel_rfl) (fun _ _ _ h => h) (by rfl) ?y328 (by assumption) ?_
          case y328 => (intro w hSw; unfold HeldQb at hSw; go_simp; (try with_reducible rfl); (try omega))
          simp only [List.setIfInBounds_toArray, List.set_cons_zero, List.set_cons_succ]
          refine wpAnyH_done (by kernel_rfl) ?_ _
          refine NoPanic.normal ?_
          have hM3 := HM.out.up HB3.out
          have y2 : w3.cell? ⟨pt, 2, none⟩ = some (.int .i64 t.a1.f) := by rw [hM3.bx.cell]; rfl
          have y3 : w3.cell? ⟨pt, 3, none⟩ = some (.int .i64 t.a1.l) := by rw [hM3.bx.cell]; rfl
          have z2 := hM3.bx.frozen 2
          have z3 := hM3.bx.frozen 3
          have HR := Lib.hid (HT.out _ HB3.out)
          clear hM3
          go_wp2
          go_ret
          exact ⟨rfl, HR.out⟩
        · go_enter Try.func40, Try.ntmps40
          go_wp2_with (go_at_call 57; refine (HN.out _).mono ?_; rintro e w1 ⟨rfl, b1⟩; refine Hid.out ?_)
          refine Lib.hid ?_
          have HB1 := Lib.hid b1
          clear b1
          go_wp2_with (go_at_call 51; refine (HLA.out _ HB1.out).mono ?_; rintro e w2 ⟨rfl, b2⟩; refine Hid.out ?_)
          refine Lib.hid ?_
          have hb2 := below_up HB1.out b2 HB1.out.size
          have hM2 := HM.out.up (below_up hb2 (Below.refl _ _).drew hb2.size)
          have HB2 := Lib.hid (below_up hb2 (Below.refl _ _).drew hb2.size)
          clear b2 hb2
          go_wp2
          have hH : HeldQb pt 4 s w2.drew := HSA.out _ HB2.out
          refine wp_region_noPanic ?_
          refine wp_region_held_drew (S := HeldQb pt 4 s) (by kernel_rfl) hH (fun hHeld => ?_)
          generalize w2.drew = wd at *
          refine held_take (v := ?v359) 0 rfl (by kernel_rfl) (by kernel_rfl) (by kernel_rfl) (fun _ _ _ h => h) (by rfl) ?y359 (by assumption) ?_
          case y359 => (intro w hSw; unfold HeldQb at hSw; go_simp; (try with_reducible rfl); (try omega))
          simp only [List.setIfInBounds_toArray, List.set_cons_zero, List.set_cons_succ]
          refine held_take (v := ?v362) 1 rfl (by kernel_rfl) (by kernel_rfl) (by kernel_rfl) (fun _ _ _ h => h) (by rfl) ?y362 (by assumption) ?_
          case y362 => (intro w hSw; unfold HeldQb at hSw; go_simp; (try with_reducible rfl); (try omega))
          simp only [List.setIfInBounds_toArray, List.set_cons_zero, List.set_cons_succ]
          refine held_take (v := ?v365) 2 rfl (by kernel_rfl) (by kernel_rfl) (by kernel_rfl) (fun _ _ _ h => h) (by rfl) ?y365 (by assumption) ?_
          case y365 => (intro w hSw; unfold HeldQb at hSw; go_simp; (try with_reducible rfl); (try omega))
          simp only [List.setIfInBounds_toArray, List.set_cons_zero, List.set_cons_succ]
          refine held_take (v := ?v368) 3 rfl (by kernel_rfl) (by kernel_rfl) (by kernel_rfl) (fun _ _ _ h => h) (by rfl) ?y368 (by assumption) ?_
          case y368 => (intro w hSw; unfold HeldQb at hSw; go_simp; (try with_reducible rfl); (try omega))
          simp only [List.setIfInBounds_toArray, List.set_cons_zero, List.set_cons_succ]
          refine held_take (v := ?v371) 4 rfl (by kernel_rfl) (by kernel_rfl) (by kernel_rfl) (fun _ _ _ h => h) (by rfl) ?y371 (by assumption) ?_
          case y371 => (intro w hSw; unfold HeldQb at hSw; go_simp; (try with_reducible rfl); (try omega))
          simp only [List.setIfInBounds_toArray, List.set_cons_zero, List.set_cons_succ]
          refine held_take (v := ?v374) 5 rfl (by kernel_rfl) (by kernel_rfl) (by kernel_rfl) (fun _ _ _ h => h) (by rfl) ?y374 (by assumption) ?_
          case y374 => (intro w hSw; unfold HeldQb at hSw; go_simp; (try with_reducible rfl); (try omega))
          simp only [List.setIfInBounds_toArray, List.set_cons_zero, List.set_cons_succ]
          refine held_take (v := ?v377) 6 rfl (by kernel_rfl) (by kernel_rfl) (by kernel_rfl) (fun _ _ _ h => h) (by rfl) ?y377 (by assumption) ?_
          case y377 => (intro w hSw; unfold HeldQb at hSw; go_simp; (try with_reducible rfl); (try omega))
          simp only [List.setIfInBounds_toArray, List.set_cons_zero, List.set_cons_succ]
          refine held_take (v := ?v380) 7 rfl (by kernel_rfl) (by kernel_rfl) (by kernel_rfl) (fun _ _ _ h => h) (by rfl) ?y380 (by assumption) ?_
          case y380 => (intro w hSw; unfold HeldQb at hSw; go_simp; (try with_reducible rfl); (try omega))
          simp only [List.setIfInBounds_toArray, List.set_cons_zero, List.set_cons_succ]
          refine held_take (v := sV s) 8 rfl (by kernel_rfl) (by kernel_rfl) (by kernel_rfl) (fun _ _ _ h => h) (by rfl) (fun W hSw => exec_load_any _ (.tmp 28) rfl pt 4 (sR s) _ rfl hSw Try.underlying27 rfl sp_info) (by assumption) ?_
          simp only [List.setIfInBounds_toArray, List.set_cons_zero, List.set_cons_succ]
          refine held_one 9 rfl (by kernel_rfl) (by rfl) (fun K hK => ?_)
          go_simp
          refine (HME.out _ HB2.out).mono ?_
          rintro e w3 ⟨rfl, b3⟩
          have HB3 := Lib.hid (below_up HB2.out b3 HB2.out.size)
          refine hK.out _ _ (HSA.out _ HB3.out) (fun _ => ?_)
          (try simp only [Act.put, List.setIfInBounds_toArray, List.set_cons_zero, List.set_cons_succ])
          clear hK K b3 hM2 hH hHeld
          refine held_take (v := ?v393) 10 rfl (by kernel_rfl) (by kernel_rfl) (by kernel_rfl) (fun _ _ _ h => h) (by rfl) ?y393 (by assumption) ?_
          case y393 => (intro w hSw; unfold HeldQb at hSw; go_simp; (try with_reducible rfl); (try omega))
          simp only [List.setIfInBounds_toArray, List.set_cons_zero, List.set_cons_succ]
          refine wpAnyH_done (by kernel_rfl) ?_ _
          refine NoPanic.normal ?_
          have hM3 := HM.out.up HB3.out
          have y2 : w3.cell? ⟨pt, 4, none⟩ = some (.int .i64 t.a2.f) := by rw [hM3.bx.cell]; rfl
          have y3 : w3.cell? ⟨pt, 5, none⟩ = some (.int .i64 t.a2.l) := by rw [hM3.bx.cell]; rfl
          have z2 := hM3.bx.frozen 4
          have z3 := hM3.bx.frozen 5
          have HR := Lib.hid (HT.out _ HB3.out)
          clear hM3
          go_wp2
          go_ret
          exact ⟨rfl, HR.out⟩
  · rw [if_pos (show k < 1 ∨ 2 < k by omega)]
    rw [decide_eq_false hk] at HN
    clear h HWF
    go_enter Try.func40, Try.ntmps40
    go_wp2_with (go_at_call 57; refine (HN.out _).mono ?_; rintro e w1 ⟨rfl, b1⟩; refine Hid.out ?_)
    refine Lib.hid ?_
    have HR := Lib.hid (HS.out _ b1)
    clear b1
    go_wp2
    go_ret
    exact ⟨rfl, HR.out⟩
end Go.Proofs.Ytgelbeglffjdaaa
