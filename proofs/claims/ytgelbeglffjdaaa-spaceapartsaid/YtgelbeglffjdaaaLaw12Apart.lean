/- SpaceApart: whatever was done, blocks are disjoint, each lies in its area, or in none, and none of them is left; all labels are owned, or left, just once. -/
import Derived.Test.YtgelbeglffjdaaaRun12
import Derived.Deep.CutRange
namespace Go.Proofs.Ytgelbeglffjdaaa
open Go Go.RowKit Go.Shelf
attribute [local go_sem] Oper.semAt_some

theorem sumB_snoc : ∀ (l : List Blk) (b : Blk), sumB (l ++ [b]) = sumB l + (b.s.l - b.s.f + 1)
  | [], b => by show b.s.l - b.s.f + 1 + 0 = 0 + _; omega
  | x :: l, b => by
    show x.s.l - x.s.f + 1 + sumB (l ++ [b]) = x.s.l - x.s.f + 1 + sumB l + _
    rw [sumB_snoc l b]
    omega
theorem sumB_low : ∀ {l : List Blk}, (∀ b ∈ l, mayO b.s) → 0 ≤ sumB l ∧ sumB l ≤ 1048576 * l.length
  | [], _ => ⟨Int.le_refl _, Int.le_refl _⟩
  | x :: l, h => by
    have h1 := sumB_low (l := l) (fun b hb => h b (List.mem_cons_of_mem _ hb))
    have h2 := h x List.mem_cons_self
    unfold mayO at h2
    show 0 ≤ x.s.l - x.s.f + 1 + sumB l ∧ x.s.l - x.s.f + 1 + sumB l ≤ 1048576 * ((l.length + 1 : Nat) : Int)
    omega
theorem area_in {t : SpS} (h : WF t) {x : Blk} (hx : x ∈ t.l) {k : Int} (hk : k = 1 ∨ k = 2) : ((t.area k).2 && decide ((t.area k).1.f ≤ x.s.f) && decide (x.s.l ≤ (t.area k).1.l)) = decide (x.a = k) := by
  obtain ⟨hm, _, hb⟩ := h.blk x hx
  have hap := h.ap
  unfold mayO at hm
  have hr : ∀ a, apA x.s a → a.f ≠ 0 → ¬ (a.f ≤ x.s.f ∧ x.s.l ≤ a.l) := fun a h1 h2 h3 => by unfold apA at h1; omega
  by_cases hf : (t.ar k).f = 0
  · have ha : t.area k = (⟨0, 0⟩, false) := by unfold SpS.area; rw [if_pos (.inr (.inr hf))]
    rw [ha]
    have hne : x.a ≠ k := fun e => by
      rcases hb with ⟨h1, _⟩ | ⟨_, h2, _⟩
      · omega
      · rw [e] at h2; exact h2 hf
    rw [decide_eq_false hne]
    rfl
  · have ha : t.area k = (t.ar k, true) := by unfold SpS.area; rw [if_neg (by omega)]
    rw [ha]
    simp only [Bool.true_and]
    by_cases e : x.a = k
    · rcases hb with ⟨h1, _⟩ | ⟨_, _, h3, h4⟩
      · omega
      · rw [e] at h3 h4
        rw [decide_eq_true h3, decide_eq_true h4, decide_eq_true e]
        rfl
    · rw [decide_eq_false e]
      have hout : ¬ ((t.ar k).f ≤ x.s.f ∧ x.s.l ≤ (t.ar k).l) := by
        rcases hb with ⟨_, h2, h3⟩ | ⟨hk2, h2, h3, h4⟩
        · rcases hk with rfl | rfl
          · exact hr t.a1 h2 hf
          · exact hr t.a2 h3 hf
        · rcases hk with rfl | rfl <;> rcases hk2 with h5 | h5
          · exact absurd h5 e
          · rw [h5] at h2 h3 h4
            have h6 : t.ar 1 = t.a1 := rfl
            have h7 : t.ar 2 = t.a2 := rfl
            rw [h6] at hf ⊢
            rw [h7] at h2 h3 h4
            unfold apA at hap
            omega
          · rw [h5] at h2 h3 h4
            have h6 : t.ar 1 = t.a1 := rfl
            have h7 : t.ar 2 = t.a2 := rfl
            rw [h7] at hf ⊢
            rw [h6] at h2 h3 h4
            unfold apA at hap
            omega
          · exact absurd h5 e
      by_cases h1 : (t.ar k).f ≤ x.s.f
      · rw [decide_eq_true h1, decide_eq_false (fun h2 => hout ⟨h1, h2⟩)]; rfl
      · rw [decide_eq_false h1]; rfl
theorem left_meets {t : SpS} (h : WF t) {x : Blk} (hx : x ∈ t.l) (k : Int) : meetS (t.left k) x.s = false := by
  rw [Bool.eq_false_iff]
  intro hc
  obtain ⟨hm, n, h1, h2, h3⟩ := meet_any.1 hc
  rw [parts_left h] at h3
  have : hasB t.l n = true := (hasB_iff _ _).2 ⟨x, hx, hm, h1, h2⟩
  rw [this] at h3
  simp at h3
theorem left_norm {t : SpS} (h : WF t) (k : Int) : normS (t.left k) = t.left k := (norm_is (left_normal h k) (fun _ => rfl)).symm
theorem exec_neq_bo {ρ : Operand → Value} {o : Oper} {W : World} (x y : Operand) (ty : TypeId) (ho : o.op = .binOp .neq 4 x y ty) (b c : Bool) (hx : ρ x = .bool b) (hy : ρ y = .bool c) (e : b = c) :
    (execOp ρ o).run Try.prog W = .ok (.value (.bool false)) W := by
  subst e
  exact exec_neq_bb x y ty ho b hx hy
theorem exec_lss_i {ρ : Operand → Value} {o : Oper} {W : World} (x y : Operand) (ty : TypeId) (ho : o.op = .binOp .lss 3 x y ty) (a b : Int) (hx : ρ x = .int .i64 a) (hy : ρ y = .int .i64 b) (h : ¬ a < b) :
    (execOp ρ o).run Try.prog W = .ok (.value (.bool false)) W := by
  have hd : decide (a < b) = false := decide_eq_false h
  unfold execOp
  simp only [ho, hx, hy]
  go_simp
theorem exec_gtr_i {ρ : Operand → Value} {o : Oper} {W : World} (x y : Operand) (ty : TypeId) (ho : o.op = .binOp .gtr 3 x y ty) (a b : Int) (hx : ρ x = .int .i64 a) (hy : ρ y = .int .i64 b) (h : ¬ b < a) :
    (execOp ρ o).run Try.prog W = .ok (.value (.bool false)) W := by
  have hd : decide (b < a) = false := decide_eq_false h
  unfold execOp
  simp only [ho, hx, hy]
  go_simp
theorem exec_gtr_y {ρ : Operand → Value} {o : Oper} {W : World} (x y : Operand) (ty : TypeId) (ho : o.op = .binOp .gtr 3 x y ty) (a b : Int) (hx : ρ x = .int .i64 a) (hy : ρ y = .int .i64 b) (h : b < a) :
    (execOp ρ o).run Try.prog W = .ok (.value (.bool true)) W := by
  have hd : decide (b < a) = true := decide_eq_true h
  unfold execOp
  simp only [ho, hx, hy]
  go_simp
def HeldBk (ba p : Nat) (x : Blk) (W : World) : Prop := W.cell? ⟨ba, p, none⟩ = some (.int .i64 x.s.f) ∧ W.cell? ⟨ba, p + 1, none⟩ = some (.int .i64 x.s.l) ∧ W.cell? ⟨ba, p + 2, none⟩ = some (.int .i64 x.o)
theorem heldBk {W : World} {ba bp n c j : Nat} {l : List Blk} {x : Blk} (h : IsK W (.slice (some ⟨ba, bp, none⟩) n c) l) (hx : l[j]? = some x) : HeldBk ba (bp + j * 4) x W :=
  ⟨IsK.range h j x hx 0 _ rfl, IsK.range h j x hx 1 _ rfl, IsK.range h j x hx 2 _ rfl⟩
def HeldAp (ba p : Nat) (x : Blk) (W : World) : Prop := W.cell? ⟨ba, p + 3, none⟩ = some (.int .i64 x.a) ∧ W.rangeAt ba p (sR x.s)
theorem heldAp {W : World} {ba bp n c j : Nat} {l : List Blk} {x : Blk} (h : IsK W (.slice (some ⟨ba, bp, none⟩) n c) l) (hx : l[j]? = some x) : HeldAp ba (bp + j * 4) x W :=
  ⟨IsK.range h j x hx 3 _ rfl, rq_blk h j x hx⟩
theorem idx_bk {ρ : Operand → Value} {o : Oper} {W : World} (x y : Operand) (ho : o.op = .indexAddr 44 x y) (b k n c i : Nat) (hx : ρ x = .slice (some ⟨b, k, none⟩) n c) (hy : ρ y = .int .i64 (i : Int)) (hi : i < n) :
    (execOp ρ o).run Try.prog W = .ok (.value (.pointer (some ⟨b, k + i * 4, none⟩))) W := by
  have h0 : (0 : Int) ≤ (i : Int) := by omega
  have h1 : (i : Int) < (n : Int) := by omega
  unfold execOp
  simp only [ho, hx, hy]
  go_simp
theorem exec_eql_i {ρ : Operand → Value} {o : Oper} {W : World} (x y : Operand) (ty : TypeId) (ho : o.op = .binOp .eql 3 x y ty) (a b : Int) (hx : ρ x = .int .i64 a) (hy : ρ y = .int .i64 b) :
    (execOp ρ o).run Try.prog W = .ok (.value (.bool (decide (a = b)))) W := by
  unfold execOp
  simp only [ho, hx, hy]
  by_cases h : a = b
  · subst h; go_simp
  · have h2 : (a == b) = false := beq_eq_false_iff_ne.2 h
    rw [decide_eq_false h]
    go_simp
set_option maxRecDepth 100000 in
set_option maxHeartbeats 8000000 in
theorem apart12_walk (a : Option Addr) (n0 c : Nat) (l : List StpS) (w : World) (h : IsC stR 6 w (.slice a n0 c) l) :
    Calls Try.prog 4 #[.slice a n0 c] w fun e w' => e = .returned (.bool true) ∧ Below w.heap.size w w' := by
  have mixed : Try.prog.follows .mixedOrders = true := by kernel_rfl
  have HA := Lib.hid (fun W => awake12 W)
  have HNW := Lib.hid (fun W => new_any W)
  obtain ⟨rfl, hcap, hcm, _⟩ := h.shape
  unfold maxLen at hcm
  have HI := Lib.hid h
  clear h
  by_cases h40 : 40 < l.length
  · have h40i : (40 : Int) < (l.length : Int) := by omega
    go_enter Try.func4, Try.ntmps4
    go_wp2_with (go_at_call 10; refine (HA.out _).mono ?_; rintro e w1 ⟨rfl, b1⟩; refine Hid.out ?_)
    refine Lib.hid ?_
    have HB := Lib.hid b1
    clear b1
    go_wp2
    go_ret
    exact ⟨rfl, HB.out⟩
  have h40i : (l.length : Int) ≤ 40 := by omega
  go_enter Try.func4, Try.ntmps4
  go_wp2_with (go_at_call 10; refine (HA.out _).mono ?_; rintro e w1 ⟨rfl, b1⟩; refine Hid.out ?_)
  refine Lib.hid ?_
  have HB1 := Lib.hid b1
  have HN1 := Lib.hid (HNW.out w1)
  clear b1
  go_wp2_with (go_at_call 11; refine HN1.out.mono ?_; rintro e w2 ⟨rfl, m2, b2⟩; refine Hid.out ?_)
  refine Lib.hid ?_
  have HZ0 := Lib.hid (z12_start HB1.out m2 b2)
  obtain ⟨pt, hpt⟩ : ∃ pt, pt = w1.heap.size := ⟨_, rfl⟩
  rw [← hpt] at HZ0 ⊢
  clear hpt m2 b2 HN1 HB1
  obtain ⟨gw, hgw⟩ : ∃ g, g = w2.heap.size := ⟨_, rfl⟩
  go_wp2
  rw [← hgw] at HZ0 ⊢
  clear hgw
  generalize w2.alloc (.cells #[.int .i64 0, .int .i64 0, .int .i64 0, .int .i64 0, .int .i64 0, .int .i64 0, .slice none 0 0] 31) = w3 at *
  go_loopw [6] (fun i wr => ∃ (j : Nat) (t : SpS), j ≤ l.length ∧ i = .int .i64 (j : Int) ∧ Hid (t.l.length ≤ j) ∧ Hid (Z12 w pt t [(.slice none 0 0, newT.l)] [(gw, 31, (rqR newT (.slice none 0 0)))] wr)) (fun i _ => l.length - (intOf i).toNat)
  case atStart => exact ⟨0, newT, Nat.zero_le _, rfl, Lib.hid (Nat.le_refl _), HZ0⟩
  case round =>
    obtain ⟨j, t, hj, rfl, HTJ, HZ⟩ := hrel
    by_cases hlt : j < l.length
    · have hlti : (j : Int) < (l.length : Int) := by omega
      have h0k : (0 : Int) ≤ (j : Int) := by omega
      obtain ⟨x, hx⟩ : ∃ x, l[j]? = some x := ⟨l[j], List.getElem?_eq_getElem hlt⟩
      have HX := Lib.hid hx
      obtain ⟨sb, so, rfl⟩ : ∃ sb so, a = some ⟨sb, so, none⟩ := by
        obtain ⟨_, _, _, h4⟩ := IsC.shape HI.out
        obtain ⟨b, o, e1, e2, _⟩ := h4 (by omega)
        exact ⟨b, o, e1⟩
      clear hx
      go_wp2
      have HZD := Lib.hid (HZ.out.up (Below.refl _ _).drew)
      have hH0 := HZD.out.held (u := newT) (.head _) HI.out HX.out
      refine wp_region_noPanic ?_
      refine wp_region_held_drew (S := HeldRu gw sb (so + j * 6) newT (.slice none 0 0) x) (by kernel_rfl) hH0 (fun hHeld => ?_)
      generalize wr.drew = wd at *
      refine held_take (v := ?v182) 0 rfl (by kernel_rfl) (by kernel_rfl) (by kernel_rfl) (fun _ _ _ h => h) (by rfl) ?y182 (by assumption) ?_
      case y182 => (intro w hSw; unfold HeldRu at hSw; go_simp; (try with_reducible rfl); (try omega))
      simp only [List.setIfInBounds_toArray, List.set_cons_zero, List.set_cons_succ]
      refine held_take (v := rqV newT (.slice none 0 0)) 1 rfl (by kernel_rfl) (by kernel_rfl) (by kernel_rfl) (fun _ _ _ h => h) (by rfl) (fun W hSw => exec_load_any _ (.tmp 5) rfl gw 0 ((rqR newT (.slice none 0 0))) _ rfl hSw.1 Try.underlying31 rfl refs_info) (by assumption) ?_
      simp only [List.setIfInBounds_toArray, List.set_cons_zero, List.set_cons_succ]
      refine held_take (v := ?v187) 2 rfl (by kernel_rfl) (by kernel_rfl) (by kernel_rfl) (fun _ _ _ h => h) (by rfl) ?y187 (by assumption) ?_
      case y187 => (intro w hSw; unfold HeldRu at hSw; go_simp; (try with_reducible rfl); (try omega))
      simp only [List.setIfInBounds_toArray, List.set_cons_zero, List.set_cons_succ]
      refine held_take (v := ?v190) 3 rfl (by kernel_rfl) (by kernel_rfl) (by kernel_rfl) (fun _ _ _ h => h) (by rfl) ?y190 (by assumption) ?_
      case y190 => (intro w hSw; unfold HeldRu at hSw; go_simp; (try with_reducible rfl); (try omega))
      simp only [List.setIfInBounds_toArray, List.set_cons_zero, List.set_cons_succ]
      refine held_take (v := .pointer (some ⟨sb, so + j * 6, none⟩)) 4 rfl (by kernel_rfl) (by kernel_rfl) (by kernel_rfl) (fun _ _ _ h => h) (by rfl) (fun W hSw => idx_st _ _ rfl sb so l.length c j rfl rfl hlt) (by assumption) ?_
      simp only [List.setIfInBounds_toArray, List.set_cons_zero, List.set_cons_succ]
      refine held_take (v := stV x) 5 rfl (by kernel_rfl) (by kernel_rfl) (by kernel_rfl) (fun _ _ _ h => h) (by rfl) (fun W hSw => exec_load_any _ (.tmp 31) rfl sb (so + j * 6) (stR x) _ rfl hSw.2 Try.underlying35 rfl st_info) (by assumption) ?_
      simp only [List.setIfInBounds_toArray, List.set_cons_zero, List.set_cons_succ]
      have HTL := Lib.hid (show (t.step x).l.length ≤ j + 1 by have := step_len t x; have := HTJ.out; omega)
      refine held_one 6 rfl (by kernel_rfl) (by rfl) (fun K hK => ?_)
      go_simp
      refine (z12_do (u := newT) HZD.out (.head _) x (by have := HTJ.out; omega) (by decide) WF.new).mono ?_
      rintro e w6 ⟨v6, b, rfl, hb, z6⟩
      have HZ6 := Lib.hid (z6.less (ds' := [(.slice none 0 0, newT.l)]) (fun d hd => .tail _ hd) (fun b hb => hb))
      refine hK.out _ _ (z6.held (u := newT) (.head _) HI.out HX.out) (fun _ => ?_)
      (try simp only [Act.put, List.setIfInBounds_toArray, List.set_cons_zero, List.set_cons_succ])
      clear hK K hb z6 hHeld hH0
      refine wpAnyH_done (by kernel_rfl) ?_ _
      refine NoPanic.normal ?_
      go_wp2
      go_roundw
      case rel => exact ⟨j + 1, t.step x, by omega, rfl, HTL, HZ6⟩
      case measure => simp only [intOf]; omega

    · have hlti : ¬ ((j : Int) < (l.length : Int)) := by omega
      have HL9 := Lib.hid (show t.l.length ≤ 40 by have := HTJ.out; omega)
      obtain ⟨vb1, vr1, hM1, _⟩ := HZ.out.to
      have HM := Lib.hid hM1
      have HC1 := Lib.hid (blocks_any wr hM1)
      have HBW := Lib.hid HZ.out.below
      clear hM1 HZ
      go_wp2_with (go_at_call 18; refine HC1.out.mono ?_; rintro e w4 ⟨v4, rfl, i4, b4⟩; refine Hid.out ?_)
      refine Lib.hid ?_
      obtain ⟨a4, c4, hv4, hc4⟩ := IsK.form i4
      subst hv4
      have HI4 := Lib.hid i4
      have HM4 := Lib.hid (HM.out.up b4)
      have HB4 := Lib.hid (below_up HBW.out b4 HBW.out.size)
      have hln : (t.l.length : Int) ≤ 40 := by have := HL9.out; omega
      clear i4 b4 hc4 HC1 HBW hlt hj HTJ
      go_wp2
      go_loopw [8, 9] (fun vo i w5 => ∃ (j : Nat) (S : Int), j ≤ t.l.length ∧ i = .int .i64 (j : Int) ∧ vo = .int .i64 S ∧ Hid (S = sumB (t.l.take j)) ∧ Hid (Below w4.heap.size w4 w5)) (fun _ i _ => t.l.length - (intOf i).toNat)
      case atStart => exact ⟨0, 0, Nat.zero_le _, rfl, rfl, Lib.hid rfl, Lib.hid (Below.refl _ _)⟩
      case round =>
        obtain ⟨j, S, hj, rfl, rfl, HS, HBV⟩ := hrel
        by_cases hlt : j < t.l.length
        · have hlti : (j : Int) < (t.l.length : Int) := by omega
          have h0k : (0 : Int) ≤ (j : Int) := by omega
          obtain ⟨x, hx⟩ : ∃ x, t.l[j]? = some x := ⟨t.l[j], List.getElem?_eq_getElem hlt⟩
          have HX := Lib.hid hx
          have hmx := (List.getElem?_eq_some_iff.1 hx).2 ▸ List.getElem_mem hlt
          have HMX := Lib.hid hmx
          obtain ⟨ba, bp, rfl⟩ : ∃ bb bo, a4 = some ⟨bb, bo, none⟩ := by
            obtain ⟨_, _, _, h4⟩ := IsC.shape HI4.out
            obtain ⟨b, o, e1, e2, _⟩ := h4 (by omega)
            exact ⟨b, o, e1⟩
          obtain ⟨hmay, hox, _⟩ := HM4.out.wf.blk x hmx
          have hrh := IsK.range (IsC.below HI4.out HBV.out) j x hx
          have z0 : wr.cell? ⟨ba, bp + j * 4, none⟩ = some (.int .i64 x.s.f) := hrh 0 _ rfl
          have z1 : wr.cell? ⟨ba, bp + j * 4 + 1, none⟩ = some (.int .i64 x.s.l) := hrh 1 _ rfl
          have z2 : wr.cell? ⟨ba, bp + j * 4 + 2, none⟩ = some (.int .i64 x.o) := hrh 2 _ rfl
          have hsl := sumB_low (l := t.l.take j) (fun b hb => (HM4.out.wf.blk b (List.mem_of_mem_take hb)).1)
          rw [List.length_take, Nat.min_eq_left hj, ← HS.out] at hsl
          have hsn : sumB (t.l.take (j + 1)) = S + (x.s.l - x.s.f + 1) := by rw [List.take_add_one, hx, HS.out]; exact sumB_snoc _ _
          have HSN := Lib.hid hsn.symm
          unfold mayO at hmay
          obtain ⟨hy1, hy2, hy3⟩ := hmay
          have k1 : IntKind.i64.wrap (x.s.l - x.s.f) = x.s.l - x.s.f := by simp [IntKind.wrap, IntKind.bits, IntKind.signed]; omega
          have k2 : IntKind.i64.wrap (x.s.l - x.s.f + 1) = x.s.l - x.s.f + 1 := by simp [IntKind.wrap, IntKind.bits, IntKind.signed]; omega
          have k3 : IntKind.i64.wrap (S + (x.s.l - x.s.f + 1)) = S + (x.s.l - x.s.f + 1) := by simp [IntKind.wrap, IntKind.bits, IntKind.signed]; omega
          have n1 : ¬ x.s.f < 16 := by omega
          have n2 : ¬ 1048575 < x.s.l := by omega
          have n3 : ¬ x.o < 1 := by omega
          clear hsn hx hmx hrh
          go_wp2
          go_quiet (fail)
          go_wp2_with fail
          have HBP := Lib.hid (fun nq => (HBV.out.trans ⟨rfl, rfl, rfl, Nat.le_refl _, fun _ _ => rfl⟩ : Below w4.heap.size w4 (wr.drewN nq)))
          generalize hwq : wr.drewN _ = wq at *
          have HBQ := Lib.hid (show Below w4.heap.size w4 wq by rw [← hwq]; exact HBP.out _)
          clear hwq HBP z0 z1 z2
          have hrh := IsK.range (IsC.below HI4.out HBQ.out) j x HX.out
          have z0 : wq.cell? ⟨ba, bp + j * 4, none⟩ = some (.int .i64 x.s.f) := hrh 0 _ rfl
          have z1 : wq.cell? ⟨ba, bp + j * 4 + 1, none⟩ = some (.int .i64 x.s.l) := hrh 1 _ rfl
          have z2 : wq.cell? ⟨ba, bp + j * 4 + 2, none⟩ = some (.int .i64 x.o) := hrh 2 _ rfl
          clear hrh
          go_upto_region 18 with fail
          go_cut [101] from 36 to 158 (fun c wx => c = .bool false ∧ Hid (Below w4.heap.size w4 wx))
          case first =>
            have d1 : decide (x.s.f < 16) = false := decide_eq_false (by omega)
            have d2 : decide (1048575 < x.s.l) = false := decide_eq_false (by omega)
            have d3 : decide (x.o < 1) = false := decide_eq_false (by omega)
            by_cases hj0 : j = 0
            · have HJ0 := Lib.hid hj0
              clear hj0
              have HBD := Lib.hid (below_up HBQ.out (Below.refl _ _).drew HBQ.out.size)
              go_wp2
              refine wp_region_noPanic ?_
              refine wp_region_held_drew (S := HeldBk ba (bp + j * 4) x) (by kernel_rfl) (heldBk (IsC.below HI4.out HBD.out) HX.out) (fun hHeld => ?_)
              generalize wq.drew = wd at *
              refine held_take (v := ?v289) 0 rfl (by kernel_rfl) (by kernel_rfl) (by kernel_rfl) (fun _ _ _ h => h) (by rfl) ?y289 (by assumption) ?_
              case y289 => (intro w hSw; unfold HeldBk at hSw; go_simp; (try with_reducible rfl); (try omega))
              simp only [List.setIfInBounds_toArray, List.set_cons_zero, List.set_cons_succ]
              refine held_take (v := .bool false) 1 rfl (by kernel_rfl) (by kernel_rfl) (by kernel_rfl) (fun _ _ _ h => h) (by rfl) (fun W hSw => exec_gtr_i _ _ _ rfl (j : Int) 0 rfl rfl (by have := HJ0.out; omega)) (by assumption) ?_
              simp only [List.setIfInBounds_toArray, List.set_cons_zero, List.set_cons_succ]
              refine held_take (v := ?v294) 2 rfl (by kernel_rfl) (by kernel_rfl) (by kernel_rfl) (fun _ _ _ h => h) (by rfl) ?y294 (by assumption) ?_
              case y294 => (intro w hSw; unfold HeldBk at hSw; go_simp; (try with_reducible rfl); (try omega))
              simp only [List.setIfInBounds_toArray, List.set_cons_zero, List.set_cons_succ]
              refine held_skip 3 rfl (by kernel_rfl) (by kernel_rfl) (by kernel_rfl) (fun _ _ _ h => h) (by rfl) (by assumption) ?_
              simp only [List.setIfInBounds_toArray, List.set_cons_zero, List.set_cons_succ]
              refine held_skip 4 rfl (by kernel_rfl) (by kernel_rfl) (by kernel_rfl) (fun _ _ _ h => h) (by rfl) (by assumption) ?_
              simp only [List.setIfInBounds_toArray, List.set_cons_zero, List.set_cons_succ]
              refine held_skip 5 rfl (by kernel_rfl) (by kernel_rfl) (by kernel_rfl) (fun _ _ _ h => h) (by rfl) (by assumption) ?_
              simp only [List.setIfInBounds_toArray, List.set_cons_zero, List.set_cons_succ]
              refine held_skip 6 rfl (by kernel_rfl) (by kernel_rfl) (by kernel_rfl) (fun _ _ _ h => h) (by rfl) (by assumption) ?_
              simp only [List.setIfInBounds_toArray, List.set_cons_zero, List.set_cons_succ]
              refine held_skip 7 rfl (by kernel_rfl) (by kernel_rfl) (by kernel_rfl) (fun _ _ _ h => h) (by rfl) (by assumption) ?_
              simp only [List.setIfInBounds_toArray, List.set_cons_zero, List.set_cons_succ]
              refine held_skip 8 rfl (by kernel_rfl) (by kernel_rfl) (by kernel_rfl) (fun _ _ _ h => h) (by rfl) (by assumption) ?_
              simp only [List.setIfInBounds_toArray, List.set_cons_zero, List.set_cons_succ]
              refine held_skip 9 rfl (by kernel_rfl) (by kernel_rfl) (by kernel_rfl) (fun _ _ _ h => h) (by rfl) (by assumption) ?_
              simp only [List.setIfInBounds_toArray, List.set_cons_zero, List.set_cons_succ]
              refine held_skip 10 rfl (by kernel_rfl) (by kernel_rfl) (by kernel_rfl) (fun _ _ _ h => h) (by rfl) (by assumption) ?_
              simp only [List.setIfInBounds_toArray, List.set_cons_zero, List.set_cons_succ]
              refine held_skip 11 rfl (by kernel_rfl) (by kernel_rfl) (by kernel_rfl) (fun _ _ _ h => h) (by rfl) (by assumption) ?_
              simp only [List.setIfInBounds_toArray, List.set_cons_zero, List.set_cons_succ]
              refine held_skip 12 rfl (by kernel_rfl) (by kernel_rfl) (by kernel_rfl) (fun _ _ _ h => h) (by rfl) (by assumption) ?_
              simp only [List.setIfInBounds_toArray, List.set_cons_zero, List.set_cons_succ]
              refine held_skip 13 rfl (by kernel_rfl) (by kernel_rfl) (by kernel_rfl) (fun _ _ _ h => h) (by rfl) (by assumption) ?_
              simp only [List.setIfInBounds_toArray, List.set_cons_zero, List.set_cons_succ]
              refine held_skip 14 rfl (by kernel_rfl) (by kernel_rfl) (by kernel_rfl) (fun _ _ _ h => h) (by rfl) (by assumption) ?_
              simp only [List.setIfInBounds_toArray, List.set_cons_zero, List.set_cons_succ]
              refine held_skip 15 rfl (by kernel_rfl) (by kernel_rfl) (by kernel_rfl) (fun _ _ _ h => h) (by rfl) (by assumption) ?_
              simp only [List.setIfInBounds_toArray, List.set_cons_zero, List.set_cons_succ]
              refine held_skip 16 rfl (by kernel_rfl) (by kernel_rfl) (by kernel_rfl) (fun _ _ _ h => h) (by rfl) (by assumption) ?_
              simp only [List.setIfInBounds_toArray, List.set_cons_zero, List.set_cons_succ]
              refine held_take (v := ?v325) 17 rfl (by kernel_rfl) (by kernel_rfl) (by kernel_rfl) (fun _ _ _ h => h) (by rfl) ?y325 (by assumption) ?_
              case y325 => (intro w hSw; unfold HeldBk at hSw; go_simp; (try with_reducible rfl); (try omega))
              simp only [List.setIfInBounds_toArray, List.set_cons_zero, List.set_cons_succ]
              refine held_take (v := ?v328) 18 rfl (by kernel_rfl) (by kernel_rfl) (by kernel_rfl) (fun _ _ _ h => h) (by rfl) ?y328 (by assumption) ?_
              case y328 => (intro w hSw; unfold HeldBk at hSw; go_simp; (try with_reducible rfl); (try omega))
              simp only [List.setIfInBounds_toArray, List.set_cons_zero, List.set_cons_succ]
              refine held_take (v := ?v331) 19 rfl (by kernel_rfl) (by kernel_rfl) (by kernel_rfl) (fun _ _ _ h => h) (by rfl) ?y331 (by assumption) ?_
              case y331 => (intro w hSw; unfold HeldBk at hSw; go_simp; (try with_reducible rfl); (try omega))
              simp only [List.setIfInBounds_toArray, List.set_cons_zero, List.set_cons_succ]
              refine held_take (v := ?v334) 20 rfl (by kernel_rfl) (by kernel_rfl) (by kernel_rfl) (fun _ _ _ h => h) (by rfl) ?y334 (by assumption) ?_
              case y334 => (intro w hSw; unfold HeldBk at hSw; go_simp; (try with_reducible rfl); (try omega))
              simp only [List.setIfInBounds_toArray, List.set_cons_zero, List.set_cons_succ]
              refine held_take (v := .pointer (some ⟨ba, bp + j * 4, none⟩)) 21 rfl (by kernel_rfl) (by kernel_rfl) (by kernel_rfl) (fun _ _ _ h => h) (by rfl) (fun W hSw => idx_bk _ _ rfl ba bp t.l.length c4 j rfl rfl hlt) (by assumption) ?_
              simp only [List.setIfInBounds_toArray, List.set_cons_zero, List.set_cons_succ]
              refine held_take (v := ?v339) 22 rfl (by kernel_rfl) (by kernel_rfl) (by kernel_rfl) (fun _ _ _ h => h) (by rfl) ?y339 (by assumption) ?_
              case y339 => (intro w hSw; unfold HeldBk at hSw; go_simp; (try with_reducible rfl); (try omega))
              simp only [List.setIfInBounds_toArray, List.set_cons_zero, List.set_cons_succ]
              refine held_take (v := ?v342) 23 rfl (by kernel_rfl) (by kernel_rfl) (by kernel_rfl) (fun _ _ _ h => h) (by rfl) ?y342 (by assumption) ?_
              case y342 => (intro w hSw; unfold HeldBk at hSw; go_simp; (try with_reducible rfl); (try omega))
              simp only [List.setIfInBounds_toArray, List.set_cons_zero, List.set_cons_succ]
              refine held_take (v := .int .i64 x.s.f) 24 rfl (by kernel_rfl) (by kernel_rfl) (by kernel_rfl) (fun _ _ _ h => h) (by rfl) (fun W hSw => (by have hz := hSw.1; go_simp)) (by assumption) ?_
              simp only [List.setIfInBounds_toArray, List.set_cons_zero, List.set_cons_succ]
              refine held_take (v := .bool false) 25 rfl (by kernel_rfl) (by kernel_rfl) (by kernel_rfl) (fun _ _ _ h => h) (by rfl) (fun W hSw => exec_lss_i _ _ _ rfl x.s.f 16 rfl rfl (by omega)) (by assumption) ?_
              simp only [List.setIfInBounds_toArray, List.set_cons_zero, List.set_cons_succ]
              refine held_take (v := ?v349) 26 rfl (by kernel_rfl) (by kernel_rfl) (by kernel_rfl) (fun _ _ _ h => h) (by rfl) ?y349 (by assumption) ?_
              case y349 => (intro w hSw; unfold HeldBk at hSw; go_simp; (try with_reducible rfl); (try omega))
              simp only [List.setIfInBounds_toArray, List.set_cons_zero, List.set_cons_succ]
              refine held_take (v := ?v352) 27 rfl (by kernel_rfl) (by kernel_rfl) (by kernel_rfl) (fun _ _ _ h => h) (by rfl) ?y352 (by assumption) ?_
              case y352 => (intro w hSw; unfold HeldBk at hSw; go_simp; (try with_reducible rfl); (try omega))
              simp only [List.setIfInBounds_toArray, List.set_cons_zero, List.set_cons_succ]
              refine held_take (v := ?v355) 28 rfl (by kernel_rfl) (by kernel_rfl) (by kernel_rfl) (fun _ _ _ h => h) (by rfl) ?y355 (by assumption) ?_
              case y355 => (intro w hSw; unfold HeldBk at hSw; go_simp; (try with_reducible rfl); (try omega))
              simp only [List.setIfInBounds_toArray, List.set_cons_zero, List.set_cons_succ]
              refine held_take (v := ?v358) 29 rfl (by kernel_rfl) (by kernel_rfl) (by kernel_rfl) (fun _ _ _ h => h) (by rfl) ?y358 (by assumption) ?_
              case y358 => (intro w hSw; unfold HeldBk at hSw; go_simp; (try with_reducible rfl); (try omega))
              simp only [List.setIfInBounds_toArray, List.set_cons_zero, List.set_cons_succ]
              refine held_take (v := .pointer (some ⟨ba, bp + j * 4, none⟩)) 30 rfl (by kernel_rfl) (by kernel_rfl) (by kernel_rfl) (fun _ _ _ h => h) (by rfl) (fun W hSw => idx_bk _ _ rfl ba bp t.l.length c4 j rfl rfl hlt) (by assumption) ?_
              simp only [List.setIfInBounds_toArray, List.set_cons_zero, List.set_cons_succ]
              refine held_take (v := ?v363) 31 rfl (by kernel_rfl) (by kernel_rfl) (by kernel_rfl) (fun _ _ _ h => h) (by rfl) ?y363 (by assumption) ?_
              case y363 => (intro w hSw; unfold HeldBk at hSw; go_simp; (try with_reducible rfl); (try omega))
              simp only [List.setIfInBounds_toArray, List.set_cons_zero, List.set_cons_succ]
              refine held_take (v := ?v366) 32 rfl (by kernel_rfl) (by kernel_rfl) (by kernel_rfl) (fun _ _ _ h => h) (by rfl) ?y366 (by assumption) ?_
              case y366 => (intro w hSw; unfold HeldBk at hSw; go_simp; (try with_reducible rfl); (try omega))
              simp only [List.setIfInBounds_toArray, List.set_cons_zero, List.set_cons_succ]
              refine held_take (v := .int .i64 x.s.l) 33 rfl (by kernel_rfl) (by kernel_rfl) (by kernel_rfl) (fun _ _ _ h => h) (by rfl) (fun W hSw => (by have hz := hSw.2.1; go_simp)) (by assumption) ?_
              simp only [List.setIfInBounds_toArray, List.set_cons_zero, List.set_cons_succ]
              refine held_take (v := .bool false) 34 rfl (by kernel_rfl) (by kernel_rfl) (by kernel_rfl) (fun _ _ _ h => h) (by rfl) (fun W hSw => exec_gtr_i _ _ _ rfl x.s.l 1048575 rfl rfl (by omega)) (by assumption) ?_
              simp only [List.setIfInBounds_toArray, List.set_cons_zero, List.set_cons_succ]
              refine held_take (v := ?v373) 35 rfl (by kernel_rfl) (by kernel_rfl) (by kernel_rfl) (fun _ _ _ h => h) (by rfl) ?y373 (by assumption) ?_
              case y373 => (intro w hSw; unfold HeldBk at hSw; go_simp; (try with_reducible rfl); (try omega))
              simp only [List.setIfInBounds_toArray, List.set_cons_zero, List.set_cons_succ]
              refine held_take (v := ?v376) 36 rfl (by kernel_rfl) (by kernel_rfl) (by kernel_rfl) (fun _ _ _ h => h) (by rfl) ?y376 (by assumption) ?_
              case y376 => (intro w hSw; unfold HeldBk at hSw; go_simp; (try with_reducible rfl); (try omega))
              simp only [List.setIfInBounds_toArray, List.set_cons_zero, List.set_cons_succ]
              refine held_take (v := ?v379) 37 rfl (by kernel_rfl) (by kernel_rfl) (by kernel_rfl) (fun _ _ _ h => h) (by rfl) ?y379 (by assumption) ?_
              case y379 => (intro w hSw; unfold HeldBk at hSw; go_simp; (try with_reducible rfl); (try omega))
              simp only [List.setIfInBounds_toArray, List.set_cons_zero, List.set_cons_succ]
              refine held_take (v := ?v382) 38 rfl (by kernel_rfl) (by kernel_rfl) (by kernel_rfl) (fun _ _ _ h => h) (by rfl) ?y382 (by assumption) ?_
              case y382 => (intro w hSw; unfold HeldBk at hSw; go_simp; (try with_reducible rfl); (try omega))
              simp only [List.setIfInBounds_toArray, List.set_cons_zero, List.set_cons_succ]
              refine held_take (v := .pointer (some ⟨ba, bp + j * 4, none⟩)) 39 rfl (by kernel_rfl) (by kernel_rfl) (by kernel_rfl) (fun _ _ _ h => h) (by rfl) (fun W hSw => idx_bk _ _ rfl ba bp t.l.length c4 j rfl rfl hlt) (by assumption) ?_
              simp only [List.setIfInBounds_toArray, List.set_cons_zero, List.set_cons_succ]
              refine held_take (v := ?v387) 40 rfl (by kernel_rfl) (by kernel_rfl) (by kernel_rfl) (fun _ _ _ h => h) (by rfl) ?y387 (by assumption) ?_
              case y387 => (intro w hSw; unfold HeldBk at hSw; go_simp; (try with_reducible rfl); (try omega))
              simp only [List.setIfInBounds_toArray, List.set_cons_zero, List.set_cons_succ]
              refine held_take (v := .int .i64 x.o) 41 rfl (by kernel_rfl) (by kernel_rfl) (by kernel_rfl) (fun _ _ _ h => h) (by rfl) (fun W hSw => (by have hz := hSw.2.2; go_simp)) (by assumption) ?_
              simp only [List.setIfInBounds_toArray, List.set_cons_zero, List.set_cons_succ]
              refine held_take (v := .bool false) 42 rfl (by kernel_rfl) (by kernel_rfl) (by kernel_rfl) (fun _ _ _ h => h) (by rfl) (fun W hSw => exec_lss_i _ _ _ rfl x.o 1 rfl rfl (by omega)) (by assumption) ?_
              simp only [List.setIfInBounds_toArray, List.set_cons_zero, List.set_cons_succ]
              refine held_take (v := ?v394) 43 rfl (by kernel_rfl) (by kernel_rfl) (by kernel_rfl) (fun _ _ _ h => h) (by rfl) ?y394 (by assumption) ?_
              case y394 => (intro w hSw; unfold HeldBk at hSw; go_simp; (try with_reducible rfl); (try omega))
              simp only [List.setIfInBounds_toArray, List.set_cons_zero, List.set_cons_succ]
              refine wpAnyH_done (by kernel_rfl) ?_ _
              refine NoPanic.normal ?_
              go_wp2_with fail
              go_meet
              exact ⟨rfl, HBD⟩
            · obtain ⟨jp, rfl⟩ : ∃ jp, j = jp + 1 := ⟨j - 1, by omega⟩
              obtain ⟨xp, hxp⟩ : ∃ x, t.l[jp]? = some x := ⟨t.l[jp], List.getElem?_eq_getElem (by omega)⟩
              have hrp := IsK.range (IsC.below HI4.out HBQ.out) jp xp hxp
              have zp : wq.cell? ⟨ba, bp + jp * 4 + 1, none⟩ = some (.int .i64 xp.s.l) := hrp 1 _ rfl
              have hsrt : xp.s.l < x.s.f := by
                have h1 := List.pairwise_iff_getElem.1 HM4.out.wf.srt jp (jp + 1) (by omega) hlt (by omega)
                have e1 := (List.getElem?_eq_some_iff.1 hxp).2
                have e2 := (List.getElem?_eq_some_iff.1 HX.out).2
                rw [e1, e2] at h1
                exact h1
              have n4 : ¬ x.s.f ≤ xp.s.l := by omega
              have k4 : IntKind.i64.wrap (((jp + 1 : Nat) : Int) - 1) = (jp : Int) := by simp [IntKind.wrap, IntKind.bits, IntKind.signed]; omega
              have hpos : (0 : Int) < ((jp + 1 : Nat) : Int) := by omega
              have h0p : (0 : Int) ≤ (jp : Int) := by omega
              have hlp : (jp : Int) < (t.l.length : Int) := by omega
              have d4 : decide (x.s.f ≤ xp.s.l) = false := decide_eq_false (by omega)
              have d5 : decide ((0 : Int) < ((jp + 1 : Nat) : Int)) = true := decide_eq_true hpos
              clear hrp hxp hj0
              go_quiet (fail)
              go_wp2_with fail
              go_meet
              exact ⟨rfl, Lib.hid (HBQ.out.trans ⟨rfl, rfl, rfl, Nat.le_refl _, fun _ _ => rfl⟩)⟩
          case rest =>
            obtain ⟨rfl, HBC⟩ := hcut
            clear z0 z1 z2
            go_wp2
            go_loopw [10] (fun kv w6 => ∃ k2 : Nat, k2 ≤ 3 ∧ kv = .int .i64 (k2 : Int) ∧ Hid (Below w4.heap.size w4 w6)) (fun kv _ => 3 - (intOf kv).toNat)
            case atStart => exact ⟨0, by omega, rfl, HBC⟩
            case round =>
              obtain ⟨k2, hk2, rfl, HBU⟩ := hrel
              by_cases hl3 : k2 < 3
              · have hl3i : (k2 : Int) < 3 := by omega
                obtain ⟨⟨A, B⟩, hAB⟩ : ∃ AB, t.area (k2 : Int) = AB := ⟨_, rfl⟩
                have har : arRes (A, B) = .tuple #[.agg (sR A).toArray, .bool B] := rfl
                have hc6 := area_any (k2 : Int) wr (HM4.out.up HBU.out)
                rw [hAB, har] at hc6
                have HC6 := Lib.hid hc6
                have HAI := Lib.hid (fun (h : (k2 : Int) = 1 ∨ (k2 : Int) = 2) => (by have h1 := area_in HM4.out.wf HMX.out h; rw [hAB] at h1; exact h1 : (B && decide (A.f ≤ x.s.f) && decide (x.s.l ≤ A.l)) = decide (x.a = (k2 : Int))))
                clear hAB har hc6
                go_wp2_with (go_at_call 19; refine HC6.out.mono ?_; rintro e w7 ⟨rfl, b7⟩; refine Hid.out ?_)
                refine Lib.hid ?_
                have hal : Below w7.heap.size w7 (w7.alloc (.cells (sR A).toArray 27)) := (Below.refl _ _).alloc (Nat.le_refl _) _
                have HB8 := Lib.hid (below_up (below_up HBU.out b7 HBU.out.size) hal (below_up HBU.out b7 HBU.out.size).size)
                have HA8 := Lib.hid (Bx.new w7 27 (sR A))
                obtain ⟨g11, hg11⟩ : ∃ g, g = w7.heap.size := ⟨_, rfl⟩
                clear b7 hal HC6
                go_wp2_with (refine plS rfl (exec_store_fresh _ (.tmp 11) (.tmp 110) rfl (sR A) _ w7.heap.size rfl rfl rfl sp_info rfl (sR_one _)) ?_; refine Hid.out ?_)
                refine Lib.hid ?_
                generalize w7.alloc (.cells (sR A).toArray 27) = w8 at *
                rw [← hg11] at HA8 ⊢
                clear hg11
                have a0 : w8.cell? ⟨g11, 0, none⟩ = some (.int .i64 A.f) := by rw [HA8.out.cell]; rfl
                have a1 : w8.cell? ⟨g11, 1, none⟩ = some (.int .i64 A.l) := by rw [HA8.out.cell]; rfl
                have hrh := IsK.range (IsC.below HI4.out HB8.out) j x HX.out
                have z0 : w8.cell? ⟨ba, bp + j * 4, none⟩ = some (.int .i64 x.s.f) := hrh 0 _ rfl
                have z1 : w8.cell? ⟨ba, bp + j * 4 + 1, none⟩ = some (.int .i64 x.s.l) := hrh 1 _ rfl
                clear hrh
                go_upto_region 24 with fail
                go_cut [13] from 102 to 158 (fun c wx => c = .bool (B && decide (A.f ≤ x.s.f) && decide (x.s.l ≤ A.l)) ∧ Hid (Below w4.heap.size w4 wx))
                case first =>
                  cases B with
                  | false =>
                    go_quiet (fail)
                    go_wp2_with fail
                    go_meet
                    exact ⟨rfl, Lib.hid (HB8.out.trans ⟨rfl, rfl, rfl, Nat.le_refl _, fun _ _ => rfl⟩)⟩
                  | true =>
                    by_cases q1 : A.f ≤ x.s.f
                    · by_cases q2 : x.s.l ≤ A.l
                      · have e3 : (true && decide (A.f ≤ x.s.f) && decide (x.s.l ≤ A.l)) = true := by rw [decide_eq_true q1, decide_eq_true q2]; rfl
                        go_quiet (fail)
                        go_wp2_with fail
                        go_meet
                        exact ⟨by rw [e3], Lib.hid (HB8.out.trans ⟨rfl, rfl, rfl, Nat.le_refl _, fun _ _ => rfl⟩)⟩
                      · have e3 : (true && decide (A.f ≤ x.s.f) && decide (x.s.l ≤ A.l)) = false := by rw [decide_eq_false q2, Bool.and_false]
                        go_quiet (fail)
                        go_wp2_with fail
                        go_meet
                        exact ⟨by rw [e3], Lib.hid (HB8.out.trans ⟨rfl, rfl, rfl, Nat.le_refl _, fun _ _ => rfl⟩)⟩
                    · have e3 : (true && decide (A.f ≤ x.s.f) && decide (x.s.l ≤ A.l)) = false := by rw [decide_eq_false q1]; rfl
                      go_quiet (fail)
                      go_wp2_with fail
                      go_meet
                      exact ⟨by rw [e3], Lib.hid (HB8.out.trans ⟨rfl, rfl, rfl, Nat.le_refl _, fun _ _ => rfl⟩)⟩
                case rest =>
                  obtain ⟨rfl, HBX⟩ := hcut
                  clear a0 a1 z0 z1
                  obtain ⟨IN, hIN⟩ : ∃ IN, (B && decide (A.f ≤ x.s.f) && decide (x.s.l ≤ A.l)) = IN := ⟨_, rfl⟩
                  have HIN := Lib.hid hIN
                  rw [hIN]
                  clear hIN
                  go_wp2
                  have HBD := Lib.hid (below_up HBX.out (Below.refl _ _).drew HBX.out.size)
                  refine wp_region_noPanic ?_
                  refine wp_region_held_drew (S := HeldAp ba (bp + j * 4) x) (by kernel_rfl) (heldAp (IsC.below HI4.out HBD.out) HX.out) (fun hHeld => ?_)
                  generalize wc.drew = wd at *
                  by_cases hk0 : k2 = 0
                  · subst hk0
                    refine held_take (v := ?v500) 0 rfl (by kernel_rfl) (by kernel_rfl) (by kernel_rfl) (fun _ _ _ h => h) (by rfl) ?y500 (by assumption) ?_
                    case y500 => (intro w hSw; unfold HeldAp at hSw; go_simp; (try with_reducible rfl); (try omega))
                    simp only [List.setIfInBounds_toArray, List.set_cons_zero, List.set_cons_succ]
                    refine held_take (v := .bool false) 1 rfl (by kernel_rfl) (by kernel_rfl) (by kernel_rfl) (fun _ _ _ h => h) (by rfl) (fun W hSw => (by go_simp)) (by assumption) ?_
                    simp only [List.setIfInBounds_toArray, List.set_cons_zero, List.set_cons_succ]
                    refine held_take (v := ?v505) 2 rfl (by kernel_rfl) (by kernel_rfl) (by kernel_rfl) (fun _ _ _ h => h) (by rfl) ?y505 (by assumption) ?_
                    case y505 => (intro w hSw; unfold HeldAp at hSw; go_simp; (try with_reducible rfl); (try omega))
                    simp only [List.setIfInBounds_toArray, List.set_cons_zero, List.set_cons_succ]
                    refine held_skip 3 rfl (by kernel_rfl) (by kernel_rfl) (by kernel_rfl) (fun _ _ _ h => h) (by rfl) (by assumption) ?_
                    simp only [List.setIfInBounds_toArray, List.set_cons_zero, List.set_cons_succ]
                    refine held_skip 4 rfl (by kernel_rfl) (by kernel_rfl) (by kernel_rfl) (fun _ _ _ h => h) (by rfl) (by assumption) ?_
                    simp only [List.setIfInBounds_toArray, List.set_cons_zero, List.set_cons_succ]
                    refine held_skip 5 rfl (by kernel_rfl) (by kernel_rfl) (by kernel_rfl) (fun _ _ _ h => h) (by rfl) (by assumption) ?_
                    simp only [List.setIfInBounds_toArray, List.set_cons_zero, List.set_cons_succ]
                    refine held_skip 6 rfl (by kernel_rfl) (by kernel_rfl) (by kernel_rfl) (fun _ _ _ h => h) (by rfl) (by assumption) ?_
                    simp only [List.setIfInBounds_toArray, List.set_cons_zero, List.set_cons_succ]
                    refine held_skip 7 rfl (by kernel_rfl) (by kernel_rfl) (by kernel_rfl) (fun _ _ _ h => h) (by rfl) (by assumption) ?_
                    simp only [List.setIfInBounds_toArray, List.set_cons_zero, List.set_cons_succ]
                    refine held_skip 8 rfl (by kernel_rfl) (by kernel_rfl) (by kernel_rfl) (fun _ _ _ h => h) (by rfl) (by assumption) ?_
                    simp only [List.setIfInBounds_toArray, List.set_cons_zero, List.set_cons_succ]
                    refine held_skip 9 rfl (by kernel_rfl) (by kernel_rfl) (by kernel_rfl) (fun _ _ _ h => h) (by rfl) (by assumption) ?_
                    simp only [List.setIfInBounds_toArray, List.set_cons_zero, List.set_cons_succ]
                    refine held_skip 10 rfl (by kernel_rfl) (by kernel_rfl) (by kernel_rfl) (fun _ _ _ h => h) (by rfl) (by assumption) ?_
                    simp only [List.setIfInBounds_toArray, List.set_cons_zero, List.set_cons_succ]
                    refine held_skip 11 rfl (by kernel_rfl) (by kernel_rfl) (by kernel_rfl) (fun _ _ _ h => h) (by rfl) (by assumption) ?_
                    simp only [List.setIfInBounds_toArray, List.set_cons_zero, List.set_cons_succ]
                    refine held_take (v := ?v526) 12 rfl (by kernel_rfl) (by kernel_rfl) (by kernel_rfl) (fun _ _ _ h => h) (by rfl) ?y526 (by assumption) ?_
                    case y526 => (intro w hSw; unfold HeldAp at hSw; go_simp; (try with_reducible rfl); (try omega))
                    simp only [List.setIfInBounds_toArray, List.set_cons_zero, List.set_cons_succ]
                    refine held_take (v := ?v529) 13 rfl (by kernel_rfl) (by kernel_rfl) (by kernel_rfl) (fun _ _ _ h => h) (by rfl) ?y529 (by assumption) ?_
                    case y529 => (intro w hSw; unfold HeldAp at hSw; go_simp; (try with_reducible rfl); (try omega))
                    simp only [List.setIfInBounds_toArray, List.set_cons_zero, List.set_cons_succ]
                    refine held_take (v := ?v532) 14 rfl (by kernel_rfl) (by kernel_rfl) (by kernel_rfl) (fun _ _ _ h => h) (by rfl) ?y532 (by assumption) ?_
                    case y532 => (intro w hSw; unfold HeldAp at hSw; go_simp; (try with_reducible rfl); (try omega))
                    simp only [List.setIfInBounds_toArray, List.set_cons_zero, List.set_cons_succ]
                    refine held_take (v := ?v535) 15 rfl (by kernel_rfl) (by kernel_rfl) (by kernel_rfl) (fun _ _ _ h => h) (by rfl) ?y535 (by assumption) ?_
                    case y535 => (intro w hSw; unfold HeldAp at hSw; go_simp; (try with_reducible rfl); (try omega))
                    simp only [List.setIfInBounds_toArray, List.set_cons_zero, List.set_cons_succ]
                    refine held_take (v := ?v538) 17 rfl (by kernel_rfl) (by kernel_rfl) (by kernel_rfl) (fun _ _ _ h => h) (by rfl) ?y538 (by assumption) ?_
                    case y538 => (intro w hSw; unfold HeldAp at hSw; go_simp; (try with_reducible rfl); (try omega))
                    simp only [List.setIfInBounds_toArray, List.set_cons_zero, List.set_cons_succ]
                    refine held_take (v := ?v541) 18 rfl (by kernel_rfl) (by kernel_rfl) (by kernel_rfl) (fun _ _ _ h => h) (by rfl) ?y541 (by assumption) ?_
                    case y541 => (intro w hSw; unfold HeldAp at hSw; go_simp; (try with_reducible rfl); (try omega))
                    simp only [List.setIfInBounds_toArray, List.set_cons_zero, List.set_cons_succ]
                    refine held_take (v := .pointer (some ⟨ba, bp + j * 4, none⟩)) 19 rfl (by kernel_rfl) (by kernel_rfl) (by kernel_rfl) (fun _ _ _ h => h) (by rfl) (fun W hSw => idx_bk _ _ rfl ba bp t.l.length c4 j rfl rfl hlt) (by assumption) ?_
                    simp only [List.setIfInBounds_toArray, List.set_cons_zero, List.set_cons_succ]
                    refine held_take (v := ?v546) 20 rfl (by kernel_rfl) (by kernel_rfl) (by kernel_rfl) (fun _ _ _ h => h) (by rfl) ?y546 (by assumption) ?_
                    case y546 => (intro w hSw; unfold HeldAp at hSw; go_simp; (try with_reducible rfl); (try omega))
                    simp only [List.setIfInBounds_toArray, List.set_cons_zero, List.set_cons_succ]
                    refine held_take (v := sV x.s) 21 rfl (by kernel_rfl) (by kernel_rfl) (by kernel_rfl) (fun _ _ _ h => h) (by rfl) (fun W hSw => exec_load_any _ (.tmp 155) rfl ba (bp + j * 4) (sR x.s) _ rfl hSw.2 Try.underlying27 rfl sp_info) (by assumption) ?_
                    simp only [List.setIfInBounds_toArray, List.set_cons_zero, List.set_cons_succ]
                    refine held_one 16 rfl (by kernel_rfl) (by rfl) (fun K hK => ?_)
                    go_simp
                    refine (left_any (0 : Int) wd (HM4.out.up HBD.out)).mono ?_
                    rintro e we ⟨ve, rfl, ie, be⟩
                    have HBE := Lib.hid (below_up HBD.out be HBD.out.size)
                    refine hK.out _ _ (heldAp (IsC.below HI4.out HBE.out) HX.out) (fun _ => ?_)
                    (try simp only [Act.put, List.setIfInBounds_toArray, List.set_cons_zero, List.set_cons_succ])
                    clear hK K be
                    have hcm := rmeet_any ve _ x.s we ie (by have := left_length HM4.out.wf (0 : Int); have := HL9.out; omega)
                    rw [left_meets HM4.out.wf HMX.out (0 : Int)] at hcm
                    refine held_one 22 rfl (by kernel_rfl) (by rfl) (fun K hK => ?_)
                    go_simp
                    refine hcm.mono ?_
                    rintro e wf ⟨rfl, bf⟩
                    have HBF := Lib.hid (below_up HBE.out bf HBE.out.size)
                    refine hK.out _ _ (heldAp (IsC.below HI4.out HBF.out) HX.out) (fun _ => ?_)
                    (try simp only [Act.put, List.setIfInBounds_toArray, List.set_cons_zero, List.set_cons_succ])
                    clear hK K bf ie hcm
                    refine held_take (v := ?v569) 23 rfl (by kernel_rfl) (by kernel_rfl) (by kernel_rfl) (fun _ _ _ h => h) (by rfl) ?y569 (by assumption) ?_
                    case y569 => (intro w hSw; unfold HeldAp at hSw; go_simp; (try with_reducible rfl); (try omega))
                    simp only [List.setIfInBounds_toArray, List.set_cons_zero, List.set_cons_succ]
                    refine wpAnyH_done (by kernel_rfl) ?_ _
                    refine NoPanic.normal ?_
                    go_wp2
                    go_roundw
                    case rel => first
                      | exact ⟨0 + 1, by omega, rfl, HBF⟩
                      | ((repeat apply Exists.intro); exact ⟨⟨by omega, rfl, HBF⟩, rfl⟩)
                    case measure => simp only [intOf]; omega
                  · have hk12 : (k2 : Int) = 1 ∨ (k2 : Int) = 2 := by omega
                    have hpos : (0 : Int) < (k2 : Int) := by omega
                    refine held_take (v := ?v582) 0 rfl (by kernel_rfl) (by kernel_rfl) (by kernel_rfl) (fun _ _ _ h => h) (by rfl) ?y582 (by assumption) ?_
                    case y582 => (intro w hSw; unfold HeldAp at hSw; go_simp; (try with_reducible rfl); (try omega))
                    simp only [List.setIfInBounds_toArray, List.set_cons_zero, List.set_cons_succ]
                    refine held_take (v := .bool true) 1 rfl (by kernel_rfl) (by kernel_rfl) (by kernel_rfl) (fun _ _ _ h => h) (by rfl) (fun W hSw => exec_gtr_y _ _ _ rfl (k2 : Int) 0 rfl rfl hpos) (by assumption) ?_
                    simp only [List.setIfInBounds_toArray, List.set_cons_zero, List.set_cons_succ]
                    refine held_take (v := ?v587) 2 rfl (by kernel_rfl) (by kernel_rfl) (by kernel_rfl) (fun _ _ _ h => h) (by rfl) ?y587 (by assumption) ?_
                    case y587 => (intro w hSw; unfold HeldAp at hSw; go_simp; (try with_reducible rfl); (try omega))
                    simp only [List.setIfInBounds_toArray, List.set_cons_zero, List.set_cons_succ]
                    refine held_take (v := ?v590) 3 rfl (by kernel_rfl) (by kernel_rfl) (by kernel_rfl) (fun _ _ _ h => h) (by rfl) ?y590 (by assumption) ?_
                    case y590 => (intro w hSw; unfold HeldAp at hSw; go_simp; (try with_reducible rfl); (try omega))
                    simp only [List.setIfInBounds_toArray, List.set_cons_zero, List.set_cons_succ]
                    refine held_take (v := ?v593) 4 rfl (by kernel_rfl) (by kernel_rfl) (by kernel_rfl) (fun _ _ _ h => h) (by rfl) ?y593 (by assumption) ?_
                    case y593 => (intro w hSw; unfold HeldAp at hSw; go_simp; (try with_reducible rfl); (try omega))
                    simp only [List.setIfInBounds_toArray, List.set_cons_zero, List.set_cons_succ]
                    refine held_take (v := ?v596) 5 rfl (by kernel_rfl) (by kernel_rfl) (by kernel_rfl) (fun _ _ _ h => h) (by rfl) ?y596 (by assumption) ?_
                    case y596 => (intro w hSw; unfold HeldAp at hSw; go_simp; (try with_reducible rfl); (try omega))
                    simp only [List.setIfInBounds_toArray, List.set_cons_zero, List.set_cons_succ]
                    refine held_take (v := .pointer (some ⟨ba, bp + j * 4, none⟩)) 6 rfl (by kernel_rfl) (by kernel_rfl) (by kernel_rfl) (fun _ _ _ h => h) (by rfl) (fun W hSw => idx_bk _ _ rfl ba bp t.l.length c4 j rfl rfl hlt) (by assumption) ?_
                    simp only [List.setIfInBounds_toArray, List.set_cons_zero, List.set_cons_succ]
                    refine held_take (v := ?v601) 7 rfl (by kernel_rfl) (by kernel_rfl) (by kernel_rfl) (fun _ _ _ h => h) (by rfl) ?y601 (by assumption) ?_
                    case y601 => (intro w hSw; unfold HeldAp at hSw; go_simp; (try with_reducible rfl); (try omega))
                    simp only [List.setIfInBounds_toArray, List.set_cons_zero, List.set_cons_succ]
                    refine held_take (v := .int .i64 x.a) 8 rfl (by kernel_rfl) (by kernel_rfl) (by kernel_rfl) (fun _ _ _ h => h) (by rfl) (fun W hSw => (by have hz := hSw.1; go_simp)) (by assumption) ?_
                    simp only [List.setIfInBounds_toArray, List.set_cons_zero, List.set_cons_succ]
                    refine held_take (v := ?v606) 9 rfl (by kernel_rfl) (by kernel_rfl) (by kernel_rfl) (fun _ _ _ h => h) (by rfl) ?y606 (by assumption) ?_
                    case y606 => (intro w hSw; unfold HeldAp at hSw; go_simp; (try with_reducible rfl); (try omega))
                    simp only [List.setIfInBounds_toArray, List.set_cons_zero, List.set_cons_succ]
                    refine held_take (v := .bool (decide (x.a = (k2 : Int)))) 10 rfl (by kernel_rfl) (by kernel_rfl) (by kernel_rfl) (fun _ _ _ h => h) (by rfl) (fun W hSw => exec_eql_i _ _ _ rfl x.a (k2 : Int) rfl rfl) (by assumption) ?_
                    simp only [List.setIfInBounds_toArray, List.set_cons_zero, List.set_cons_succ]
                    refine held_take (v := .bool false) 11 rfl (by kernel_rfl) (by kernel_rfl) (by kernel_rfl) (fun _ _ _ h => h) (by rfl) (fun W hSw => exec_neq_bo _ _ _ rfl IN (decide (x.a = (k2 : Int))) rfl rfl (by rw [← HIN.out]; exact HAI.out hk12)) (by assumption) ?_
                    simp only [List.setIfInBounds_toArray, List.set_cons_zero, List.set_cons_succ]
                    refine held_take (v := ?v613) 12 rfl (by kernel_rfl) (by kernel_rfl) (by kernel_rfl) (fun _ _ _ h => h) (by rfl) ?y613 (by assumption) ?_
                    case y613 => (intro w hSw; unfold HeldAp at hSw; go_simp; (try with_reducible rfl); (try omega))
                    simp only [List.setIfInBounds_toArray, List.set_cons_zero, List.set_cons_succ]
                    refine held_take (v := ?v616) 13 rfl (by kernel_rfl) (by kernel_rfl) (by kernel_rfl) (fun _ _ _ h => h) (by rfl) ?y616 (by assumption) ?_
                    case y616 => (intro w hSw; unfold HeldAp at hSw; go_simp; (try with_reducible rfl); (try omega))
                    simp only [List.setIfInBounds_toArray, List.set_cons_zero, List.set_cons_succ]
                    refine held_take (v := ?v619) 14 rfl (by kernel_rfl) (by kernel_rfl) (by kernel_rfl) (fun _ _ _ h => h) (by rfl) ?y619 (by assumption) ?_
                    case y619 => (intro w hSw; unfold HeldAp at hSw; go_simp; (try with_reducible rfl); (try omega))
                    simp only [List.setIfInBounds_toArray, List.set_cons_zero, List.set_cons_succ]
                    refine held_take (v := ?v622) 15 rfl (by kernel_rfl) (by kernel_rfl) (by kernel_rfl) (fun _ _ _ h => h) (by rfl) ?y622 (by assumption) ?_
                    case y622 => (intro w hSw; unfold HeldAp at hSw; go_simp; (try with_reducible rfl); (try omega))
                    simp only [List.setIfInBounds_toArray, List.set_cons_zero, List.set_cons_succ]
                    refine held_take (v := ?v625) 17 rfl (by kernel_rfl) (by kernel_rfl) (by kernel_rfl) (fun _ _ _ h => h) (by rfl) ?y625 (by assumption) ?_
                    case y625 => (intro w hSw; unfold HeldAp at hSw; go_simp; (try with_reducible rfl); (try omega))
                    simp only [List.setIfInBounds_toArray, List.set_cons_zero, List.set_cons_succ]
                    refine held_take (v := ?v628) 18 rfl (by kernel_rfl) (by kernel_rfl) (by kernel_rfl) (fun _ _ _ h => h) (by rfl) ?y628 (by assumption) ?_
                    case y628 => (intro w hSw; unfold HeldAp at hSw; go_simp; (try with_reducible rfl); (try omega))
                    simp only [List.setIfInBounds_toArray, List.set_cons_zero, List.set_cons_succ]
                    refine held_take (v := .pointer (some ⟨ba, bp + j * 4, none⟩)) 19 rfl (by kernel_rfl) (by kernel_rfl) (by kernel_rfl) (fun _ _ _ h => h) (by rfl) (fun W hSw => idx_bk _ _ rfl ba bp t.l.length c4 j rfl rfl hlt) (by assumption) ?_
                    simp only [List.setIfInBounds_toArray, List.set_cons_zero, List.set_cons_succ]
                    refine held_take (v := ?v633) 20 rfl (by kernel_rfl) (by kernel_rfl) (by kernel_rfl) (fun _ _ _ h => h) (by rfl) ?y633 (by assumption) ?_
                    case y633 => (intro w hSw; unfold HeldAp at hSw; go_simp; (try with_reducible rfl); (try omega))
                    simp only [List.setIfInBounds_toArray, List.set_cons_zero, List.set_cons_succ]
                    refine held_take (v := sV x.s) 21 rfl (by kernel_rfl) (by kernel_rfl) (by kernel_rfl) (fun _ _ _ h => h) (by rfl) (fun W hSw => exec_load_any _ (.tmp 155) rfl ba (bp + j * 4) (sR x.s) _ rfl hSw.2 Try.underlying27 rfl sp_info) (by assumption) ?_
                    simp only [List.setIfInBounds_toArray, List.set_cons_zero, List.set_cons_succ]
                    refine held_one 16 rfl (by kernel_rfl) (by rfl) (fun K hK => ?_)
                    go_simp
                    refine (left_any (k2 : Int) wd (HM4.out.up HBD.out)).mono ?_
                    rintro e we ⟨ve, rfl, ie, be⟩
                    have HBE := Lib.hid (below_up HBD.out be HBD.out.size)
                    refine hK.out _ _ (heldAp (IsC.below HI4.out HBE.out) HX.out) (fun _ => ?_)
                    (try simp only [Act.put, List.setIfInBounds_toArray, List.set_cons_zero, List.set_cons_succ])
                    clear hK K be
                    have hcm := rmeet_any ve _ x.s we ie (by have := left_length HM4.out.wf (k2 : Int); have := HL9.out; omega)
                    rw [left_meets HM4.out.wf HMX.out (k2 : Int)] at hcm
                    refine held_one 22 rfl (by kernel_rfl) (by rfl) (fun K hK => ?_)
                    go_simp
                    refine hcm.mono ?_
                    rintro e wf ⟨rfl, bf⟩
                    have HBF := Lib.hid (below_up HBE.out bf HBE.out.size)
                    refine hK.out _ _ (heldAp (IsC.below HI4.out HBF.out) HX.out) (fun _ => ?_)
                    (try simp only [Act.put, List.setIfInBounds_toArray, List.set_cons_zero, List.set_cons_succ])
                    clear hK K bf ie hcm
                    refine held_take (v := ?v656) 23 rfl (by kernel_rfl) (by kernel_rfl) (by kernel_rfl) (fun _ _ _ h => h) (by rfl) ?y656 (by assumption) ?_
                    case y656 => (intro w hSw; unfold HeldAp at hSw; go_simp; (try with_reducible rfl); (try omega))
                    simp only [List.setIfInBounds_toArray, List.set_cons_zero, List.set_cons_succ]
                    refine wpAnyH_done (by kernel_rfl) ?_ _
                    refine NoPanic.normal ?_
                    go_wp2
                    go_roundw
                    case rel => first
                      | exact ⟨k2 + 1, by omega, rfl, HBF⟩
                      | ((repeat apply Exists.intro); exact ⟨⟨by omega, rfl, HBF⟩, rfl⟩)
                    case measure => simp only [intOf]; omega
              · have hl3i : ¬ (k2 : Int) < 3 := by omega
                go_wp2
                go_roundw
                case rel => first
                  | exact ⟨j + 1, _, by omega, rfl, rfl, HSN, HBU⟩
                  | ((repeat apply Exists.intro); exact ⟨⟨by omega, rfl, rfl, HSN, HBU⟩, rfl⟩)
                case measure => simp only [intOf]; omega
        · have hlti : ¬ ((j : Int) < (t.l.length : Int)) := by omega
          have hjl : j = t.l.length := by omega
          rw [hjl, List.take_length] at HS
          have hM5 := HM4.out.up HBV.out
          have hall := all_once hM5.wf
          rw [← HS.out] at hall
          have hsl := sumB_low (l := t.l) (fun b hb => (hM5.wf.blk b hb).1)
          rw [← HS.out] at hsl
          obtain ⟨c0, hc0⟩ : ∃ c, cntS (t.left 0) = c := ⟨_, rfl⟩
          obtain ⟨c1, hc1⟩ : ∃ c, cntS (t.left 1) = c := ⟨_, rfl⟩
          obtain ⟨c2, hc2⟩ : ∃ c, cntS (t.left 2) = c := ⟨_, rfl⟩
          have b0 := cntS_bound (left_normal hM5.wf 0)
          have b1 := cntS_bound (left_normal hM5.wf 1)
          have b2 := cntS_bound (left_normal hM5.wf 2)
          rw [hc0] at hall b0
          rw [hc1] at hall b1
          rw [hc2] at hall b2
          have HCN := Lib.hid (fun (k : Int) (v : Value) (W : World) (h : IsS W v (t.left k)) => (by have h1 := rcount_any v (t.left k) W h (by have := left_length hM5.wf k; have := HL9.out; omega); rw [left_norm hM5.wf k] at h1; exact h1 : Calls Try.prog 22 #[v] W fun e w' => e = .returned (.int .i64 (cntS (t.left k))) ∧ Below W.heap.size W w'))
          have k1 : IntKind.i64.wrap (S + c0) = S + c0 := by simp [IntKind.wrap, IntKind.bits, IntKind.signed]; omega
          have k2 : IntKind.i64.wrap (S + c0 + c1) = S + c0 + c1 := by simp [IntKind.wrap, IntKind.bits, IntKind.signed]; omega
          have k3 : IntKind.i64.wrap (S + c0 + c1 + c2) = 1048560 := by rw [hall]; rfl
          have HC0 := Lib.hid hc0
          have HC1 := Lib.hid hc1
          have HC2 := Lib.hid hc2
          have HM5 := Lib.hid hM5
          have HF5 := Lib.hid (below_up HB4.out HBV.out HB4.out.size)
          clear hM5 hall hsl b0 b1 b2 hc0 hc1 hc2 hjl
          have HL6 := Lib.hid (left_any 0 wr HM5.out)
          go_wp2_with (go_at_call 21; refine HL6.out.mono ?_; rintro e w6 ⟨v6, rfl, i6, d6⟩; refine Hid.out ?_)
          refine Lib.hid ?_
          have hcc6 := HCN.out 0 v6 w6 i6
          rw [HC0.out] at hcc6
          have HCC6 := Lib.hid hcc6
          have HM6 := Lib.hid (HM5.out.up d6)
          have HF6 := Lib.hid (below_up HF5.out d6 HF5.out.size)
          clear hcc6 d6 i6 HL6
          go_wp2_with (go_at_call 22; refine HCC6.out.mono ?_; rintro e w7 ⟨rfl, d7⟩; refine Hid.out ?_)
          refine Lib.hid ?_
          have HM7 := Lib.hid (HM6.out.up d7)
          have HF7 := Lib.hid (below_up HF6.out d7 HF6.out.size)
          clear d7 HCC6 HM6
          have HL8 := Lib.hid (left_any 1 w7 HM7.out)
          go_wp2_with (go_at_call 21; refine HL8.out.mono ?_; rintro e w8 ⟨v8, rfl, i8, d8⟩; refine Hid.out ?_)
          refine Lib.hid ?_
          have hcc8 := HCN.out 1 v8 w8 i8
          rw [HC1.out] at hcc8
          have HCC8 := Lib.hid hcc8
          have HM8 := Lib.hid (HM7.out.up d8)
          have HF8 := Lib.hid (below_up HF7.out d8 HF7.out.size)
          clear hcc8 d8 i8 HL8
          go_wp2_with (go_at_call 22; refine HCC8.out.mono ?_; rintro e w9 ⟨rfl, d9⟩; refine Hid.out ?_)
          refine Lib.hid ?_
          have HM9 := Lib.hid (HM8.out.up d9)
          have HF9 := Lib.hid (below_up HF8.out d9 HF8.out.size)
          clear d9 HCC8 HM8
          have HL10 := Lib.hid (left_any 2 w9 HM9.out)
          go_wp2_with (go_at_call 21; refine HL10.out.mono ?_; rintro e w10 ⟨v10, rfl, i10, d10⟩; refine Hid.out ?_)
          refine Lib.hid ?_
          have hcc10 := HCN.out 2 v10 w10 i10
          rw [HC2.out] at hcc10
          have HCC10 := Lib.hid hcc10
          have HM10 := Lib.hid (HM9.out.up d10)
          have HF10 := Lib.hid (below_up HF9.out d10 HF9.out.size)
          clear hcc10 d10 i10 HL10
          go_wp2_with (go_at_call 22; refine HCC10.out.mono ?_; rintro e w11 ⟨rfl, d11⟩; refine Hid.out ?_)
          refine Lib.hid ?_
          have HM11 := Lib.hid (HM10.out.up d11)
          have HF11 := Lib.hid (below_up HF10.out d11 HF10.out.size)
          clear d11 HCC10 HM10
          go_wp2
          go_ret
          exact ⟨rfl, HF11.out⟩
end Go.Proofs.Ytgelbeglffjdaaa
