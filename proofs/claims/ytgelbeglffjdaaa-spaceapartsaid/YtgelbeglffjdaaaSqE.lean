/- Package space: a block freed. -/
import Derived.Test.YtgelbeglffjdaaaSqC
namespace Go.Proofs.Ytgelbeglffjdaaa
open Go Go.RowKit Go.Shelf
attribute [local go_sem] Oper.semAt_some

set_option maxRecDepth 100000 in
set_option maxHeartbeats 2000000 in
theorem free_any {base pt : Nat} {vb vr : Value} {t : SpS} (o : Int) (s : Spn) (w : World) (h : SpM w base pt vb vr t) (hl9 : t.l.length ≤ 900) :
    Calls Try.prog 25 #[.pointer (some ⟨pt, 0, none⟩), .int .i64 o, sV s] w fun e w' => e = .returned (.int .i64 (t.free o s).2) ∧ SpTo w w' base pt vb vr (t.free o s).1 := by
  have mixed : Try.prog.follows .mixedOrders = true := by kernel_rfl
  obtain ⟨A, Z, hP⟩ := place_split s.f h.wf.srt h.may
  have hb0 : Below w.heap.size w (w.alloc (.cells (sR s).toArray 27)) := (Below.refl _ _).alloc (Nat.le_refl _) _
  have hd0 : Below (w.alloc (.cells (sR s).toArray 27)).heap.size (w.alloc (.cells (sR s).toArray 27)) (w.alloc (.cells (sR s).toArray 27)).drew := (Below.refl _ _).drew
  have HX0 := Lib.hid ((Bx.new w 27 (sR s)).up hd0)
  have HB0 := Lib.hid (below_up hb0 hd0 hb0.size)
  have hA := fun W (hW : Below w.heap.size w W) => at_any A Z s.f hP W (h.up hW)
  have HM := Lib.hid h
  have HS := Lib.hid (fun W (hW : Below w.heap.size w W) => SpTo.same h hW)
  have hdl := hP.del (o := o) h.wf.srt h.may
  have HAG := Lib.hid (fun b hb => hP.again (b := b) hb h.wf.srt h.may)
  have HDL := Lib.hid hdl
  have HWF := Lib.hid (h.wf.free o s)
  rw [show sV s = .agg (sR s).toArray from rfl]
  obtain ⟨x, hx⟩ : ∃ x : Blk, (atB s.f Z).getD ⟨⟨0, 0⟩, 0, 0⟩ = x := ⟨_, rfl⟩
  obtain ⟨is, his⟩ : ∃ is : Bool, (atB s.f Z).isSome = is := ⟨_, rfl⟩
  have hra : aRes (atB s.f Z) = .tuple #[.agg (bR x).toArray, .bool is] := by unfold aRes; rw [hx, his]; rfl
  rw [hra] at hA
  have HA := Lib.hid hA
  have HX := Lib.hid hx
  have HIS := Lib.hid his
  clear hra hx his hdl hP h hb0 hd0 hA
  go_enter Try.func25, Try.ntmps25
  go_wp2
  refine wp_region_noPanic ?_
  refine wp_region_held_drew (S := HeldPs w.heap.size s) (by kernel_rfl) (rangeAll HX0.out) (fun hHeld => ?_)
  generalize (w.alloc (.cells (sR s).toArray 27)).drew = wd at *
  refine held_take (v := ?v37) 0 rfl (by kernel_rfl) (by kernel_rfl) (by kernel_rfl) (fun _ _ _ h => h) (by rfl) ?y37 (by assumption) ?_
  case y37 => (intro w hSw; unfold HeldPs at hSw; go_simp; (try with_reducible rfl); (try omega))
  simp only [List.setIfInBounds_toArray, List.set_cons_zero, List.set_cons_succ]
  refine held_take (v := ?v40) 1 rfl (by kernel_rfl) (by kernel_rfl) (by kernel_rfl) (fun _ _ _ h => h) (by rfl) ?y40 (by assumption) ?_
  case y40 => (intro w hSw; unfold HeldPs at hSw; go_simp; (try with_reducible rfl); (try omega))
  simp only [List.setIfInBounds_toArray, List.set_cons_zero, List.set_cons_succ]
  refine held_take (v := ?v43) 2 rfl (by kernel_rfl) (by kernel_rfl) (by kernel_rfl) (fun _ _ _ h => h) (by rfl) ?y43 (by assumption) ?_
  case y43 => (intro w hSw; unfold HeldPs at hSw; go_simp; (try with_reducible rfl); (try omega))
  simp only [List.setIfInBounds_toArray, List.set_cons_zero, List.set_cons_succ]
  refine held_take (v := ?v46) 3 rfl (by kernel_rfl) (by kernel_rfl) (by kernel_rfl) (fun _ _ _ h => h) (by rfl) ?y46 (by assumption) ?_
  case y46 => (intro w hSw; unfold HeldPs at hSw; go_simp; (try with_reducible rfl); (try omega))
  simp only [List.setIfInBounds_toArray, List.set_cons_zero, List.set_cons_succ]
  refine held_take (v := .int .i64 s.f) 4 rfl (by kernel_rfl) (by kernel_rfl) (by kernel_rfl) (fun _ _ _ h => h) (by rfl) (fun W hSw => (by have y0 := rng0 hSw; go_simp)) (by assumption) ?_
  simp only [List.setIfInBounds_toArray, List.set_cons_zero, List.set_cons_succ]
  have hal : Below wd.heap.size wd (wd.alloc (.cells (bR ⟨⟨0, 0⟩, 0, 0⟩).toArray 47)) := (Below.refl _ _).alloc (Nat.le_refl _) _
  refine wpAnyH_ready (rs := [5, 9]) (by kernel_rfl) (by simp) (AllReadyH.cons rfl (fun K hK => ?_) (AllReadyH.cons rfl (fun K hK => ?_) AllReadyH.nil))
  · rw [if_pos (by rfl)]
    go_simp
    refine (HA.out _ HB0.out).mono ?_
    rintro e w2 ⟨rfl, b2⟩
    have HX2 := Lib.hid (HX0.out.up b2)
    have HB2 := Lib.hid (below_up HB0.out b2 HB0.out.size)
    refine hK.out _ _ (rangeAll HX2.out) (fun _ => ?_)
    (try simp only [Act.put, List.setIfInBounds_toArray, List.set_cons_zero, List.set_cons_succ])
    clear hK K b2 hal
    refine held_take (v := ?v62) 6 rfl (by kernel_rfl) (by kernel_rfl) (by kernel_rfl) (fun _ _ _ h => h) (by rfl) ?y62 (by assumption) ?_
    case y62 => (intro w hSw; unfold HeldPs at hSw; go_simp; (try with_reducible rfl); (try omega))
    simp only [List.setIfInBounds_toArray, List.set_cons_zero, List.set_cons_succ]
    refine held_take (v := ?v65) 7 rfl (by kernel_rfl) (by kernel_rfl) (by kernel_rfl) (fun _ _ _ h => h) (by rfl) ?y65 (by assumption) ?_
    case y65 => (intro w hSw; unfold HeldPs at hSw; go_simp; (try with_reducible rfl); (try omega))
    simp only [List.setIfInBounds_toArray, List.set_cons_zero, List.set_cons_succ]
    refine held_take (v := ?v68) 8 rfl (by kernel_rfl) (by kernel_rfl) (by kernel_rfl) (fun _ _ _ h => h) (by rfl) ?y68 (by assumption) ?_
    case y68 => (intro w hSw; unfold HeldPs at hSw; go_simp; (try with_reducible rfl); (try omega))
    simp only [List.setIfInBounds_toArray, List.set_cons_zero, List.set_cons_succ]
    have ha2 : Below w2.heap.size w2 (w2.alloc (.cells (bR x).toArray 47)) := (Below.refl _ _).alloc (Nat.le_refl _) _
    have ha3 : Below w2.heap.size w2 (w2.alloc (.cells (bR ⟨⟨0, 0⟩, 0, 0⟩).toArray 47)) := (Below.refl _ _).alloc (Nat.le_refl _) _
    have HX5 := Lib.hid (HX2.out.up ha2)
    have HX4 := Lib.hid (HX2.out.up ha3)
    have HY5 := Lib.hid (Bx.new w2 47 (bR x))
    have HB5 := Lib.hid (below_up HB2.out ha2 HB2.out.size)
    have hw2 := HB2.out.size
    refine held_one 9 rfl (by kernel_rfl) (by rfl) (fun K hK => ?_)
    refine wp_of_value (v := .pointer (some ⟨w2.heap.size, 0, none⟩)) (w' := w2.alloc (.cells (bR ⟨⟨0, 0⟩, 0, 0⟩).toArray 47)) (by go_simp; rfl) ?_
    refine hK.out _ _ (rangeAll HX4.out) (fun _ => ?_)
    simp only [List.setIfInBounds_toArray, List.set_cons_zero, List.set_cons_succ]
    clear hK K
    refine held_none 10 rfl (by kernel_rfl) (by rfl) (fun K hK => ?_)
    refine wp_of_skip (exec_store_fresh _ (.tmp 7) (.tmp 18) rfl (bR x) (bR ⟨⟨0, 0⟩, 0, 0⟩).toArray w2.heap.size rfl rfl rfl blk_info rfl (bR_one x)) ?_
    refine hK.out _ _ (rangeAll HX5.out) (fun _ => ?_)
    clear hK K ha2 ha3
    refine held_take (v := ?v87) 11 rfl (by kernel_rfl) (by kernel_rfl) (by kernel_rfl) (fun _ _ _ h => h) (by rfl) ?y87 (by assumption) ?_
    case y87 => (intro w hSw; unfold HeldPs at hSw; go_simp; (try with_reducible rfl); (try omega))
    simp only [List.setIfInBounds_toArray, List.set_cons_zero, List.set_cons_succ]
    refine wpAnyH_done (by kernel_rfl) ?_ _
    refine NoPanic.normal ?_
    obtain ⟨g7, hg7⟩ : ∃ g7, g7 = w2.heap.size := ⟨_, rfl⟩
    generalize w2.alloc (.cells (bR x).toArray 47) = w5 at *
    rw [← hg7] at HY5 hw2 ⊢
    clear hg7
    have HR0 := Lib.hid (HS.out _ HB5.out)
    have hr5 := rangeAll HX5.out
    have s0 := rng0 hr5
    have s1 := rng1 hr5
    have y0 : w5.cell? ⟨g7, 0, none⟩ = some (.int .i64 x.s.f) := by rw [HY5.out.cell]; rfl
    have y1 : w5.cell? ⟨g7, 1, none⟩ = some (.int .i64 x.s.l) := by rw [HY5.out.cell]; rfl
    have y2 : w5.cell? ⟨g7, 2, none⟩ = some (.int .i64 x.o) := by rw [HY5.out.cell]; rfl
    simp only [Nat.zero_add] at s1
    clear hr5
    cases is with
    | false =>
      have HE := Lib.hid (show t.free o s = (t, 31) by
        have h1 := HDL.out.2 (fun b hb => by have h2 := HIS.out; rw [hb] at h2; cases h2)
        unfold SpS.free
        rw [h1])
      go_wp2
      go_ret
      exact ⟨by rw [HE.out]; rfl, by rw [HE.out]; exact HR0.out⟩
    | true =>
      obtain ⟨b, hb⟩ : ∃ b, atB s.f Z = some b := Option.isSome_iff_exists.1 HIS.out
      have hbx : b = x := by have h1 := HX.out; rw [hb] at h1; exact h1
      subst hbx
      by_cases hall : b.s = s ∧ b.o = o
      · obtain ⟨e1, e2⟩ := hall
        obtain ⟨Z', hz, hd⟩ := HDL.out.1 b hb e1 e2
        have HE := Lib.hid (show t.free o s = (⟨t.a1, t.a2, A ++ Z'⟩, 0) by unfold SpS.free; rw [hd])
        have hpl : Place b.s.f t.l A (b :: Z') := by have h1 := HAG.out b hb; rw [hz] at h1; exact h1
        have hwf : WF ⟨t.a1, t.a2, A ++ Z'⟩ := by have h1 := HWF.out; rw [HE.out] at h1; exact h1
        have hdr5 : Below w5.heap.size w5 w5.drew := (Below.refl _ _).drew
        have HY6 := Lib.hid (HY5.out.up hdr5)
        have HB6 := Lib.hid (below_up HB5.out hdr5 HB5.out.size)
        have HD := Lib.hid (drop_any b A Z' hpl hwf w5.drew (HM.out.up HB6.out) hl9)
        subst e1 e2
        clear hpl hwf hdr5 hd hz hb
        go_wp2
        have hH : HeldB g7 b w5.drew := rangeAll HY6.out
        refine wp_region_noPanic ?_
        refine wp_region_held_drew (S := HeldB g7 b) (by kernel_rfl) hH (fun hHeld6 => ?_)
        generalize w5.drew = wz at *
        refine held_take (v := ?v135) 0 rfl (by kernel_rfl) (by kernel_rfl) (by kernel_rfl) (fun _ _ _ h => h) (by rfl) ?y135 (by assumption) ?_
        case y135 => (intro w hSw; unfold HeldB at hSw; go_simp; (try with_reducible rfl); (try omega))
        simp only [List.setIfInBounds_toArray, List.set_cons_zero, List.set_cons_succ]
        refine held_take (v := ?v138) 1 rfl (by kernel_rfl) (by kernel_rfl) (by kernel_rfl) (fun _ _ _ h => h) (by rfl) ?y138 (by assumption) ?_
        case y138 => (intro w hSw; unfold HeldB at hSw; go_simp; (try with_reducible rfl); (try omega))
        simp only [List.setIfInBounds_toArray, List.set_cons_zero, List.set_cons_succ]
        refine held_take (v := ?v141) 2 rfl (by kernel_rfl) (by kernel_rfl) (by kernel_rfl) (fun _ _ _ h => h) (by rfl) ?y141 (by assumption) ?_
        case y141 => (intro w hSw; unfold HeldB at hSw; go_simp; (try with_reducible rfl); (try omega))
        simp only [List.setIfInBounds_toArray, List.set_cons_zero, List.set_cons_succ]
        refine held_take (v := bV b) 3 rfl (by kernel_rfl) (by kernel_rfl) (by kernel_rfl) (fun _ _ _ h => h) (by rfl) (fun W hSw => exec_load_any _ (.tmp 7) rfl (g7) 0 (bR b) _ rfl hSw Try.underlying47 rfl blk_info) (by assumption) ?_
        simp only [List.setIfInBounds_toArray, List.set_cons_zero, List.set_cons_succ]
        refine held_one 4 rfl (by kernel_rfl) (by rfl) (fun K hK => ?_)
        go_simp
        refine HD.out.mono ?_
        rintro e w6 ⟨rfl, s6⟩
        have hn7 : ¬ OwnK pt vb vr (g7) := fun hk => by have := HM.out.low hk; omega
        have HY7 := Lib.hid (HY6.out.kp s6.kp hn7)
        have HF := Lib.hid (SpTo.after HB6.out s6)
        refine hK.out _ _ (rangeAll HY7.out) (fun _ => ?_)
        (try simp only [Act.put, List.setIfInBounds_toArray, List.set_cons_zero, List.set_cons_succ])
        clear hK K s6 hn7 hHeld6 hH
        refine wpAnyH_done (by kernel_rfl) ?_ _
        refine NoPanic.normal ?_
        go_wp2
        go_ret
        exact ⟨by rw [HE.out]; rfl, by rw [HE.out]; exact HF.out⟩
      · have HE := Lib.hid (show t.free o s = (t, 31) by
          have h1 := HDL.out.2 (fun c hc => by rw [hb] at hc; cases hc; exact hall)
          unfold SpS.free
          rw [h1])
        have hne : ¬ (b.s.f = s.f ∧ b.s.l = s.l ∧ b.o = o) := fun h1 => hall ⟨by
          obtain ⟨f1, l1⟩ : b.s.f = s.f ∧ b.s.l = s.l := ⟨h1.1, h1.2.1⟩
          cases hbs : b.s; cases hss : s; rw [hbs, hss] at f1 l1; simp only at f1 l1; rw [f1, l1], h1.2.2⟩
        clear hall hb
        by_cases q1 : b.s.f = s.f
        · by_cases q2 : b.s.l = s.l
          · have q3 : ¬ b.o = o := fun h => hne ⟨q1, q2, h⟩
            clear hne
            go_wp2
            all_goals (go_ret; exact ⟨by rw [HE.out]; rfl, by rw [HE.out]; exact HR0.out⟩)
          · clear hne
            go_wp2
            all_goals (go_ret; exact ⟨by rw [HE.out]; rfl, by rw [HE.out]; exact HR0.out⟩)
        · clear hne
          go_wp2
          all_goals (go_ret; exact ⟨by rw [HE.out]; rfl, by rw [HE.out]; exact HR0.out⟩)
  · rw [if_pos (by rfl)]
    have HX2 := Lib.hid (HX0.out.up hal)
    have HB2 := Lib.hid (below_up HB0.out hal HB0.out.size)
    have HN2 := Lib.hid (Bx.new wd 47 (bR ⟨⟨0, 0⟩, 0, 0⟩))
    have hw2 := HB0.out.size
    refine wp_of_value (v := .pointer (some ⟨wd.heap.size, 0, none⟩)) (w' := wd.alloc (.cells (bR ⟨⟨0, 0⟩, 0, 0⟩).toArray 47)) (by go_simp; rfl) ?_
    refine hK.out _ _ (rangeAll HX2.out) (fun _ => ?_)
    simp only [List.setIfInBounds_toArray, List.set_cons_zero, List.set_cons_succ]
    clear hK K hal
    generalize wd.alloc (.cells (bR ⟨⟨0, 0⟩, 0, 0⟩).toArray 47) = we at *
    refine held_one 5 rfl (by kernel_rfl) (by rfl) (fun K hK => ?_)
    go_simp
    refine (HA.out _ HB2.out).mono ?_
    rintro e w4 ⟨rfl, b4⟩
    have HX4 := Lib.hid (HX2.out.up b4)
    have HN4 := Lib.hid (HN2.out.up b4)
    have HB4 := Lib.hid (below_up HB2.out b4 HB2.out.size)
    refine hK.out _ _ (rangeAll HX4.out) (fun _ => ?_)
    (try simp only [Act.put, List.setIfInBounds_toArray, List.set_cons_zero, List.set_cons_succ])
    clear hK K b4
    refine held_take (v := ?v201) 6 rfl (by kernel_rfl) (by kernel_rfl) (by kernel_rfl) (fun _ _ _ h => h) (by rfl) ?y201 (by assumption) ?_
    case y201 => (intro w hSw; unfold HeldB at hSw; go_simp; (try with_reducible rfl); (try omega))
    simp only [List.setIfInBounds_toArray, List.set_cons_zero, List.set_cons_succ]
    refine held_take (v := ?v204) 7 rfl (by kernel_rfl) (by kernel_rfl) (by kernel_rfl) (fun _ _ _ h => h) (by rfl) ?y204 (by assumption) ?_
    case y204 => (intro w hSw; unfold HeldB at hSw; go_simp; (try with_reducible rfl); (try omega))
    simp only [List.setIfInBounds_toArray, List.set_cons_zero, List.set_cons_succ]
    refine held_take (v := ?v207) 8 rfl (by kernel_rfl) (by kernel_rfl) (by kernel_rfl) (fun _ _ _ h => h) (by rfl) ?y207 (by assumption) ?_
    case y207 => (intro w hSw; unfold HeldB at hSw; go_simp; (try with_reducible rfl); (try omega))
    simp only [List.setIfInBounds_toArray, List.set_cons_zero, List.set_cons_succ]
    have hne : w.heap.size ≠ wd.heap.size := by have := HX0.out.lt; omega
    have HX5 := Lib.hid (HX4.out.rowOther hne (bR x).toArray)
    have HY5 := Lib.hid (HN4.out.row (bR x))
    have HB5 := Lib.hid (below_row HB4.out hw2 (bR x).toArray)
    refine held_none 10 rfl (by kernel_rfl) (by rfl) (fun K hK => ?_)
    refine wp_of_skip (exec_store_bxK _ (.tmp 7) (.tmp 18) rfl wd.heap.size (bR x) (bR ⟨⟨0, 0⟩, 0, 0⟩) rfl rfl HN4.out blk_info rfl (bR_one x)) ?_
    refine hK.out _ _ (rangeAll HX5.out) (fun _ => ?_)
    clear hK K hne
    refine held_take (v := ?v218) 11 rfl (by kernel_rfl) (by kernel_rfl) (by kernel_rfl) (fun _ _ _ h => h) (by rfl) ?y218 (by assumption) ?_
    case y218 => (intro w hSw; unfold HeldB at hSw; go_simp; (try with_reducible rfl); (try omega))
    simp only [List.setIfInBounds_toArray, List.set_cons_zero, List.set_cons_succ]
    refine wpAnyH_done (by kernel_rfl) ?_ _
    refine NoPanic.normal ?_
    obtain ⟨g7, hg7⟩ : ∃ g7, g7 = wd.heap.size := ⟨_, rfl⟩
    generalize w4.setRow wd.heap.size (bR x).toArray = w5 at *
    rw [← hg7] at HY5 hw2 ⊢
    clear hg7
    have HR0 := Lib.hid (HS.out _ HB5.out)
    have hr5 := rangeAll HX5.out
    have s0 := rng0 hr5
    have s1 := rng1 hr5
    have y0 : w5.cell? ⟨g7, 0, none⟩ = some (.int .i64 x.s.f) := by rw [HY5.out.cell]; rfl
    have y1 : w5.cell? ⟨g7, 1, none⟩ = some (.int .i64 x.s.l) := by rw [HY5.out.cell]; rfl
    have y2 : w5.cell? ⟨g7, 2, none⟩ = some (.int .i64 x.o) := by rw [HY5.out.cell]; rfl
    simp only [Nat.zero_add] at s1
    clear hr5
    cases is with
    | false =>
      have HE := Lib.hid (show t.free o s = (t, 31) by
        have h1 := HDL.out.2 (fun b hb => by have h2 := HIS.out; rw [hb] at h2; cases h2)
        unfold SpS.free
        rw [h1])
      go_wp2
      go_ret
      exact ⟨by rw [HE.out]; rfl, by rw [HE.out]; exact HR0.out⟩
    | true =>
      obtain ⟨b, hb⟩ : ∃ b, atB s.f Z = some b := Option.isSome_iff_exists.1 HIS.out
      have hbx : b = x := by have h1 := HX.out; rw [hb] at h1; exact h1
      subst hbx
      by_cases hall : b.s = s ∧ b.o = o
      · obtain ⟨e1, e2⟩ := hall
        obtain ⟨Z', hz, hd⟩ := HDL.out.1 b hb e1 e2
        have HE := Lib.hid (show t.free o s = (⟨t.a1, t.a2, A ++ Z'⟩, 0) by unfold SpS.free; rw [hd])
        have hpl : Place b.s.f t.l A (b :: Z') := by have h1 := HAG.out b hb; rw [hz] at h1; exact h1
        have hwf : WF ⟨t.a1, t.a2, A ++ Z'⟩ := by have h1 := HWF.out; rw [HE.out] at h1; exact h1
        have hdr5 : Below w5.heap.size w5 w5.drew := (Below.refl _ _).drew
        have HY6 := Lib.hid (HY5.out.up hdr5)
        have HB6 := Lib.hid (below_up HB5.out hdr5 HB5.out.size)
        have HD := Lib.hid (drop_any b A Z' hpl hwf w5.drew (HM.out.up HB6.out) hl9)
        subst e1 e2
        clear hpl hwf hdr5 hd hz hb
        go_wp2
        have hH : HeldB g7 b w5.drew := rangeAll HY6.out
        refine wp_region_noPanic ?_
        refine wp_region_held_drew (S := HeldB g7 b) (by kernel_rfl) hH (fun hHeld6 => ?_)
        generalize w5.drew = wz at *
        refine held_take (v := ?v266) 0 rfl (by kernel_rfl) (by kernel_rfl) (by kernel_rfl) (fun _ _ _ h => h) (by rfl) ?y266 (by assumption) ?_
        case y266 => (intro w hSw; unfold HeldB at hSw; go_simp; (try with_reducible rfl); (try omega))
        simp only [List.setIfInBounds_toArray, List.set_cons_zero, List.set_cons_succ]
        refine held_take (v := ?v269) 1 rfl (by kernel_rfl) (by kernel_rfl) (by kernel_rfl) (fun _ _ _ h => h) (by rfl) ?y269 (by assumption) ?_
        case y269 => (intro w hSw; unfold HeldB at hSw; go_simp; (try with_reducible rfl); (try omega))
        simp only [List.setIfInBounds_toArray, List.set_cons_zero, List.set_cons_succ]
        refine held_take (v := ?v272) 2 rfl (by kernel_rfl) (by kernel_rfl) (by kernel_rfl) (fun _ _ _ h => h) (by rfl) ?y272 (by assumption) ?_
        case y272 => (intro w hSw; unfold HeldB at hSw; go_simp; (try with_reducible rfl); (try omega))
        simp only [List.setIfInBounds_toArray, List.set_cons_zero, List.set_cons_succ]
        refine held_take (v := bV b) 3 rfl (by kernel_rfl) (by kernel_rfl) (by kernel_rfl) (fun _ _ _ h => h) (by rfl) (fun W hSw => exec_load_any _ (.tmp 7) rfl (g7) 0 (bR b) _ rfl hSw Try.underlying47 rfl blk_info) (by assumption) ?_
        simp only [List.setIfInBounds_toArray, List.set_cons_zero, List.set_cons_succ]
        refine held_one 4 rfl (by kernel_rfl) (by rfl) (fun K hK => ?_)
        go_simp
        refine HD.out.mono ?_
        rintro e w6 ⟨rfl, s6⟩
        have hn7 : ¬ OwnK pt vb vr (g7) := fun hk => by have := HM.out.low hk; omega
        have HY7 := Lib.hid (HY6.out.kp s6.kp hn7)
        have HF := Lib.hid (SpTo.after HB6.out s6)
        refine hK.out _ _ (rangeAll HY7.out) (fun _ => ?_)
        (try simp only [Act.put, List.setIfInBounds_toArray, List.set_cons_zero, List.set_cons_succ])
        clear hK K s6 hn7 hHeld6 hH
        refine wpAnyH_done (by kernel_rfl) ?_ _
        refine NoPanic.normal ?_
        go_wp2
        go_ret
        exact ⟨by rw [HE.out]; rfl, by rw [HE.out]; exact HF.out⟩
      · have HE := Lib.hid (show t.free o s = (t, 31) by
          have h1 := HDL.out.2 (fun c hc => by rw [hb] at hc; cases hc; exact hall)
          unfold SpS.free
          rw [h1])
        have hne : ¬ (b.s.f = s.f ∧ b.s.l = s.l ∧ b.o = o) := fun h1 => hall ⟨by
          obtain ⟨f1, l1⟩ : b.s.f = s.f ∧ b.s.l = s.l := ⟨h1.1, h1.2.1⟩
          cases hbs : b.s; cases hss : s; rw [hbs, hss] at f1 l1; simp only at f1 l1; rw [f1, l1], h1.2.2⟩
        clear hall hb
        by_cases q1 : b.s.f = s.f
        · by_cases q2 : b.s.l = s.l
          · have q3 : ¬ b.o = o := fun h => hne ⟨q1, q2, h⟩
            clear hne
            go_wp2
            all_goals (go_ret; exact ⟨by rw [HE.out]; rfl, by rw [HE.out]; exact HR0.out⟩)
          · clear hne
            go_wp2
            all_goals (go_ret; exact ⟨by rw [HE.out]; rfl, by rw [HE.out]; exact HR0.out⟩)
        · clear hne
          go_wp2
          all_goals (go_ret; exact ⟨by rw [HE.out]; rfl, by rw [HE.out]; exact HR0.out⟩)
end Go.Proofs.Ytgelbeglffjdaaa
