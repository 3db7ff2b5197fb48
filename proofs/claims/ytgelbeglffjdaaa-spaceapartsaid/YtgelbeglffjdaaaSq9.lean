/- Package space: an area laid out, an area given back. -/
import Derived.Test.YtgelbeglffjdaaaSqR
namespace Go.Proofs.Ytgelbeglffjdaaa
open Go Go.RowKit Go.Shelf
attribute [local go_sem] Oper.semAt_some

theorem SpTo.same {w w' : World} {base pt : Nat} {vb vr : Value} {t : SpS} (h : SpM w base pt vb vr t) (hb : Below w.heap.size w w') : SpTo w w' base pt vb vr t := ⟨⟨vb, vr, h.up hb, fun _ h => .inl h⟩, KpO.below hb⟩
/-- An area's span is written. -/
theorem SpTo.area {w w1 : World} {base pt : Nat} {vb vr : Value} {t : SpS} (h : SpM w base pt vb vr t) (hb : Below w.heap.size w w1) (k : Nat) (hk : k = 1 ∨ k = 2) (s : Spn) (hwf : WF (t.setAr k s)) :
    SpTo w ((w1.setCell ⟨pt, k * 2, none⟩ (.int .i64 s.f)).setCell ⟨pt, k * 2 + 1, none⟩ (.int .i64 s.l)) base pt vb vr (t.setAr k s) := by
  have h1 := h.up hb
  have hl : (t.setAr k s).l = t.l := by rcases hk with rfl | rfl <;> rfl
  have hKp : KpO (fun j => j = pt) w1 ((w1.setCell ⟨pt, k * 2, none⟩ (.int .i64 s.f)).setCell ⟨pt, k * 2 + 1, none⟩ (.int .i64 s.l)) := KpO.trans (KpO.set (O := fun j => j = pt) w1 pt _ _ rfl) (KpO.set (O := fun j => j = pt) _ pt _ _ rfl)
  have hbx : Bx ((w1.setCell ⟨pt, k * 2, none⟩ (.int .i64 s.f)).setCell ⟨pt, k * 2 + 1, none⟩ (.int .i64 s.l)) pt 92 (spC (t.setAr k s) vb vr) := by
    have := (h1.bx.set (k * 2) (.int .i64 s.f)).set (k * 2 + 1) (.int .i64 s.l)
    rcases hk with rfl | rfl <;> exact this
  refine ⟨⟨vb, vr, ⟨hbx, ?_, ?_, hwf, by rw [hl]; exact h.len, ?_⟩, fun _ h => .inl h⟩, (KpO.below hb).trans (hKp.more fun k hk => .inl hk)⟩
  · rw [hl]; exact own_kp h1.kb hKp (fun k e1 e2 => bx_apart h1.kb h1.bx (by decide) (e2 ▸ e1))
  · rw [hl]; exact own_kp h1.kr hKp (fun k e1 e2 => bx_apart h1.kr h1.bx (by decide) (e2 ▸ e1))
  · have := h1.lo
    simp only [World.size_setCell]
    exact this
theorem laidB_not {t : SpS} (h : WF t) {k : Int} (hk : k = 1 ∨ k = 2) : laidB t k = decide (0 < (t.ar k).f) := by
  unfold laidB
  rw [decide_eq_decide]
  rcases okAr h k with h1 | h1
  · rw [h1]; simp
  · unfold mayO at h1
    constructor
    · intro _; omega
    · intro _; exact ⟨hk, by omega⟩
set_option maxRecDepth 100000 in
set_option maxHeartbeats 2000000 in
theorem carve_any {base pt : Nat} {vb vr : Value} {t : SpS} (k : Int) (s : Spn) (w : World) (h : SpM w base pt vb vr t) :
    Calls Try.prog 39 #[.pointer (some ⟨pt, 0, none⟩), .int .i64 k, sV s] w fun e w' => e = .returned (.int .i64 (t.carve k s).2) ∧ SpTo w w' base pt vb vr (t.carve k s).1 := by
  have mixed : Try.prog.follows .mixedOrders = true := by kernel_rfl
  have hb0 : Below w.heap.size w (w.alloc (.cells (sR s).toArray 27)) := (Below.refl _ _).alloc (Nat.le_refl _) _
  have HX0 := Lib.hid (Bx.new w 27 (sR s))
  have HB0 := Lib.hid hb0
  have HM := Lib.hid h
  have HN := Lib.hid (fun W => named_any k W)
  have HO := Lib.hid (fun W => ownable_any s W)
  have HWF := Lib.hid (h.wf.carve k s)
  have hlb := fun hk => laidB_not h.wf (k := k) hk
  rw [show sV s = .agg (sR s).toArray from rfl]
  unfold SpS.carve at HWF ⊢
  by_cases hk : k = 1 ∨ k = 2
  · rw [if_neg (show ¬ (k < 1 ∨ 2 < k) by omega)] at HWF ⊢
    rw [decide_eq_true hk] at HN
    cases hm : mayOB s with
    | false =>
      rw [hm] at HO
      rw [if_pos rfl]
      have HS := Lib.hid (fun W (hW : Below w.heap.size w W) => SpTo.same h hW)
      clear h hb0 hm hlb HWF
      go_enter Try.func39, Try.ntmps39
      go_wp2_with (go_at_call 57; refine (HN.out _).mono ?_; rintro e w1 ⟨rfl, b1⟩; refine Hid.out ?_)
      refine Lib.hid ?_
      have HB1 := Lib.hid (below_up HB0.out b1 HB0.out.size)
      have HX1 := Lib.hid (HX0.out.up b1)
      clear b1
      go_wp2_with (first
        | (refine plV rfl (sV s) (exec_load_any 27 (.tmp 5) rfl w.heap.size 0 (sR s) _ rfl (rangeAll HX1.out) Try.underlying27 rfl sp_info) ?_)
        | (go_at_call 61; refine (HO.out _).mono ?_; rintro e w2 ⟨rfl, b2⟩; refine Hid.out ?_))
      refine Lib.hid ?_
      have HR := Lib.hid (HS.out _ (below_up HB1.out b2 HB1.out.size))
      clear b2
      go_wp2
      go_ret
      exact ⟨rfl, HR.out⟩
    | true =>
      have hmo := (mayOB_iff s).1 hm
      rw [hm] at HO HWF
      rw [if_neg (by simp)] at HWF ⊢
      have HLA := Lib.hid (fun W (hW : Below w.heap.size w W) => laid_any k W (h.up hW))
      rw [hlb hk] at HLA
      by_cases hl : 0 < (t.ar k).f
      · rw [if_pos hl]
        rw [decide_eq_true hl] at HLA
        have HS := Lib.hid (fun W (hW : Below w.heap.size w W) => SpTo.same h hW)
        clear h hb0 hm hlb HWF hmo
        go_enter Try.func39, Try.ntmps39
        go_wp2_with (go_at_call 57; refine (HN.out _).mono ?_; rintro e w1 ⟨rfl, b1⟩; refine Hid.out ?_)
        refine Lib.hid ?_
        have HB1 := Lib.hid (below_up HB0.out b1 HB0.out.size)
        have HX1 := Lib.hid (HX0.out.up b1)
        clear b1
        go_wp2_with (first
          | (refine plV rfl (sV s) (exec_load_any 27 (.tmp 5) rfl w.heap.size 0 (sR s) _ rfl (rangeAll HX1.out) Try.underlying27 rfl sp_info) ?_)
          | (go_at_call 61; refine (HO.out _).mono ?_; rintro e w2 ⟨rfl, b2⟩; refine Hid.out ?_))
        refine Lib.hid ?_
        have HB2 := Lib.hid (below_up HB1.out b2 HB1.out.size)
        clear b2
        go_wp2_with (go_at_call 51; refine (HLA.out _ HB2.out).mono ?_; rintro e w3 ⟨rfl, b3⟩; refine Hid.out ?_)
        refine Lib.hid ?_
        have HR := Lib.hid (HS.out _ (below_up HB2.out b3 HB2.out.size))
        clear b3
        go_wp2
        go_ret
        exact ⟨rfl, HR.out⟩
      · rw [if_neg hl] at HWF ⊢
        rw [decide_eq_false hl] at HLA
        have HLE := Lib.hid (fun W (hW : Below w.heap.size w W) => sleft_any 0 s hmo W (h.up hW))
        cases hh : hasS (t.left 0) s with
        | false =>
          rw [hh] at HLE
          rw [if_pos rfl]
          have HS := Lib.hid (fun W (hW : Below w.heap.size w W) => SpTo.same h hW)
          clear h hb0 hm hlb HWF hmo hh
          go_enter Try.func39, Try.ntmps39
          go_wp2_with (go_at_call 57; refine (HN.out _).mono ?_; rintro e w1 ⟨rfl, b1⟩; refine Hid.out ?_)
          refine Lib.hid ?_
          have HB1 := Lib.hid (below_up HB0.out b1 HB0.out.size)
          have HX1 := Lib.hid (HX0.out.up b1)
          clear b1
          go_wp2_with (first
            | (refine plV rfl (sV s) (exec_load_any 27 (.tmp 5) rfl w.heap.size 0 (sR s) _ rfl (rangeAll HX1.out) Try.underlying27 rfl sp_info) ?_)
            | (go_at_call 61; refine (HO.out _).mono ?_; rintro e w2 ⟨rfl, b2⟩; refine Hid.out ?_))
          refine Lib.hid ?_
          have HB2 := Lib.hid (below_up HB1.out b2 HB1.out.size)
          have HX2 := Lib.hid (HX1.out.up b2)
          clear b2
          go_wp2_with (go_at_call 51; refine (HLA.out _ HB2.out).mono ?_; rintro e w3 ⟨rfl, b3⟩; refine Hid.out ?_)
          refine Lib.hid ?_
          have HB3 := Lib.hid (below_up HB2.out b3 HB2.out.size)
          have HX3 := Lib.hid (HX2.out.up b3)
          clear b3
          go_wp2_with (first
            | (refine plV rfl (sV s) (exec_load_any 27 (.tmp 5) rfl w.heap.size 0 (sR s) _ rfl (rangeAll HX3.out) Try.underlying27 rfl sp_info) ?_)
            | (go_at_call 62; refine (HLE.out _ HB3.out).mono ?_; rintro e w4 ⟨rfl, b4⟩; refine Hid.out ?_))
          refine Lib.hid ?_
          have HR := Lib.hid (HS.out _ (below_up HB3.out b4 HB3.out.size))
          clear b4
          go_wp2
          go_ret
          exact ⟨rfl, HR.out⟩
        | true =>
          rw [hh] at HLE HWF
          rw [if_neg (by simp)] at HWF ⊢
          have HS := Lib.hid (fun W (hW : Below w.heap.size w W) => SpTo.area h hW k.toNat (by omega) s (by rw [show ((k.toNat : Nat) : Int) = k by omega]; exact HWF.out))
          rw [show ((k.toNat : Nat) : Int) = k by omega] at HS
          clear h hb0 hm hlb HWF hmo hh
          go_enter Try.func39, Try.ntmps39
          go_wp2_with (go_at_call 57; refine (HN.out _).mono ?_; rintro e w1 ⟨rfl, b1⟩; refine Hid.out ?_)
          refine Lib.hid ?_
          have HB1 := Lib.hid (below_up HB0.out b1 HB0.out.size)
          have HX1 := Lib.hid (HX0.out.up b1)
          clear b1
          go_wp2_with (first
            | (refine plV rfl (sV s) (exec_load_any 27 (.tmp 5) rfl w.heap.size 0 (sR s) _ rfl (rangeAll HX1.out) Try.underlying27 rfl sp_info) ?_)
            | (go_at_call 61; refine (HO.out _).mono ?_; rintro e w2 ⟨rfl, b2⟩; refine Hid.out ?_))
          refine Lib.hid ?_
          have HB2 := Lib.hid (below_up HB1.out b2 HB1.out.size)
          have HX2 := Lib.hid (HX1.out.up b2)
          clear b2
          go_wp2_with (go_at_call 51; refine (HLA.out _ HB2.out).mono ?_; rintro e w3 ⟨rfl, b3⟩; refine Hid.out ?_)
          refine Lib.hid ?_
          have HB3 := Lib.hid (below_up HB2.out b3 HB2.out.size)
          have HX3 := Lib.hid (HX2.out.up b3)
          clear b3
          go_wp2_with (first
            | (refine plV rfl (sV s) (exec_load_any 27 (.tmp 5) rfl w.heap.size 0 (sR s) _ rfl (rangeAll HX3.out) Try.underlying27 rfl sp_info) ?_)
            | (go_at_call 62; refine (HLE.out _ HB3.out).mono ?_; rintro e w4 ⟨rfl, b4⟩; refine Hid.out ?_))
          refine Lib.hid ?_
          have hb4 := below_up HB3.out b4 HB3.out.size
          have HB4 := Lib.hid (below_up hb4 (Below.refl _ _).drew hb4.size)
          have HX4 := Lib.hid ((HX3.out.up b4).up (Below.refl _ _).drew)
          clear b4 hb4
          have hM4 := HM.out.up HB4.out
          go_wp2
          refine wp_region_noPanic ?_
          refine wp_region_held_drew (S := HeldPs w.heap.size s) (by kernel_rfl) (rangeAll HX4.out) (fun hHeld => ?_)
          generalize w4.drew = wd at *
          have y2 : wd.cell? ⟨pt, 2, none⟩ = some (.int .i64 t.a1.f) := by rw [hM4.bx.cell]; rfl
          have y3 : wd.cell? ⟨pt, 3, none⟩ = some (.int .i64 t.a1.l) := by rw [hM4.bx.cell]; rfl
          have y4 : wd.cell? ⟨pt, 4, none⟩ = some (.int .i64 t.a2.f) := by rw [hM4.bx.cell]; rfl
          have y5 : wd.cell? ⟨pt, 5, none⟩ = some (.int .i64 t.a2.l) := by rw [hM4.bx.cell]; rfl
          have z2 := hM4.bx.frozen 2
          have z3 := hM4.bx.frozen 3
          have z4 := hM4.bx.frozen 4
          have z5 := hM4.bx.frozen 5
          have hXp : w.heap.size ≠ pt := fun e => by
            have h1 := HX4.out
            have h2 := hM4.bx
            unfold Bx at h1 h2
            rw [e, h2] at h1
            have h3 := (Obj.cells.inj (Option.some.inj h1)).2.1
            revert h3
            decide
          clear hM4
          rcases hk with rfl | rfl
          · have hHeldY : True := trivial
            refine held_take (v := ?v192) 0 rfl (by kernel_rfl) (by kernel_rfl) (by kernel_rfl) (fun _ _ _ h => h) (by rfl) ?y192 (by assumption) ?_
            case y192 => (intro w hSw; unfold HeldPs at hSw; go_simp; (try with_reducible rfl); (try omega))
            simp only [List.setIfInBounds_toArray, List.set_cons_zero, List.set_cons_succ]
            refine held_take (v := ?v195) 1 rfl (by kernel_rfl) (by kernel_rfl) (by kernel_rfl) (fun _ _ _ h => h) (by rfl) ?y195 (by assumption) ?_
            case y195 => (intro w hSw; unfold HeldPs at hSw; go_simp; (try with_reducible rfl); (try omega))
            simp only [List.setIfInBounds_toArray, List.set_cons_zero, List.set_cons_succ]
            refine held_take (v := sV s) 2 rfl (by kernel_rfl) (by kernel_rfl) (by kernel_rfl) (fun _ _ _ h => h) (by rfl) (fun W hSw => exec_load_any _ (.tmp 5) rfl w.heap.size 0 (sR s) _ rfl hSw Try.underlying27 rfl sp_info) (by assumption) ?_
            simp only [List.setIfInBounds_toArray, List.set_cons_zero, List.set_cons_succ]
            refine held_take (v := ?v200) 3 rfl (by kernel_rfl) (by kernel_rfl) (by kernel_rfl) (fun _ _ _ h => h) (by rfl) ?y200 (by assumption) ?_
            case y200 => (intro w hSw; unfold HeldPs at hSw; go_simp; (try with_reducible rfl); (try omega))
            simp only [List.setIfInBounds_toArray, List.set_cons_zero, List.set_cons_succ]
            refine held_take (v := ?v203) 4 rfl (by kernel_rfl) (by kernel_rfl) (by kernel_rfl) (fun _ _ _ h => h) (by rfl) ?y203 (by assumption) ?_
            case y203 => (intro w hSw; unfold HeldPs at hSw; go_simp; (try with_reducible rfl); (try omega))
            simp only [List.setIfInBounds_toArray, List.set_cons_zero, List.set_cons_succ]
            refine held_take (v := ?v206) 5 rfl (by kernel_rfl) (by kernel_rfl) (by kernel_rfl) (fun _ _ _ h => h) (by rfl) ?y206 (by assumption) ?_
            case y206 => (intro w hSw; unfold HeldPs at hSw; go_simp; (try with_reducible rfl); (try omega))
            simp only [List.setIfInBounds_toArray, List.set_cons_zero, List.set_cons_succ]
            refine held_none 6 rfl (by kernel_rfl) (by rfl) (fun K hK => ?_)
            refine wp_of_skip (w' := (wd.setCell ⟨pt, 2, none⟩ (.int .i64 s.f)).setCell ⟨pt, 3, none⟩ (.int .i64 s.l)) (by unfold sV sR; go_simp) ?_
            refine hK.out _ _ (rangeAll ((HX4.out.setOther hXp _ _).setOther hXp _ _)) (fun _ => ?_)
            clear hK K y2 y3 y4 y5 z2 z3 z4 z5 hXp
            refine wpAnyH_done (by kernel_rfl) ?_ _
            refine NoPanic.normal ?_
            have HR := Lib.hid (HS.out wd HB4.out)
            go_wp2
            go_ret
            exact ⟨rfl, HR.out⟩
          · have hHeldY : True := trivial
            refine held_take (v := ?v220) 0 rfl (by kernel_rfl) (by kernel_rfl) (by kernel_rfl) (fun _ _ _ h => h) (by rfl) ?y220 (by assumption) ?_
            case y220 => (intro w hSw; unfold HeldPs at hSw; go_simp; (try with_reducible rfl); (try omega))
            simp only [List.setIfInBounds_toArray, List.set_cons_zero, List.set_cons_succ]
            refine held_take (v := ?v223) 1 rfl (by kernel_rfl) (by kernel_rfl) (by kernel_rfl) (fun _ _ _ h => h) (by rfl) ?y223 (by assumption) ?_
            case y223 => (intro w hSw; unfold HeldPs at hSw; go_simp; (try with_reducible rfl); (try omega))
            simp only [List.setIfInBounds_toArray, List.set_cons_zero, List.set_cons_succ]
            refine held_take (v := sV s) 2 rfl (by kernel_rfl) (by kernel_rfl) (by kernel_rfl) (fun _ _ _ h => h) (by rfl) (fun W hSw => exec_load_any _ (.tmp 5) rfl w.heap.size 0 (sR s) _ rfl hSw Try.underlying27 rfl sp_info) (by assumption) ?_
            simp only [List.setIfInBounds_toArray, List.set_cons_zero, List.set_cons_succ]
            refine held_take (v := ?v228) 3 rfl (by kernel_rfl) (by kernel_rfl) (by kernel_rfl) (fun _ _ _ h => h) (by rfl) ?y228 (by assumption) ?_
            case y228 => (intro w hSw; unfold HeldPs at hSw; go_simp; (try with_reducible rfl); (try omega))
            simp only [List.setIfInBounds_toArray, List.set_cons_zero, List.set_cons_succ]
            refine held_take (v := ?v231) 4 rfl (by kernel_rfl) (by kernel_rfl) (by kernel_rfl) (fun _ _ _ h => h) (by rfl) ?y231 (by assumption) ?_
            case y231 => (intro w hSw; unfold HeldPs at hSw; go_simp; (try with_reducible rfl); (try omega))
            simp only [List.setIfInBounds_toArray, List.set_cons_zero, List.set_cons_succ]
            refine held_take (v := ?v234) 5 rfl (by kernel_rfl) (by kernel_rfl) (by kernel_rfl) (fun _ _ _ h => h) (by rfl) ?y234 (by assumption) ?_
            case y234 => (intro w hSw; unfold HeldPs at hSw; go_simp; (try with_reducible rfl); (try omega))
            simp only [List.setIfInBounds_toArray, List.set_cons_zero, List.set_cons_succ]
            refine held_none 6 rfl (by kernel_rfl) (by rfl) (fun K hK => ?_)
            refine wp_of_skip (w' := (wd.setCell ⟨pt, 4, none⟩ (.int .i64 s.f)).setCell ⟨pt, 5, none⟩ (.int .i64 s.l)) (by unfold sV sR; go_simp) ?_
            refine hK.out _ _ (rangeAll ((HX4.out.setOther hXp _ _).setOther hXp _ _)) (fun _ => ?_)
            clear hK K y2 y3 y4 y5 z2 z3 z4 z5 hXp
            refine wpAnyH_done (by kernel_rfl) ?_ _
            refine NoPanic.normal ?_
            have HR := Lib.hid (HS.out wd HB4.out)
            go_wp2
            go_ret
            exact ⟨rfl, HR.out⟩
  · rw [if_pos (show k < 1 ∨ 2 < k by omega)]
    rw [decide_eq_false hk] at HN
    have HS := Lib.hid (fun W (hW : Below w.heap.size w W) => SpTo.same h hW)
    clear h hb0 hlb HWF
    go_enter Try.func39, Try.ntmps39
    go_wp2_with (go_at_call 57; refine (HN.out _).mono ?_; rintro e w1 ⟨rfl, b1⟩; refine Hid.out ?_)
    refine Lib.hid ?_
    have HR := Lib.hid (HS.out _ (below_up HB0.out b1 HB0.out.size))
    clear b1
    go_wp2
    go_ret
    exact ⟨rfl, HR.out⟩
end Go.Proofs.Ytgelbeglffjdaaa
