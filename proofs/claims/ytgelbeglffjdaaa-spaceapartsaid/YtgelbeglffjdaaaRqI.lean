/- The document's space: Area, Index, Owner. The document's space: Area; a space with one more block. -/
import Derived.Test.YtgelbeglffjdaaaRq1
import Derived.Test.YtgelbeglffjdaaaSqR
import Derived.Deep.AppendLies
namespace Go.Proofs.Ytgelbeglffjdaaa
open Go Go.RowKit Go.Shelf
attribute [local go_sem] Oper.semAt_some

set_option maxRecDepth 100000 in
set_option maxHeartbeats 1000000 in
theorem rindex_any (t : SpS) (vl : Value) (n : Int) (hn : -9223372036854775808 ≤ n ∧ n ≤ 9223372036854775807) (hwf : WF t) (w : World) :
    Calls Try.prog 16 #[rqV t vl, .int .i64 n] w fun e w' => e = .returned (.tuple #[.int .i64 (t.index n).1, .bool (t.index n).2]) ∧ Below w.heap.size w w' := by
  have HB := Lib.hid ((Below.refl w.heap.size w).alloc (Nat.le_refl _) (.cells (rqR t vl).toArray 31))
  obtain ⟨r2, r4, _⟩ := rq_ar (Bx.new w 31 (rqR t vl))
  have x2 := rng0 r2
  have x3 := rng1 r2
  have hb := hwf.o1
  unfold SpS.index
  rw [show rqV t vl = .agg (rqR t vl).toArray from rfl]
  generalize t.a1 = s at *
  by_cases h0 : s.f = 0
  · rw [if_pos (.inl h0)]
    rw [h0] at x2
    clear r2 r4 hb
    go_enter Try.func16, Try.ntmps16
    go_wp2
    go_ret2
    exact ⟨rfl, HB.out⟩
  · have hbb : 16 ≤ s.f ∧ s.f ≤ s.l ∧ s.l ≤ 1048575 := by
      rcases hb with h9 | h9
      · rw [h9] at h0; exact absurd rfl h0
      · exact h9
    obtain ⟨hb1, hb2, hb3⟩ := hbb
    have hf0 : (s.f == 0) = false := by simpa using h0
    have k1 : IntKind.i64.wrap (s.l - s.f) = s.l - s.f := by simp [IntKind.wrap, IntKind.bits, IntKind.signed]; omega
    by_cases hc : n < 0 ∨ s.l - s.f < n
    · rw [if_pos (show s.f = 0 ∨ n < 0 ∨ s.l - s.f < n from .inr hc)]
      clear r2 r4 hb
      by_cases hc1 : n < 0
      · go_enter Try.func16, Try.ntmps16
        go_wp2
        all_goals first
          | (go_ret2; exact ⟨rfl, HB.out⟩)
          | (exfalso; omega)
      · have hc2 : s.l - s.f < n := by omega
        go_enter Try.func16, Try.ntmps16
        go_wp2
        all_goals first
          | (go_ret2; exact ⟨rfl, HB.out⟩)
          | (exfalso; omega)
    · rw [if_neg (show ¬ (s.f = 0 ∨ n < 0 ∨ s.l - s.f < n) by omega)]
      have k2 : IntKind.i64.wrap (s.f + n) = s.f + n := by simp [IntKind.wrap, IntKind.bits, IntKind.signed]; omega
      have hn0 : ¬ n < 0 := by omega
      have hn1 : ¬ s.l - s.f < n := by omega
      clear r2 r4 hb hc
      go_enter Try.func16, Try.ntmps16
      go_wp2
      go_ret2
      exact ⟨rfl, HB.out⟩
set_option maxRecDepth 100000 in
set_option maxHeartbeats 1000000 in
theorem rowner_any (t : SpS) (vl : Value) (n : Int) (w : World) (hln : t.l.length ≤ 1000) (hkl : IsK w vl t.l) :
    Calls Try.prog 14 #[rqV t vl, .int .i64 n] w fun e w' => e = .returned (.tuple #[.int .i64 (ownB n t.l).1, .int .i64 (ownB n t.l).2]) ∧ Below w.heap.size w w' := by
  have mixed : Try.prog.follows .mixedOrders = true := by kernel_rfl
  have HK := Lib.hid hkl
  obtain ⟨ab, cb, hvb, hcb⟩ := hkl.form
  subst hvb
  have hb0 : Below w.heap.size w (w.alloc (.cells (rqR t (.slice ab t.l.length cb)).toArray 31)) := (Below.refl _ _).alloc (Nat.le_refl _) _
  have HX0 := Lib.hid (Bx.new w 31 (rqR t (.slice ab t.l.length cb)))
  have HB0 := Lib.hid hb0
  rw [show rqV t (.slice ab t.l.length cb) = .agg (rqR t (.slice ab t.l.length cb)).toArray from rfl]
  obtain ⟨R, hR⟩ : ∃ R, ownB n t.l = R := ⟨_, rfl⟩
  rw [hR]
  have HR0 := Lib.hid (show ownB n (t.l.drop 0) = R from hR)
  clear hb0 hkl hR
  go_enter Try.func14, Try.ntmps14
  go_wp2
  generalize w.alloc (.cells (rqR t (.slice ab t.l.length cb)).toArray 31) = w1 at *
  go_loopw [6] (fun i wr => ∃ j : Nat, j ≤ t.l.length ∧ i = .int .i64 (j : Int) ∧ Hid (ownB n (t.l.drop j) = R) ∧ Below w1.heap.size w1 wr) (fun i _ => t.l.length - (intOf i).toNat)
  case atStart => exact ⟨0, Nat.zero_le _, rfl, HR0, Below.refl _ _⟩
  case round =>
    obtain ⟨j, hj, rfl, HRJ, hbel⟩ := hrel
    have hX := HX0.out.up hbel
    have c6 : wr.cell? ⟨w.heap.size, 6, none⟩ = some (.slice ab t.l.length cb) := (rq_ar hX).2.2
    by_cases hlt : j < t.l.length
    · have hlti : (j : Int) < (t.l.length : Int) := by omega
      have h0k : (0 : Int) ≤ (j : Int) := by omega
      obtain ⟨x, hx⟩ : ∃ x, t.l[j]? = some x := ⟨t.l[j], List.getElem?_eq_getElem hlt⟩
      obtain ⟨bb, bo, rfl, hbb⟩ : ∃ bb bo, ab = some ⟨bb, bo, none⟩ ∧ bb < w.heap.size := by
        obtain ⟨_, _, _, h4⟩ := HK.out.shape
        obtain ⟨b, o, e1, e2, _⟩ := h4 (by omega)
        exact ⟨b, o, e1, e2⟩
      have hr := IsK.range (HK.out.below (below_up HB0.out hbel HB0.out.size)) j x hx
      have y0 : wr.cell? ⟨bb, bo + j * 4, none⟩ = some (.int .i64 x.s.f) := hr 0 _ rfl
      have y1 : wr.cell? ⟨bb, bo + j * 4 + 1, none⟩ = some (.int .i64 x.s.l) := hr 1 _ rfl
      have y2 : wr.cell? ⟨bb, bo + j * 4 + 2, none⟩ = some (.int .i64 x.o) := hr 2 _ rfl
      have y3 : wr.cell? ⟨bb, bo + j * 4 + 3, none⟩ = some (.int .i64 x.a) := hr 3 _ rfl
      have hdrop : t.l.drop j = x :: t.l.drop (j + 1) := by
        rw [List.drop_eq_getElem_cons hlt]
        congr 1
        rw [List.getElem?_eq_getElem hlt] at hx
        exact Option.some.inj hx
      have HST := Lib.hid (show (if x.s.f ≤ n ∧ n ≤ x.s.l then (x.o, x.a) else ownB n (t.l.drop (j + 1))) = R by
        rw [← HRJ.out, hdrop]; rfl)
      have HF := Lib.hid (below_up HB0.out (below_up hbel (Below.refl _ _).drew hbel.size) HB0.out.size)
      have HBW := Lib.hid hbel
      clear hx hX hr hdrop hbel
      by_cases q1 : x.s.f ≤ n
      · by_cases q2 : n ≤ x.s.l
        · have HE := Lib.hid (show R = (x.o, x.a) by rw [← HST.out, if_pos ⟨q1, q2⟩])
          go_wp2
          go_region
          go_wp2
          go_ret2
          exact ⟨by rw [HE.out]; rfl, HF.out⟩
        · have HE := Lib.hid (show ownB n (t.l.drop (j + 1)) = R by rw [← HST.out, if_neg (fun h => q2 h.2)])
          go_wp2
          go_roundw
          case rel => exact ⟨j + 1, by omega, rfl, HE, HBW.out⟩
          case measure => simp only [intOf]; omega
      · have HE := Lib.hid (show ownB n (t.l.drop (j + 1)) = R by rw [← HST.out, if_neg (fun h => q1 h.1)])
        go_wp2
        go_roundw
        case rel => exact ⟨j + 1, by omega, rfl, HE, HBW.out⟩
        case measure => simp only [intOf]; omega
    · have HE := Lib.hid (show R = (0, 0) by rw [← HRJ.out, List.drop_eq_nil_of_le (by omega)]; rfl)
      have HF := Lib.hid (below_up HB0.out hbel HB0.out.size)
      have hlti : ¬ ((j : Int) < (t.l.length : Int)) := by omega
      clear hX hbel
      go_wp2
      go_ret2
      exact ⟨by rw [HE.out]; rfl, HF.out⟩
end Go.Proofs.Ytgelbeglffjdaaa
namespace Go.Proofs.Ytgelbeglffjdaaa
open Go Go.RowKit Go.Shelf
attribute [local go_sem] Oper.semAt_some

set_option maxRecDepth 100000 in
set_option maxHeartbeats 2000000 in
theorem rarea_any (t : SpS) (vl : Value) (k : Int) (w : World) : Calls Try.prog 47 #[rqV t vl, .int .i64 k] w fun e w' => e = .returned (arRes (t.area k)) ∧ Below w.heap.size w w' := by
  have hb0 : Below w.heap.size w (w.alloc (.cells (rqR t vl).toArray 31)) := (Below.refl _ _).alloc (Nat.le_refl _) _
  have hb1 : Below (w.alloc (.cells (rqR t vl).toArray 31)).heap.size (w.alloc (.cells (rqR t vl).toArray 31)) ((w.alloc (.cells (rqR t vl).toArray 31)).alloc (.cells #[.int .i64 0, .int .i64 0] 27)) := (Below.refl _ _).alloc (Nat.le_refl _) _
  have hs0 : (w.alloc (.cells (rqR t vl).toArray 31)).heap.size = w.heap.size + 1 := by simp
  have hy := Bx.new (w.alloc (.cells (rqR t vl).toArray 31)) 27 (sR ⟨0, 0⟩)
  rw [hs0] at hy
  have HY1 := Lib.hid (show Bx ((w.alloc (.cells (rqR t vl).toArray 31)).alloc (.cells #[.int .i64 0, .int .i64 0] 27)) (w.heap.size + 1) 27 (sR ⟨0, 0⟩) from hy)
  have HB1 := Lib.hid (below_up hb0 hb1 hb0.size)
  obtain ⟨r2, r4, _⟩ := rq_ar ((Bx.new w 31 (rqR t vl)).up hb1)
  have r2 : ((w.alloc (.cells (rqR t vl).toArray 31)).alloc (.cells #[.int .i64 0, .int .i64 0] 27)).rangeAt w.heap.size 2 (sR t.a1) := r2
  have r4 : ((w.alloc (.cells (rqR t vl).toArray 31)).alloc (.cells #[.int .i64 0, .int .i64 0] 27)).rangeAt w.heap.size 4 (sR t.a2) := r4
  have x2 := rng0 r2
  have x4 := rng0 r4
  rw [show rqV t vl = .agg (rqR t vl).toArray from rfl]
  unfold SpS.area
  clear hy hb0 hb1 hs0
  by_cases h1 : k < 1
  · rw [if_pos (.inl h1)]
    go_enter Try.func47, Try.ntmps47
    go_wp2_with (refine plS rfl (exec_store_bxK _ (.tmp 4) (.tmp 20) rfl (w.heap.size + 1) (sR ⟨0, 0⟩) _ rfl rfl HY1.out sp_info rfl (sR_one _)) ?_)
    have HX9 := Lib.hid (HY1.out.row (sR ⟨0, 0⟩))
    have HB9 := Lib.hid (below_row HB1.out (Nat.le_succ _) (sR ⟨0, 0⟩).toArray)
    generalize ((w.alloc (.cells (rqR t vl).toArray 31)).alloc (.cells #[.int .i64 0, .int .i64 0] 27)).setRow (w.heap.size + 1) (sR ⟨0, 0⟩).toArray = WZ at HX9 HB9 ⊢
    have z0 : WZ.cell? ⟨w.heap.size + 1, 0, none⟩ = some (.int .i64 (⟨0, 0⟩ : Spn).f) := by rw [HX9.out.cell]; rfl
    have z1 : WZ.cell? ⟨w.heap.size + 1, 1, none⟩ = some (.int .i64 (⟨0, 0⟩ : Spn).l) := by rw [HX9.out.cell]; rfl
    (try simp only at z0 z1)
    exact bodyPost_ret (v := arRes (⟨0, 0⟩, false)) (by simp [results, Try.results47, go_sem, arRes, sV, sR, z0, z1]) rfl ⟨rfl, HB9.out⟩
  · by_cases h2 : 2 < k
    · rw [if_pos (.inr (.inl h2))]
      go_enter Try.func47, Try.ntmps47
      go_wp2_with (refine plS rfl (exec_store_bxK _ (.tmp 4) (.tmp 20) rfl (w.heap.size + 1) (sR ⟨0, 0⟩) _ rfl rfl HY1.out sp_info rfl (sR_one _)) ?_)
      have HX9 := Lib.hid (HY1.out.row (sR ⟨0, 0⟩))
      have HB9 := Lib.hid (below_row HB1.out (Nat.le_succ _) (sR ⟨0, 0⟩).toArray)
      generalize ((w.alloc (.cells (rqR t vl).toArray 31)).alloc (.cells #[.int .i64 0, .int .i64 0] 27)).setRow (w.heap.size + 1) (sR ⟨0, 0⟩).toArray = WZ at HX9 HB9 ⊢
      have z0 : WZ.cell? ⟨w.heap.size + 1, 0, none⟩ = some (.int .i64 (⟨0, 0⟩ : Spn).f) := by rw [HX9.out.cell]; rfl
      have z1 : WZ.cell? ⟨w.heap.size + 1, 1, none⟩ = some (.int .i64 (⟨0, 0⟩ : Spn).l) := by rw [HX9.out.cell]; rfl
      (try simp only at z0 z1)
      exact bodyPost_ret (v := arRes (⟨0, 0⟩, false)) (by simp [results, Try.results47, go_sem, arRes, sV, sR, z0, z1]) rfl ⟨rfl, HB9.out⟩
    · by_cases hk : k = 1
      · subst hk
        rw [show t.ar 1 = t.a1 from rfl]
        by_cases hf : t.a1.f = 0
        · rw [if_pos (.inr (.inr hf))]
          rw [hf] at x2
          go_enter Try.func47, Try.ntmps47
          go_wp2_with (refine plS rfl (exec_store_bxK _ (.tmp 4) (.tmp 20) rfl (w.heap.size + 1) (sR ⟨0, 0⟩) _ rfl rfl HY1.out sp_info rfl (sR_one _)) ?_)
          have HX9 := Lib.hid (HY1.out.row (sR ⟨0, 0⟩))
          have HB9 := Lib.hid (below_row HB1.out (Nat.le_succ _) (sR ⟨0, 0⟩).toArray)
          generalize ((w.alloc (.cells (rqR t vl).toArray 31)).alloc (.cells #[.int .i64 0, .int .i64 0] 27)).setRow (w.heap.size + 1) (sR ⟨0, 0⟩).toArray = WZ at HX9 HB9 ⊢
          have z0 : WZ.cell? ⟨w.heap.size + 1, 0, none⟩ = some (.int .i64 (⟨0, 0⟩ : Spn).f) := by rw [HX9.out.cell]; rfl
          have z1 : WZ.cell? ⟨w.heap.size + 1, 1, none⟩ = some (.int .i64 (⟨0, 0⟩ : Spn).l) := by rw [HX9.out.cell]; rfl
          (try simp only at z0 z1)
          exact bodyPost_ret (v := arRes (⟨0, 0⟩, false)) (by simp [results, Try.results47, go_sem, arRes, sV, sR, z0, z1]) rfl ⟨rfl, HB9.out⟩
        · rw [if_neg (show ¬ ((1 : Int) < 1 ∨ (2 : Int) < 1 ∨ t.a1.f = 0) by rintro (h | h | h); omega; omega; exact hf h)]
          have hfb : (t.a1.f == 0) = false := by simpa using hf
          obtain ⟨s, hs⟩ : ∃ s, t.a1 = s := ⟨_, rfl⟩
          rw [hs] at r2 x2 hfb ⊢
          clear hs hf
          go_enter Try.func47, Try.ntmps47
          go_wp2_with (first
            | (refine plV rfl (sV s) (exec_load_any 27 (.tmp 23) rfl w.heap.size 2 (sR s) _ rfl r2 Try.underlying27 rfl sp_info) ?_)
            | (refine plS rfl (exec_store_bxK _ (.tmp 4) (.tmp 24) rfl (w.heap.size + 1) (sR s) _ rfl rfl HY1.out sp_info rfl (sR_one _)) ?_))
          have HX9 := Lib.hid (HY1.out.row (sR s))
          have HB9 := Lib.hid (below_row HB1.out (Nat.le_succ _) (sR s).toArray)
          generalize ((w.alloc (.cells (rqR t vl).toArray 31)).alloc (.cells #[.int .i64 0, .int .i64 0] 27)).setRow (w.heap.size + 1) (sR s).toArray = WZ at HX9 HB9 ⊢
          have z0 : WZ.cell? ⟨w.heap.size + 1, 0, none⟩ = some (.int .i64 (s : Spn).f) := by rw [HX9.out.cell]; rfl
          have z1 : WZ.cell? ⟨w.heap.size + 1, 1, none⟩ = some (.int .i64 (s : Spn).l) := by rw [HX9.out.cell]; rfl
          (try simp only at z0 z1)
          exact bodyPost_ret (v := arRes (s, true)) (by simp [results, Try.results47, go_sem, arRes, sV, sR, z0, z1]) rfl ⟨rfl, HB9.out⟩
      · have hk2 : k = 2 := by omega
        subst hk2
        rw [show t.ar 2 = t.a2 from rfl]
        by_cases hf : t.a2.f = 0
        · rw [if_pos (.inr (.inr hf))]
          rw [hf] at x4
          go_enter Try.func47, Try.ntmps47
          go_wp2_with (refine plS rfl (exec_store_bxK _ (.tmp 4) (.tmp 20) rfl (w.heap.size + 1) (sR ⟨0, 0⟩) _ rfl rfl HY1.out sp_info rfl (sR_one _)) ?_)
          have HX9 := Lib.hid (HY1.out.row (sR ⟨0, 0⟩))
          have HB9 := Lib.hid (below_row HB1.out (Nat.le_succ _) (sR ⟨0, 0⟩).toArray)
          generalize ((w.alloc (.cells (rqR t vl).toArray 31)).alloc (.cells #[.int .i64 0, .int .i64 0] 27)).setRow (w.heap.size + 1) (sR ⟨0, 0⟩).toArray = WZ at HX9 HB9 ⊢
          have z0 : WZ.cell? ⟨w.heap.size + 1, 0, none⟩ = some (.int .i64 (⟨0, 0⟩ : Spn).f) := by rw [HX9.out.cell]; rfl
          have z1 : WZ.cell? ⟨w.heap.size + 1, 1, none⟩ = some (.int .i64 (⟨0, 0⟩ : Spn).l) := by rw [HX9.out.cell]; rfl
          (try simp only at z0 z1)
          exact bodyPost_ret (v := arRes (⟨0, 0⟩, false)) (by simp [results, Try.results47, go_sem, arRes, sV, sR, z0, z1]) rfl ⟨rfl, HB9.out⟩
        · rw [if_neg (show ¬ ((2 : Int) < 1 ∨ (2 : Int) < 2 ∨ t.a2.f = 0) by rintro (h | h | h); omega; omega; exact hf h)]
          have hfb : (t.a2.f == 0) = false := by simpa using hf
          obtain ⟨s, hs⟩ : ∃ s, t.a2 = s := ⟨_, rfl⟩
          rw [hs] at r4 x4 hfb ⊢
          clear hs hf
          go_enter Try.func47, Try.ntmps47
          go_wp2_with (first
            | (refine plV rfl (sV s) (exec_load_any 27 (.tmp 23) rfl w.heap.size 4 (sR s) _ rfl r4 Try.underlying27 rfl sp_info) ?_)
            | (refine plS rfl (exec_store_bxK _ (.tmp 4) (.tmp 24) rfl (w.heap.size + 1) (sR s) _ rfl rfl HY1.out sp_info rfl (sR_one _)) ?_))
          have HX9 := Lib.hid (HY1.out.row (sR s))
          have HB9 := Lib.hid (below_row HB1.out (Nat.le_succ _) (sR s).toArray)
          generalize ((w.alloc (.cells (rqR t vl).toArray 31)).alloc (.cells #[.int .i64 0, .int .i64 0] 27)).setRow (w.heap.size + 1) (sR s).toArray = WZ at HX9 HB9 ⊢
          have z0 : WZ.cell? ⟨w.heap.size + 1, 0, none⟩ = some (.int .i64 (s : Spn).f) := by rw [HX9.out.cell]; rfl
          have z1 : WZ.cell? ⟨w.heap.size + 1, 1, none⟩ = some (.int .i64 (s : Spn).l) := by rw [HX9.out.cell]; rfl
          (try simp only at z0 z1)
          exact bodyPost_ret (v := arRes (s, true)) (by simp [results, Try.results47, go_sem, arRes, sV, sR, z0, z1]) rfl ⟨rfl, HB9.out⟩
end Go.Proofs.Ytgelbeglffjdaaa
