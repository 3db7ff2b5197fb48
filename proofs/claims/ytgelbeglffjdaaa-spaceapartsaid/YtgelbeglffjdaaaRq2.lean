/- The document's space: what is left of an area. -/
import Derived.Test.YtgelbeglffjdaaaRq1
import Derived.Test.YtgelbeglffjdaaaSqC
namespace Go.Proofs.Ytgelbeglffjdaaa
open Go Go.RowKit Go.Shelf
attribute [local go_sem] Oper.semAt_some

theorem cutAll_len (bs : List Blk) {ps : List Spn} (hp : ∀ p ∈ ps, mayS p) (hn : Normal ps) : (cutAll ps bs).length ≤ ps.length * (bs.length + 1) := by
  obtain ⟨g, hg, hi⟩ := gaps_all bs ps hp
  have : cutAll ps bs = normS g := normal_ext (cutAll_normal bs hn) (norm_ok g).1 (fun n => by rw [cutAll_in, (norm_ok g).2, hi])
  rw [this]
  exact Nat.le_trans (normS_length_le g) hg
/-- A slice of blocks of the document's, as a list. -/
theorem rq_blk {W : World} {b k n cap : Nat} {l : List Blk} (h : IsK W (.slice (some ⟨b, k, none⟩) n cap) l) (i : Nat) (x : Blk) (hx : l[i]? = some x) : W.rangeAt b (k + i * 4) (sR x.s) := fun j v hj => by
  have h1 := IsK.range h i x hx
  match j, hj with
  | 0, hj => exact h1 0 v hj
  | 1, hj => exact h1 1 v hj
  | j + 2, hj => simp [sR] at hj
theorem base_len {t : SpS} (h : WF t) {k : Int} (hg : t.gone k = false) : (t.base k).length ≤ 4 ∧ Normal (t.base k) := by
  have h1 := parts_base h k
  rw [hg, if_neg (by simp)] at h1
  rw [← h1]
  exact ⟨parts_length k, parts_normal h k⟩
/-- The blocks are cut out, one by one: from the row that stands in slot 5 on. -/
def LeftR (t : SpS) (k : Int) : Prop := t.gone k = false ∧ t.left k = cutAll (t.base k) t.l
theorem left_of {t : SpS} {k : Int} (hg : t.gone k = false) : t.left k = cutAll (t.base k) t.l := by unfold SpS.left; rw [hg, if_neg (by simp)]
set_option maxRecDepth 100000 in
set_option maxHeartbeats 4000000 in
theorem rleft1_any (t : SpS) (vl : Value) (w : World) (hwf : WF t) (hln1 : t.l.length ≤ 1000) (hkl : IsK w vl t.l) (hf : t.a1.f ≠ 0) :
    Calls Try.prog 49 #[rqV t vl, .int .i64 1] w fun e w' => ∃ v', e = .returned v' ∧ IsS w' v' (t.left (1 : Int)) ∧ Below w.heap.size w w' := by
  have hg : t.gone 1 = false := by unfold SpS.gone SpS.ar; simp; exact hf
  have HLF := Lib.hid (left_of hg)
  have HBA := Lib.hid (base_len hwf hg)
  have HK := Lib.hid hkl
  obtain ⟨ab, cb, hvb, hcb⟩ := hkl.form
  subst hvb
  have hb0 : Below w.heap.size w (w.alloc (.cells (rqR t (.slice ab t.l.length cb)).toArray 31)) := (Below.refl _ _).alloc (Nat.le_refl _) _
  have HX0 := Lib.hid (Bx.new w 31 (rqR t (.slice ab t.l.length cb)))
  have HB0 := Lib.hid hb0
  obtain ⟨r2, r4, _⟩ := rq_ar HX0.out
  have x2 := rng0 r2
  have x4 := rng0 r4
  rw [show rqV t (.slice ab t.l.length cb) = .agg (rqR t (.slice ab t.l.length cb)).toArray from rfl]
  have HS1 := Lib.hid (isS_new (w.alloc (.cells (rqR t (.slice ab t.l.length cb)).toArray 31)) [t.a1] (by simp) _ rfl)
  have hb1 : Below (w.alloc (.cells (rqR t (.slice ab t.l.length cb)).toArray 31)).heap.size (w.alloc (.cells (rqR t (.slice ab t.l.length cb)).toArray 31)) ((w.alloc (.cells (rqR t (.slice ab t.l.length cb)).toArray 31)).alloc (.cells (sR t.a1).toArray 27)) := (Below.refl _ _).alloc (Nat.le_refl _) _
  have HX4 := Lib.hid (HX0.out.up hb1)
  have HB4 := Lib.hid (below_up hb0 hb1 hb0.size)
  have hs0 : (w.alloc (.cells (rqR t (.slice ab t.l.length cb)).toArray 31)).heap.size = w.heap.size + 1 := by simp
  rw [hs0] at HS1
  have HI4 := Lib.hid (show IsS ((w.alloc (.cells (rqR t (.slice ab t.l.length cb)).toArray 31)).alloc (.cells (sR t.a1).toArray 27)) (.slice (some ⟨w.heap.size + 1, 0, none⟩) 1 1) (cutAll (t.base 1) (t.l.take 0)) from HS1.out)
  clear hb0 hb1 hkl hg HS1
  go_enter Try.func49, Try.ntmps49
  go_wp2_with (first
    | (refine plV rfl (sV t.a1) (exec_load_any 27 (.tmp 27) rfl w.heap.size 2 (sR t.a1) _ rfl r2 Try.underlying27 rfl sp_info) ?_)
    | (refine plV rfl (.slice (some ⟨w.heap.size + 1, 0, none⟩) 1 1) (exec_one_spb (.tmp 28) rfl t.a1 rfl _ hs0) ?_))
  generalize (w.alloc (.cells (rqR t (.slice ab t.l.length cb)).toArray 31)).alloc (.cells (sR t.a1).toArray 27) = w4 at *
  clear r2 r4 x2 x4 hs0
  go_loopw [5, 6] (fun vo i wr => ∃ j : Nat, j ≤ t.l.length ∧ i = .int .i64 (j : Int) ∧ Hid (IsS wr vo (cutAll (t.base (1 : Int)) (t.l.take j))) ∧ Below w4.heap.size w4 wr) (fun _ i _ => t.l.length - (intOf i).toNat)
  case atStart => exact ⟨0, Nat.zero_le _, rfl, HI4, Below.refl _ _⟩
  case round =>
    obtain ⟨j, hj, rfl, HIJ, hbel⟩ := hrel
    have hX := HX4.out.up hbel
    have c6 : wr.cell? ⟨w.heap.size, 6, none⟩ = some (.slice ab t.l.length cb) := (rq_ar hX).2.2
    have hln := cutAll_len (t.l.take j) HBA.out.2.may HBA.out.2
    have hl2 : (t.l.take j).length ≤ 1000 := by rw [List.length_take]; omega
    have hl3 : (cutAll (t.base (1 : Int)) (t.l.take j)).length ≤ 4 * 1001 := Nat.le_trans hln (Nat.mul_le_mul HBA.out.1 (by omega))
    by_cases hlt : j < t.l.length
    · have hlti : (j : Int) < (t.l.length : Int) := by omega
      have h0k : (0 : Int) ≤ (j : Int) := by omega
      obtain ⟨x, hx⟩ : ∃ x, t.l[j]? = some x := ⟨t.l[j], List.getElem?_eq_getElem hlt⟩
      obtain ⟨bb, bo, rfl, hbb⟩ : ∃ bb bo, ab = some ⟨bb, bo, none⟩ ∧ bb < w.heap.size := by
        obtain ⟨_, _, _, h4⟩ := HK.out.shape
        obtain ⟨b, o, e1, e2, _⟩ := h4 (by omega)
        exact ⟨b, o, e1, e2⟩
      have hr := rq_blk (HK.out.below (below_up HB4.out hbel HB4.out.size)) j x hx
      have HNX := Lib.hid (cutAll_next (l := t.base (1 : Int)) hx)
      have HCU := Lib.hid (fun v (hv : IsS wr v (cutAll (t.base (1 : Int)) (t.l.take j))) => rcut_any v _ x.s wr hv (by omega))
      have HCT := Lib.hid (HCU.out _ HIJ.out)
      have HBW := Lib.hid hbel
      clear hx hX hln hl3 hbel HCU
      go_wp2_with (first
        | (refine plV rfl (sV x.s) (exec_load_any 27 (.tmp 67) rfl bb (bo + j * 4) (sR x.s) _ rfl hr Try.underlying27 rfl sp_info) ?_)
        | (go_at_call 76; refine HCT.out.mono ?_; rintro e w5 ⟨v5, rfl, i5, b5⟩; refine Hid.out ?_))
      refine Lib.hid ?_
      have HI5 := Lib.hid (show IsS w5 v5 (cutAll (t.base (1 : Int)) (t.l.take (j + 1))) by rw [HNX.out]; exact i5)
      have HB5 := Lib.hid (below_up HBW.out b5 HBW.out.size)
      clear i5 b5
      go_wp2
      go_roundw
      case rel => exact ⟨j + 1, by omega, rfl, HI5, HB5.out⟩
      case measure => simp only [intOf]; omega
    · have hke : j = t.l.length := by omega
      subst hke
      rw [List.take_of_length_le (Nat.le_refl _)] at HIJ
      have hlti : ¬ ((t.l.length : Int) < (t.l.length : Int)) := by omega
      have HR := Lib.hid (show ∀ v, IsS wr v (cutAll (t.base (1 : Int)) t.l) → IsS wr v (t.left (1 : Int)) ∧ Below w.heap.size w wr from fun v hv => ⟨by rw [HLF.out]; exact hv, below_up HB4.out hbel HB4.out.size⟩)
      have HF := Lib.hid (HR.out _ HIJ.out)
      obtain ⟨ax, cx, hvx, hcx⟩ := IsS.form HIJ.out
      subst hvx
      clear hX hln hl3 hbel
      go_wp2
      go_ret
      exact ⟨_, rfl, HF.out⟩
set_option maxRecDepth 100000 in
set_option maxHeartbeats 4000000 in
theorem rleft2_any (t : SpS) (vl : Value) (w : World) (hwf : WF t) (hln1 : t.l.length ≤ 1000) (hkl : IsK w vl t.l) (hf : t.a2.f ≠ 0) :
    Calls Try.prog 49 #[rqV t vl, .int .i64 2] w fun e w' => ∃ v', e = .returned v' ∧ IsS w' v' (t.left (2 : Int)) ∧ Below w.heap.size w w' := by
  have hg : t.gone 2 = false := by unfold SpS.gone SpS.ar; simp; exact hf
  have HLF := Lib.hid (left_of hg)
  have HBA := Lib.hid (base_len hwf hg)
  have HK := Lib.hid hkl
  obtain ⟨ab, cb, hvb, hcb⟩ := hkl.form
  subst hvb
  have hb0 : Below w.heap.size w (w.alloc (.cells (rqR t (.slice ab t.l.length cb)).toArray 31)) := (Below.refl _ _).alloc (Nat.le_refl _) _
  have HX0 := Lib.hid (Bx.new w 31 (rqR t (.slice ab t.l.length cb)))
  have HB0 := Lib.hid hb0
  obtain ⟨r2, r4, _⟩ := rq_ar HX0.out
  have x2 := rng0 r2
  have x4 := rng0 r4
  rw [show rqV t (.slice ab t.l.length cb) = .agg (rqR t (.slice ab t.l.length cb)).toArray from rfl]
  have HS1 := Lib.hid (isS_new (w.alloc (.cells (rqR t (.slice ab t.l.length cb)).toArray 31)) [t.a2] (by simp) _ rfl)
  have hb1 : Below (w.alloc (.cells (rqR t (.slice ab t.l.length cb)).toArray 31)).heap.size (w.alloc (.cells (rqR t (.slice ab t.l.length cb)).toArray 31)) ((w.alloc (.cells (rqR t (.slice ab t.l.length cb)).toArray 31)).alloc (.cells (sR t.a2).toArray 27)) := (Below.refl _ _).alloc (Nat.le_refl _) _
  have HX4 := Lib.hid (HX0.out.up hb1)
  have HB4 := Lib.hid (below_up hb0 hb1 hb0.size)
  have hs0 : (w.alloc (.cells (rqR t (.slice ab t.l.length cb)).toArray 31)).heap.size = w.heap.size + 1 := by simp
  rw [hs0] at HS1
  have HI4 := Lib.hid (show IsS ((w.alloc (.cells (rqR t (.slice ab t.l.length cb)).toArray 31)).alloc (.cells (sR t.a2).toArray 27)) (.slice (some ⟨w.heap.size + 1, 0, none⟩) 1 1) (cutAll (t.base 2) (t.l.take 0)) from HS1.out)
  clear hb0 hb1 hkl hg HS1
  go_enter Try.func49, Try.ntmps49
  go_wp2_with (first
    | (refine plV rfl (sV t.a2) (exec_load_any 27 (.tmp 27) rfl w.heap.size 4 (sR t.a2) _ rfl r4 Try.underlying27 rfl sp_info) ?_)
    | (refine plV rfl (.slice (some ⟨w.heap.size + 1, 0, none⟩) 1 1) (exec_one_spb (.tmp 28) rfl t.a2 rfl _ hs0) ?_))
  generalize (w.alloc (.cells (rqR t (.slice ab t.l.length cb)).toArray 31)).alloc (.cells (sR t.a2).toArray 27) = w4 at *
  clear r2 r4 x2 x4 hs0
  go_loopw [5, 6] (fun vo i wr => ∃ j : Nat, j ≤ t.l.length ∧ i = .int .i64 (j : Int) ∧ Hid (IsS wr vo (cutAll (t.base (2 : Int)) (t.l.take j))) ∧ Below w4.heap.size w4 wr) (fun _ i _ => t.l.length - (intOf i).toNat)
  case atStart => exact ⟨0, Nat.zero_le _, rfl, HI4, Below.refl _ _⟩
  case round =>
    obtain ⟨j, hj, rfl, HIJ, hbel⟩ := hrel
    have hX := HX4.out.up hbel
    have c6 : wr.cell? ⟨w.heap.size, 6, none⟩ = some (.slice ab t.l.length cb) := (rq_ar hX).2.2
    have hln := cutAll_len (t.l.take j) HBA.out.2.may HBA.out.2
    have hl2 : (t.l.take j).length ≤ 1000 := by rw [List.length_take]; omega
    have hl3 : (cutAll (t.base (2 : Int)) (t.l.take j)).length ≤ 4 * 1001 := Nat.le_trans hln (Nat.mul_le_mul HBA.out.1 (by omega))
    by_cases hlt : j < t.l.length
    · have hlti : (j : Int) < (t.l.length : Int) := by omega
      have h0k : (0 : Int) ≤ (j : Int) := by omega
      obtain ⟨x, hx⟩ : ∃ x, t.l[j]? = some x := ⟨t.l[j], List.getElem?_eq_getElem hlt⟩
      obtain ⟨bb, bo, rfl, hbb⟩ : ∃ bb bo, ab = some ⟨bb, bo, none⟩ ∧ bb < w.heap.size := by
        obtain ⟨_, _, _, h4⟩ := HK.out.shape
        obtain ⟨b, o, e1, e2, _⟩ := h4 (by omega)
        exact ⟨b, o, e1, e2⟩
      have hr := rq_blk (HK.out.below (below_up HB4.out hbel HB4.out.size)) j x hx
      have HNX := Lib.hid (cutAll_next (l := t.base (2 : Int)) hx)
      have HCU := Lib.hid (fun v (hv : IsS wr v (cutAll (t.base (2 : Int)) (t.l.take j))) => rcut_any v _ x.s wr hv (by omega))
      have HCT := Lib.hid (HCU.out _ HIJ.out)
      have HBW := Lib.hid hbel
      clear hx hX hln hl3 hbel HCU
      go_wp2_with (first
        | (refine plV rfl (sV x.s) (exec_load_any 27 (.tmp 67) rfl bb (bo + j * 4) (sR x.s) _ rfl hr Try.underlying27 rfl sp_info) ?_)
        | (go_at_call 76; refine HCT.out.mono ?_; rintro e w5 ⟨v5, rfl, i5, b5⟩; refine Hid.out ?_))
      refine Lib.hid ?_
      have HI5 := Lib.hid (show IsS w5 v5 (cutAll (t.base (2 : Int)) (t.l.take (j + 1))) by rw [HNX.out]; exact i5)
      have HB5 := Lib.hid (below_up HBW.out b5 HBW.out.size)
      clear i5 b5
      go_wp2
      go_roundw
      case rel => exact ⟨j + 1, by omega, rfl, HI5, HB5.out⟩
      case measure => simp only [intOf]; omega
    · have hke : j = t.l.length := by omega
      subst hke
      rw [List.take_of_length_le (Nat.le_refl _)] at HIJ
      have hlti : ¬ ((t.l.length : Int) < (t.l.length : Int)) := by omega
      have HR := Lib.hid (show ∀ v, IsS wr v (cutAll (t.base (2 : Int)) t.l) → IsS wr v (t.left (2 : Int)) ∧ Below w.heap.size w wr from fun v hv => ⟨by rw [HLF.out]; exact hv, below_up HB4.out hbel HB4.out.size⟩)
      have HF := Lib.hid (HR.out _ HIJ.out)
      obtain ⟨ax, cx, hvx, hcx⟩ := IsS.form HIJ.out
      subst hvx
      clear hX hln hl3 hbel
      go_wp2
      go_ret
      exact ⟨_, rfl, HF.out⟩
end Go.Proofs.Ytgelbeglffjdaaa
