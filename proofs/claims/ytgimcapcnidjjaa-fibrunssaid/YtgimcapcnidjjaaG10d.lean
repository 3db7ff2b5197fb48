/- The document's tables of both kinds (footplateref10): All, Uses, Below. -/
import Derived.Test.YtgimcapcnidjjaaG10a
import Derived.Test.YtgimcapcnidjjaaFib4
namespace Go.Proofs.Ytgimcapcnidjjaa
open Go Go.RowKit

theorem own_isR {w : World} {base : Nat} {e : TypeId} {v : Value} {M : List (Pfx × Int)} (h16 : ∀ x ∈ M, (itF x).length = 19) (h : w.ownsRow base e 19 v M.length (M.flatMap itF)) : ∃ va vc, v = .slice va M.length vc ∧ IsC itF 19 w (.slice va M.length vc) M := by
  obtain ⟨va, vc, rfl⟩ := own_slice9 h
  exact ⟨va, vc, rfl, IsC.of_owned h16 h⟩
set_option maxRecDepth 100000 in
set_option maxHeartbeats 4000000 in
theorem gall (is : Bool) (room : Int) (D : Bool → Sl) (L : Bool → List (Pfx × Int)) (w : World) (hC : ∀ s, IsC itF 19 w (D s).v (L s)) (hl : ∀ s, (L s).length ≤ 400000) :
    Calls Try.prog 21 #[fV is room D] w fun e w' => ∃ va vc, e = .returned (.slice va (kindL L).length vc) ∧ IsC itF 19 w' (.slice va (kindL L).length vc) (kindL L) ∧ Below w.heap.size w w' := by
  have hb : Below w.heap.size w (w.alloc (.cells (fR is room D).toArray 33)) := (Below.refl _ _).alloc (Nat.le_refl _) _
  have HX := Lib.hid (Bx.new w 33 (fR is room D))
  have HB := Lib.hid hb
  have h16 : ∀ x ∈ kindL L, (itF x).length = 19 := fun x hx => by
    obtain ⟨s, hs⟩ := kind_mem hx
    exact (hC s).1 x hs
  have H16 := Lib.hid h16
  have c3 : (w.alloc (.cells (fR is room D).toArray 33)).cell? ⟨w.heap.size, 3, none⟩ = some (D false).v := by rw [HX.out.cell]; rfl
  have HC4 := Lib.hid ((hC false).below hb)
  have HC6 := Lib.hid (hC true)
  have HL4 := Lib.hid (hl false)
  have HL6 := Lib.hid (hl true)
  have HE : Hid (kindL L = L false ++ L true) := Lib.hid rfl
  have hs0 := HB.out.size
  obtain ⟨ti, hti, htz, hts, htb⟩ := info_parts i_infoF
  rw [show fV is room D = .agg (fR is room D).toArray from rfl]
  clear hC hb h16 hl
  go_enter Try.func21, Try.ntmps21
  go_wp2_with (at_builtin; refine append_flat rfl (.tmp 4) (.tmp 7) 29 rfl w.heap.size 47 ti (itV zeroP 0) 40 Try.underlying29 hti htz hts htb rfl (by decide) (by decide) (.slice none 0 0) 0 [] rfl (World.ownsRow_nil _ _ _ _) (D false).a (D false).n (D false).c (L false) rfl HC4.out (itF_ones _) (by have := HL4.out; omega) hs0 ?_; intro v3 w3 hown hgr; refine Hid.out ?_)
  refine Lib.hid ?_
  have hb3 := HB.out.grown hgr HB.out.size (fun k e => by cases e)
  have hx3 := (hgr.block _ HX.out.lt (fun e => by cases e)).trans HX.out
  have c7 : w3.cell? ⟨w.heap.size, 7, none⟩ = some (D true).v := by rw [Bx.cell hx3]; rfl
  have HB3 := Lib.hid hb3
  have HO3 : Hid (w3.ownsRow w.heap.size 47 19 v3 (L false).length ((L false).flatMap itF)) := Lib.hid (by simpa using hown)
  have HC63 := Lib.hid (HC6.out.below hb3)
  have hs3 := HB3.out.size
  clear hown hgr hb3 hx3 c3 HB HX HC4 HC6 hs0
  go_wp2_with (at_builtin; refine append_flat rfl (.tmp 9) (.tmp 12) 29 rfl w.heap.size 47 ti (itV zeroP 0) 40 Try.underlying29 hti htz hts htb rfl (by decide) (by decide) v3 (L false).length ((L false).flatMap itF) rfl HO3.out (D true).a (D true).n (D true).c (L true) rfl HC63.out (itF_ones _) (by have := HL4.out; have := HL6.out; omega) hs3 ?_; intro v4 w4 hown hgr; refine Hid.out ?_)
  refine Lib.hid ?_
  have HB4 := Lib.hid (own_grown HB3.out HO3.out hgr)
  have HO4 := Lib.hid (own_isR (M := kindL L) H16.out (by rw [HE.out, List.length_append, List.flatMap_append]; exact hown))
  clear hown hgr
  go_wp2
  go_ret
  obtain ⟨va, vc, rfl, hc⟩ := HO4.out
  exact ⟨va, vc, rfl, hc, HB4.out⟩
theorem take_use {v : Int} {L : List (Pfx × Int)} {j : Nat} {x : Pfx × Int} (h : L[j]? = some x) : (useL v (L.take (j + 1))).length = (useL v (L.take j)).length + (if x.2 = v then 1 else 0) := by
  unfold useL
  rw [take_filter h, List.length_append]
  congr 1
  by_cases e : x.2 = v <;> simp [e]
set_option maxRecDepth 100000 in
set_option maxHeartbeats 4000000 in
theorem guses (is : Bool) (room : Int) (D : Bool → Sl) (L : Bool → List (Pfx × Int)) (v : Int) (w : World) (hC : ∀ s, IsC itF 19 w (D s).v (L s)) (hl : ∀ s, (L s).length ≤ 400000) :
    Calls Try.prog 18 #[fV is room D, .int .i64 v] w fun e w' => e = .returned (.int .i64 ((useL v (kindL L)).length : Int)) ∧ Below w.heap.size w w' := by
  have hb : Below w.heap.size w (w.alloc (.cells (fR is room D).toArray 33)) := (Below.refl _ _).alloc (Nat.le_refl _) _
  have R0 := Lib.hid (rangeAll (Bx.new w 33 (fR is room D)))
  have HB := Lib.hid hb
  have HA := Lib.hid (gall is room D L _ (fun s => (hC s).below hb) hl)
  have HL : Hid ((kindL L).length ≤ 800000) := Lib.hid (by have := hl false; have := hl true; rw [kind_len]; omega)
  rw [show fV is room D = .agg (fR is room D).toArray from rfl]
  clear hC hb hl
  generalize kindL L = M at *
  go_enter Try.func18, Try.ntmps18
  go_wp2_with (first
    | (refine plV rfl (fV is room D) (exec_load_any _ (.tmp 2) rfl w.heap.size 0 (fR is room D) _ rfl R0.out Try.underlying33 rfl f_info) ?_)
    | (go_at_call 21; refine HA.out.mono ?_; rintro e w1 ⟨va, vc, rfl, l1, b1⟩; refine Hid.out ?_))
  refine Lib.hid ?_
  have HB1 := Lib.hid (below_up HB.out b1 HB.out.size)
  obtain ⟨_, hcap, hcm, _⟩ := l1.shape
  unfold maxLen at hcm
  have HL1 := Lib.hid l1
  clear l1 b1 HA HB R0
  go_wp2
  go_loopw [6, 7] (fun nv iv wr => ∃ j : Nat, j ≤ M.length ∧ iv = .int .i64 (j : Int) ∧ nv = .int .i64 ((useL v (M.take j)).length : Int) ∧ Below w1.heap.size w1 wr) (fun _ iv _ => M.length - (intOf iv).toNat)
  case atStart => exact ⟨0, by omega, rfl, rfl, Below.refl _ _⟩
  case round =>
    obtain ⟨j, hj, rfl, rfl, hbw⟩ := hrel
    by_cases hje : j = M.length
    · subst hje
      rw [List.take_length]
      have HBW := Lib.hid hbw
      clear hbw
      go_wp2
      go_ret
      exact ⟨rfl, below_up HB1.out HBW.out HB1.out.size⟩
    · have hlt : j < M.length := by omega
      obtain ⟨x, hx⟩ : ∃ x, M[j]? = some x := ⟨_, List.getElem?_eq_getElem hlt⟩
      have hx16 := itF_addr (HL1.out.1 x (List.mem_of_getElem? hx))
      obtain ⟨b, k, rfl, hbl, hr⟩ := isC_at (HL1.out.below hbw) j x hx
      have hjj : (j : Int) < (M.length : Int) := by omega
      have c18 : wr.cell? ⟨b, k + j * 19 + 18, none⟩ = some (.int .i64 x.2) := hr 18 _ (it_v hx16)
      have HTF := Lib.hid (take_use (v := v) hx)
      have hle : (useL v (M.take j)).length ≤ j := Nat.le_trans (List.length_filter_le _ _) (by rw [List.length_take]; omega)
      have HBW := Lib.hid hbw
      have HLL := HL.out
      generalize hU : (useL v (M.take j)).length = u at *
      clear hr hx16 hbw hx
      by_cases he : x.2 = v
      · have he2 : (x.2 == v) = true := by simp [he]
        have HT2 : Hid ((useL v (M.take (j + 1))).length = u + 1) := Lib.hid (by rw [HTF.out, if_pos he])
        clear HTF he
        go_wp2
        go_roundw
        case rel => exact ⟨j + 1, by omega, by go_num, by rw [HT2.out]; go_num, HBW.out⟩
        case measure => simp [intOf]; omega
      · have he2 : (x.2 == v) = false := by simp [he]
        have HT2 : Hid ((useL v (M.take (j + 1))).length = u) := Lib.hid (by rw [HTF.out, if_neg he]; rfl)
        clear HTF he
        go_wp2
        go_roundw
        case rel => exact ⟨j + 1, by omega, by go_num, by rw [HT2.out], HBW.out⟩
        case measure => simp [intOf]; omega
def HeldG10 (B : Nat) (l : List Value) (b k : Nat) (m : List Value) (W : World) : Prop := W.rangeAt B 0 l ∧ W.rangeAt b k m
set_option maxRecDepth 100000 in
set_option maxHeartbeats 8000000 in
theorem gbelow (is : Bool) (room : Int) (D : Bool → Sl) (L : Bool → List (Pfx × Int)) (p : Pfx) (w : World) (hC : ∀ s, IsC itF 19 w (D s).v (L s)) (hl : ∀ s, (L s).length ≤ 400000) (hp : p.addr.length = 16) (h6 : ∀ s, ∀ x ∈ L s, x.1.six = s) :
    Calls Try.prog 25 #[fV is room D, p.val] w fun e w' => ∃ va vc, e = .returned (.slice va (belL p (L p.six)).length vc) ∧ IsC itF 19 w' (.slice va (belL p (L p.six)).length vc) (belL p (L p.six)) ∧ Below w.heap.size w w' := by
  have HT := Lib.hid (twoB_new w 33 25 (fR is room D) p.row)
  have R1 := Lib.hid (rangeAll HT.out.1)
  have R2 := Lib.hid (rangeAll HT.out.2.1)
  have HP := Lib.hid hp
  have HCH := Lib.hid (fun W => qcheck_any p W hp)
  have HA := Lib.hid (fun W (hW : Below w.heap.size w W) => gall is room D L W (fun s => (hC s).below hW) hl)
  have HL : Hid ((kindL L).length ≤ 800000) := Lib.hid (by have := hl false; have := hl true; rw [kind_len]; omega)
  have HE : Hid (chkP p = true → belL p (L p.six) = (kindL L).filter (belF p)) := Lib.hid (fun h => by unfold belL; rw [if_pos h, bel_kind h6])
  have HE0 : Hid (chkP p = false → belL p (L p.six) = []) := Lib.hid (fun h => by unfold belL; rw [h, if_neg (by simp)])
  rw [show fV is room D = .agg (fR is room D).toArray from rfl, show p.val = .agg p.row.toArray from rfl]
  clear hC hp hl h6
  generalize kindL L = M at *
  generalize belL p (L p.six) = R at *
  cases hck : chkP p with
  | false =>
    rw [hck] at HCH
    obtain rfl := HE0.out hck
    simp only [Bool.false_eq_true, if_false] at HCH
    go_enter Try.func25, Try.ntmps25
    go_wp2_with (first
      | (refine plV rfl p.val (exec_load_any _ (.tmp 3) rfl (w.heap.size + 1) 0 p.row _ rfl R2.out Try.underlying25 rfl (pf_infoC HP.out)) ?_)
      | (go_at_call 26; refine (HCH.out _).mono ?_; rintro e w1 ⟨rfl, b1⟩; refine Hid.out ?_))
    refine Lib.hid ?_
    go_wp2
    go_ret
    exact ⟨none, 0, rfl, IsC.nil _, below_up HT.out.2.2 b1 HT.out.2.2.size⟩
  | true =>
    rw [hck] at HCH
    obtain rfl := HE.out hck
    simp only [if_true] at HCH
    clear HE HE0
    go_enter Try.func25, Try.ntmps25
    go_wp2_with (first
      | (refine plV rfl p.val (exec_load_any _ (.tmp 3) rfl (w.heap.size + 1) 0 p.row _ rfl R2.out Try.underlying25 rfl (pf_infoC HP.out)) ?_)
      | (go_at_call 26; refine (HCH.out _).mono ?_; rintro e w1 ⟨rfl, b1⟩; refine Hid.out ?_))
    refine Lib.hid ?_
    have HT1 := Lib.hid (HT.out.up b1)
    have R1 := Lib.hid (rangeAll HT1.out.1)
    have HA1 := Lib.hid (HA.out _ HT1.out.2.2)
    clear b1 HT R2 HA HCH
    go_wp2_with (first
      | (refine plV rfl (fV is room D) (exec_load_any _ (.tmp 2) rfl w.heap.size 0 (fR is room D) _ rfl R1.out Try.underlying33 rfl f_info) ?_)
      | (go_at_call 21; refine HA1.out.mono ?_; rintro e w2 ⟨va, vc, rfl, l2, b2⟩; refine Hid.out ?_))
    refine Lib.hid ?_
    have HB2 := Lib.hid (below_up HT1.out.2.2 b2 HT1.out.2.2.size)
    have HP2 := Lib.hid (HT1.out.2.1.up b2)
    obtain ⟨_, hcap, hcm, _⟩ := l2.shape
    unfold maxLen at hcm
    have HL2 := Lib.hid l2
    obtain ⟨ti, hti, htz, hts, htb⟩ := info_parts i_infoF
    clear l2 b2 HA1 HT1 R1
    go_wp2
    go_loopw [6, 7] (fun kv iv wr => ∃ j : Nat, j ≤ M.length ∧ iv = .int .i64 (j : Int) ∧ wr.ownsRow w2.heap.size 47 19 kv ((M.take j).filter (belF p)).length (((M.take j).filter (belF p)).flatMap itF) ∧ Below w2.heap.size w2 wr) (fun _ iv _ => M.length - (intOf iv).toNat)
    case atStart => exact ⟨0, by omega, rfl, World.ownsRow_nil _ _ _ _, Below.refl _ _⟩
    case round =>
      obtain ⟨j, hj, rfl, hown, hbw⟩ := hrel
      by_cases hje : j = M.length
      · subst hje
        rw [List.take_length] at hown
        have HOWN := Lib.hid (own_isR (M := M.filter (belF p)) (fun x hx => HL2.out.1 x (List.mem_filter.1 hx).1) hown)
        have HBW := Lib.hid (below_up HB2.out hbw HB2.out.size)
        clear hown hbw
        go_wp2
        go_ret
        obtain ⟨ua, uc, rfl, hc⟩ := HOWN.out
        exact ⟨ua, uc, rfl, hc, HBW.out⟩
      · have hlt : j < M.length := by omega
        obtain ⟨x, hx⟩ : ∃ x, M[j]? = some x := ⟨_, List.getElem?_eq_getElem hlt⟩
        have hx16 := itF_addr (HL2.out.1 x (List.mem_of_getElem? hx))
        obtain ⟨b, k, rfl, hbl, hr⟩ := isC_at (HL2.out.below hbw) j x hx
        have hjj : (j : Int) < (M.length : Int) := by omega
        have hH : ∀ W, Below wr.heap.size wr W → HeldG10 (w.heap.size + 1) p.row b (k + j * 19) x.1.row W := fun W hW => ⟨rangeAll ((HP2.out.up hbw).up hW), fun i v hv => (hW.cell (p := ⟨b, k + j * 19 + i, none⟩) hbl).trans (range_pre hr i v hv)⟩
        have HH := Lib.hid hH
        have HR := Lib.hid (fun W (hW : Below wr.heap.size wr W) i v (hv : (itF x)[i]? = some v) => (hW.cell (p := ⟨b, k + j * 19 + i, none⟩) hbl).trans (hr i v hv))
        have HX16 := Lib.hid hx16
        have HQ := Lib.hid (fun W => qcovers_any p x.1 W HP.out hx16)
        have HTF := Lib.hid (take_filter (f := belF p) hx)
        have hlen : ((M.take j).filter (belF p)).length ≤ j := Nat.le_trans (List.length_filter_le _ _) (by rw [List.length_take]; omega)
        have HLEN := Lib.hid hlen
        have HLL := Lib.hid (show j ≤ 800000 by have := HL.out; omega)
        have HO := Lib.hid hown
        have HBW := Lib.hid hbw
        clear hr hx16 hown hbw hx hlen hH
        go_wp2
        refine wp_region_noPanic ?_
        refine wp_region_held_drew (S := HeldG10 (w.heap.size + 1) p.row b (k + j * 19) x.1.row) (by kernel_rfl) (HH.out _ (Below.refl _ _).drew) (fun hHeld => ?_)
        refine held_take (v := p.val) 0 rfl (by kernel_rfl) (by kernel_rfl) (by kernel_rfl) (fun _ _ _ h => h) (by rfl) (fun W hSw => exec_load_any _ (.tmp 3) rfl (w.heap.size + 1) 0 p.row _ rfl hSw.1 Try.underlying25 rfl (pf_infoC HP.out)) (by assumption) ?_
        simp only [List.setIfInBounds_toArray, List.set_cons_zero, List.set_cons_succ]
        refine held_take (v := ?v210) 1 rfl (by kernel_rfl) (by kernel_rfl) (by kernel_rfl) (fun _ _ _ h => h) (by rfl) ?y210 (by assumption) ?_
        case y210 => (intro w hSw; unfold HeldG10 at hSw; go_simp; (try with_reducible rfl); (try omega))
        simp only [List.setIfInBounds_toArray, List.set_cons_zero, List.set_cons_succ]
        refine held_take (v := ?v213) 2 rfl (by kernel_rfl) (by kernel_rfl) (by kernel_rfl) (fun _ _ _ h => h) (by rfl) ?y213 (by assumption) ?_
        case y213 => (intro w hSw; unfold HeldG10 at hSw; go_simp; (try with_reducible rfl); (try omega))
        simp only [List.setIfInBounds_toArray, List.set_cons_zero, List.set_cons_succ]
        refine held_take (v := ?v216) 3 rfl (by kernel_rfl) (by kernel_rfl) (by kernel_rfl) (fun _ _ _ h => h) (by rfl) ?y216 (by assumption) ?_
        case y216 => (intro w hSw; unfold HeldG10 at hSw; go_simp; (try with_reducible rfl); (try omega))
        simp only [List.setIfInBounds_toArray, List.set_cons_zero, List.set_cons_succ]
        refine held_take (v := ?v219) 4 rfl (by kernel_rfl) (by kernel_rfl) (by kernel_rfl) (fun _ _ _ h => h) (by rfl) ?y219 (by assumption) ?_
        case y219 => (intro w hSw; unfold HeldG10 at hSw; go_simp; (try with_reducible rfl); (try omega))
        simp only [List.setIfInBounds_toArray, List.set_cons_zero, List.set_cons_succ]
        refine held_take (v := x.1.val) 5 rfl (by kernel_rfl) (by kernel_rfl) (by kernel_rfl) (fun _ _ _ h => h) (by rfl) (fun W hSw => exec_load_any _ (.tmp 23) rfl b (k + j * 19) x.1.row _ rfl hSw.2 Try.underlying25 rfl (pf_infoC HX16.out)) (by assumption) ?_
        simp only [List.setIfInBounds_toArray, List.set_cons_zero, List.set_cons_succ]
        refine held_one 6 rfl (by kernel_rfl) (by rfl) (fun K hK => ?_)
        go_simp
        refine (HQ.out _).mono ?_
        rintro e W1 ⟨rfl, b1⟩
        have hb1 : Below wr.heap.size wr W1 := (Below.refl wr.heap.size wr).drew.trans b1
        refine hK.out _ _ (HH.out _ hb1) (fun _ => ?_)
        clear hK K b1 HQ hHeld
        refine wpAnyH_done (by kernel_rfl) ?_ _
        refine NoPanic.normal ?_
        have HB1 := Lib.hid (below_up HBW.out hb1 HBW.out.size)
        have HO1 := Lib.hid (own_below HO.out hb1)
        have HR1 := Lib.hid (fun i v hv => HR.out _ hb1 i v hv)
        have hs1 := HB1.out.size
        have HTF2 := HTF.out
        have ebf : belF p x = covP p x.1 := rfl
        rw [ebf] at HTF2
        clear HH HR hb1 HO HBW HTF ebf
        cases hcv : covP p x.1 with
        | false =>
          rw [hcv] at HTF2
          simp only [Bool.false_eq_true, if_false, List.append_nil] at HTF2
          have HT2 := Lib.hid HTF2
          clear HTF2
          go_wp2
          go_roundw
          case rel => exact ⟨j + 1, by omega, by go_num, by rw [HT2.out]; exact HO1.out, HB1.out⟩
          case measure => simp [intOf]; omega
        | true =>
          rw [hcv] at HTF2
          simp only [if_true] at HTF2
          have HT2 := Lib.hid HTF2
          have hbA : Below W1.heap.size W1 (W1.alloc (.cells (itR x.1 x.2).toArray 47)) := (Below.refl _ _).alloc (Nat.le_refl _) _
          have HB3 := Lib.hid (below_up HB1.out hbA HB1.out.size)
          have HO3 := Lib.hid (own_below HO1.out hbA)
          have HI3 := Lib.hid (isC_one (x := x) HX16.out (show Bx (W1.alloc (.cells (itR x.1 x.2).toArray 47)) W1.heap.size 47 (itF x) from Bx.new W1 _ _))
          have hs3 := HB3.out.size
          clear HTF2 hbA HB1 HO1
          go_wp2_with (first
            | (refine plV rfl (itV x.1 x.2) (exec_load_any _ (.tmp 29) rfl b (k + j * 19) (itR x.1 x.2) _ rfl HR1.out Try.underlying47 rfl (i_infoC HX16.out x.2)) ?_)
            | (refine plV rfl (.slice (some ⟨W1.heap.size, 0, none⟩) 1 1) (exec_one_i (.tmp 30) rfl x.1 x.2 HX16.out rfl) ?_)
            | (at_builtin; refine append_flat rfl (.tmp 26) (.tmp 31) 29 rfl w2.heap.size 47 ti (itV zeroP 0) 40 Try.underlying29 hti htz hts htb rfl (by decide) (by decide) _ _ _ rfl HO3.out (some ⟨W1.heap.size, 0, none⟩) 1 1 [x] rfl HI3.out (itF_ones _) (by have := HLEN.out; have := HLL.out; simp; omega) hs3 ?_; intro v4 w4 hown hgr; refine Hid.out ?_))
          refine Lib.hid ?_
          have HB4 := Lib.hid (own_grown HB3.out HO3.out hgr)
          have HO4 : Hid (w4.ownsRow w2.heap.size 47 19 v4 ((M.take (j + 1)).filter (belF p)).length (((M.take (j + 1)).filter (belF p)).flatMap itF)) := Lib.hid (by
            rw [HT2.out, List.length_append, List.flatMap_append]
            exact hown)
          clear hown hgr
          go_wp2
          go_roundw
          case rel => exact ⟨j + 1, by omega, by go_num, HO4.out, HB4.out⟩
          case measure => simp [intOf]; omega
end Go.Proofs.Ytgimcapcnidjjaa
