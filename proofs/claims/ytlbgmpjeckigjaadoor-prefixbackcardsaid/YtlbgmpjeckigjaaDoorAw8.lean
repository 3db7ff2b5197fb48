/- The live examples of layer 8's statements hold. -/
import Derived.Test.YtlbgmpjeckigjaaDoorPre6
import Derived.Test.YtlbgmpjeckigjaaDoorReg
namespace Go.Proofs.YtlbgmpjeckigjaaDoor
open Go Go.RowKit

def exP : Pfx := ⟨false, [10, 1, 0, 0, 0, 0, 0, 0, 0, 0, 0, 0, 0, 0, 0, 0], 16⟩
def exQ : Pfx := ⟨false, [10, 1, 2, 0, 0, 0, 0, 0, 0, 0, 0, 0, 0, 0, 0, 0], 24⟩
def exR : Pfx := ⟨false, [10, 0, 0, 0, 0, 0, 0, 0, 0, 0, 0, 0, 0, 0, 0, 0], 16⟩
def exS : Pfx := ⟨false, [10, 0, 0, 0, 0, 0, 0, 0, 0, 0, 0, 0, 0, 0, 0, 0], 15⟩
theorem exP_len : exP.addr.length = 16 := rfl
theorem exQ_len : exQ.addr.length = 16 := rfl
theorem exR_len : exR.addr.length = 16 := rfl
theorem exS_len : exS.addr.length = 16 := rfl
theorem ex8_p : parP [49, 48, 46, 49, 46, 48, 46, 48, 47, 49, 54] = some exP := by kernel_rfl
theorem ex8_q : parP [49, 48, 46, 49, 46, 50, 46, 48, 47, 50, 52] = some exQ := by kernel_rfl
theorem ex8_r : parP [49, 48, 46, 48, 46, 48, 46, 48, 47, 49, 54] = some exR := by kernel_rfl
theorem ex8_n : parP [49, 48, 46, 49, 46, 48, 46, 49, 47, 49, 54] = none := by kernel_rfl
theorem ex8_s : comV exP exR = exS := by kernel_rfl
theorem ex8_c1 : covP exP exQ = true := by kernel_rfl
theorem ex8_c2 : covP exQ exP = false := by kernel_rfl
theorem ex8_t : showP exS = [49, 48, 46, 48, 46, 48, 46, 48, 47, 49, 53] := by kernel_rfl
theorem ex8_k : chkP exS = true := by kernel_rfl
theorem ex8_m : cmpP exR exP = -1 := by kernel_rfl
theorem ex8_b : bitI exP.addr 4 = 1 := by kernel_rfl
theorem ex8_h : hasP exP exQ.addr = true := by kernel_rfl
theorem ex8_o : ofP false exQ.addr 16 = exP := by kernel_rfl
/-- What is held while the examples run. -/
def AwZ (w : World) (g1 g3 g5 g9 : Nat) (W : World) : Prop := PfxT W g1 exP ∧ PfxT W g3 exQ ∧ PfxT W g5 exR ∧ PfxT W g9 exS ∧ Env8 W ∧ Below w.heap.size w W
theorem AwZ.up {w : World} {g1 g3 g5 g9 : Nat} {W W' : World} (h : AwZ w g1 g3 g5 g9 W) (hb : Below W.heap.size W W') : AwZ w g1 g3 g5 g9 W' := ⟨h.1.up hb, h.2.1.up hb, h.2.2.1.up hb, h.2.2.2.1.up hb, h.2.2.2.2.1.up hb, below_up h.2.2.2.2.2 hb h.2.2.2.2.2.size⟩
theorem AwZ.drew {w : World} {g1 g3 g5 g9 : Nat} {W : World} (h : AwZ w g1 g3 g5 g9 W) : AwZ w g1 g3 g5 g9 W.drew := ⟨h.1, h.2.1, h.2.2.1, h.2.2.2.1, h.2.2.2.2.1.up ⟨rfl, rfl, rfl, Nat.le_refl _, fun _ _ => rfl⟩, h.2.2.2.2.2.drew⟩
theorem Env8.drew {W : World} (h : Env8 W) : Env8 W.drew := h.up ⟨rfl, rfl, rfl, Nat.le_refl _, fun _ _ => rfl⟩
set_option maxRecDepth 100000 in
set_option maxHeartbeats 8000000 in
theorem awake8_any (w : World) (hE : Env8 w) :
    Calls Tryd.prog 9 #[] w fun r w' => r = .returned (.bool true) ∧ Below w.heap.size w w' := by
  have h1 := fun W h => pparse_any ⟨#[49, 48, 46, 49, 46, 48, 46, 48, 47, 49, 54]⟩ W (by decide) h
  rw [show (⟨#[49, 48, 46, 49, 46, 48, 46, 48, 47, 49, 54]⟩ : ByteArray).data.toList = [49, 48, 46, 49, 46, 48, 46, 48, 47, 49, 54] from rfl, ex8_p] at h1
  have h2 := fun W h => pparse_any ⟨#[49, 48, 46, 49, 46, 50, 46, 48, 47, 50, 52]⟩ W (by decide) h
  rw [show (⟨#[49, 48, 46, 49, 46, 50, 46, 48, 47, 50, 52]⟩ : ByteArray).data.toList = [49, 48, 46, 49, 46, 50, 46, 48, 47, 50, 52] from rfl, ex8_q] at h2
  have h3 := fun W h => pparse_any ⟨#[49, 48, 46, 48, 46, 48, 46, 48, 47, 49, 54]⟩ W (by decide) h
  rw [show (⟨#[49, 48, 46, 48, 46, 48, 46, 48, 47, 49, 54]⟩ : ByteArray).data.toList = [49, 48, 46, 48, 46, 48, 46, 48, 47, 49, 54] from rfl, ex8_r] at h3
  have h4 := fun W h => pparse_any ⟨#[49, 48, 46, 49, 46, 48, 46, 49, 47, 49, 54]⟩ W (by decide) h
  rw [show (⟨#[49, 48, 46, 49, 46, 48, 46, 49, 47, 49, 54]⟩ : ByteArray).data.toList = [49, 48, 46, 49, 46, 48, 46, 49, 47, 49, 54] from rfl, ex8_n] at h4
  have h5 := fun W => common_any exP exR W exP_len exR_len
  rw [ex8_s] at h5
  have h6 := fun W => covers_any exP exQ W exP_len exQ_len
  rw [ex8_c1] at h6
  have h7 := fun W => covers_any exQ exP W exQ_len exP_len
  rw [ex8_c2] at h7
  have h8 := fun W h => pshow_any exS W exS_len (by decide) (by decide) h
  rw [ex8_t] at h8
  have h9 := fun W => pcheck_any exS W exS_len
  rw [ex8_k, if_pos rfl] at h9
  have h10 := fun W => compare_any exR exP W exR_len exP_len
  rw [ex8_m] at h10
  have h11 := fun W => bit_any exP.addr 4 W exP_len
  rw [ex8_b] at h11
  have h12 := fun W => has_any exP exQ.addr W exP_len exQ_len
  rw [ex8_h] at h12
  have h13 := fun W => pof_any false exQ.addr 16 W exQ_len
  rw [ex8_o] at h13
  have H1 := Lib.hid h1
  have H2 := Lib.hid h2
  have H3 := Lib.hid h3
  have H4 := Lib.hid h4
  have H5 := Lib.hid h5
  have H6 := Lib.hid h6
  have H7 := Lib.hid h7
  have H8 := Lib.hid h8
  have H9 := Lib.hid h9
  have H10 := Lib.hid h10
  have H11 := Lib.hid h11
  have H12 := Lib.hid h12
  have H13 := Lib.hid h13
  have HE := Lib.hid hE
  clear h1 h2 h3 h4 h5 h6 h7 h8 h9 h10 h11 h12 h13 hE
  simp only [Option.getD_some, Option.getD_none, Option.isSome_some, Option.isSome_none] at H1 H2 H3 H4
  go_enter Tryd.func9, Tryd.ntmps9
  go_wp2_with (go_at_call 26; refine (H1.out _ HE.out).mono ?_; rintro e w1 ⟨rfl, b1⟩; refine Hid.out ?_)
  refine Lib.hid ?_
  have a1 : PfxT (w1.alloc (.cells exP.cells 24)) w1.heap.size exP ∧ Env8 (w1.alloc (.cells exP.cells 24)) ∧ Below w.heap.size w (w1.alloc (.cells exP.cells 24)) := ⟨pfxT_new w1 _, (HE.out.up b1).al _, b1.alloc b1.size _⟩
  have A1 := Lib.hid a1
  clear a1 b1 H1 HE
  go_wp2_with (first | (refine wpList_store_newP rfl (.tmp 1) (.tmp 13) rfl exP exP_len _ rfl rfl rfl ?_) | (go_at_call 26; refine (H2.out _ A1.out.2.1).mono ?_; rintro e w2 ⟨rfl, b2⟩; refine Hid.out ?_))
  refine Lib.hid ?_
  have a2 : (PfxT (w2.alloc (.cells exQ.cells 24)) w1.heap.size exP ∧ PfxT (w2.alloc (.cells exQ.cells 24)) w2.heap.size exQ) ∧ Env8 (w2.alloc (.cells exQ.cells 24)) ∧ Below w.heap.size w (w2.alloc (.cells exQ.cells 24)) := by
    have hb := below_up A1.out.2.2 b2 A1.out.2.2.size
    exact ⟨⟨(A1.out.1.up b2).al _, pfxT_new w2 _⟩, (A1.out.2.1.up b2).al _, hb.alloc hb.size _⟩
  have A2 := Lib.hid a2
  clear a2 b2 H2 A1
  generalize w1.heap.size = g1 at *
  go_wp2_with (first | (refine wpList_store_newP rfl (.tmp 3) (.tmp 17) rfl exQ exQ_len _ rfl rfl rfl ?_) | (go_at_call 26; refine (H3.out _ A2.out.2.1).mono ?_; rintro e w3 ⟨rfl, b3⟩; refine Hid.out ?_))
  refine Lib.hid ?_
  have a3 : (PfxT (w3.alloc (.cells exR.cells 24)) g1 exP ∧ PfxT (w3.alloc (.cells exR.cells 24)) w2.heap.size exQ ∧ PfxT (w3.alloc (.cells exR.cells 24)) w3.heap.size exR) ∧ Env8 (w3.alloc (.cells exR.cells 24)) ∧ Below w.heap.size w (w3.alloc (.cells exR.cells 24)) := by
    have hb := below_up A2.out.2.2 b3 A2.out.2.2.size
    exact ⟨⟨(A2.out.1.1.up b3).al _, (A2.out.1.2.up b3).al _, pfxT_new w3 _⟩, (A2.out.2.1.up b3).al _, hb.alloc hb.size _⟩
  have A3 := Lib.hid a3
  clear a3 b3 H3 A2
  generalize w2.heap.size = g3 at *
  go_wp2_with (first | (refine wpList_store_newP rfl (.tmp 5) (.tmp 21) rfl exR exR_len _ rfl rfl rfl ?_) | (go_at_call 26; refine (H4.out _ A3.out.2.1).mono ?_; rintro e w4 ⟨rfl, b4⟩; refine Hid.out ?_))
  refine Lib.hid ?_
  have a4 : (PfxT (w4.alloc (.cells zeroP.cells 24)) g1 exP ∧ PfxT (w4.alloc (.cells zeroP.cells 24)) g3 exQ ∧ PfxT (w4.alloc (.cells zeroP.cells 24)) w3.heap.size exR) ∧ Env8 (w4.alloc (.cells zeroP.cells 24)) ∧ Below w.heap.size w (w4.alloc (.cells zeroP.cells 24)) := by
    have hb := below_up A3.out.2.2 b4 A3.out.2.2.size
    exact ⟨⟨(A3.out.1.1.up b4).al _, (A3.out.1.2.1.up b4).al _, (A3.out.1.2.2.up b4).al _⟩, (A3.out.2.1.up b4).al _, hb.alloc hb.size _⟩
  have A4 := Lib.hid a4
  clear a4 b4 H4 A3
  generalize w3.heap.size = g5 at *
  go_wp2_with (first | (refine wpList_store_newP rfl (.tmp 7) (.tmp 25) rfl zeroP rfl _ rfl rfl rfl ?_) | (refine wpList_load_pfx rfl (.tmp 1) rfl g1 exP exP_len rfl A4.out.1.1 ?_) | (refine wpList_load_pfx rfl (.tmp 5) rfl g5 exR exR_len rfl A4.out.1.2.2 ?_) | (go_at_call 20; refine (H5.out _).mono ?_; rintro e w5 ⟨rfl, b5⟩; refine Hid.out ?_))
  refine Lib.hid ?_
  have a5 : AwZ w g1 g3 g5 w5.heap.size (w5.alloc (.cells exS.cells 24)) := by
    have hb := below_up A4.out.2.2 b5 A4.out.2.2.size
    exact ⟨(A4.out.1.1.up b5).al _, (A4.out.1.2.1.up b5).al _, (A4.out.1.2.2.up b5).al _, pfxT_new w5 _, (A4.out.2.1.up b5).al _, hb.alloc hb.size _⟩
  have A5 := Lib.hid a5
  clear a5 b5 H5 A4
  go_wp2_with (refine wpList_store_newP rfl (.tmp 9) (.tmp 31) rfl exS exS_len _ rfl rfl rfl ?_)
  generalize w5.heap.size = g9 at *
  refine wp_region_noPanic ?_
  refine wp_region_held_drew (S := AwZ w g1 g3 g5 g9) (by kernel_rfl) A5.out.drew (fun hHeld => ?_)
  clear A5
  refine held_take (v := ?v120) 0 rfl (by kernel_rfl) (by kernel_rfl) (by kernel_rfl) (fun _ _ _ h => h) (by rfl) ?y120 (by assumption) ?_
  case y120 => (intro w hSw; unfold AwZ at hSw; go_simp; (try with_reducible rfl); (try omega))
  simp only [List.setIfInBounds_toArray, List.set_cons_zero, List.set_cons_succ]
  refine held_take (v := ?v123) 1 rfl (by kernel_rfl) (by kernel_rfl) (by kernel_rfl) (fun _ _ _ h => h) (by rfl) ?y123 (by assumption) ?_
  case y123 => (intro w hSw; unfold AwZ at hSw; go_simp; (try with_reducible rfl); (try omega))
  simp only [List.setIfInBounds_toArray, List.set_cons_zero, List.set_cons_succ]
  refine held_take (v := ?v126) 2 rfl (by kernel_rfl) (by kernel_rfl) (by kernel_rfl) (fun _ _ _ h => h) (by rfl) ?y126 (by assumption) ?_
  case y126 => (intro w hSw; unfold AwZ at hSw; go_simp; (try with_reducible rfl); (try omega))
  simp only [List.setIfInBounds_toArray, List.set_cons_zero, List.set_cons_succ]
  refine held_take (v := ?v129) 3 rfl (by kernel_rfl) (by kernel_rfl) (by kernel_rfl) (fun _ _ _ h => h) (by rfl) ?y129 (by assumption) ?_
  case y129 => (intro w hSw; unfold AwZ at hSw; go_simp; (try with_reducible rfl); (try omega))
  simp only [List.setIfInBounds_toArray, List.set_cons_zero, List.set_cons_succ]
  refine held_take (v := ?v132) 4 rfl (by kernel_rfl) (by kernel_rfl) (by kernel_rfl) (fun _ _ _ h => h) (by rfl) ?y132 (by assumption) ?_
  case y132 => (intro w hSw; unfold AwZ at hSw; go_simp; (try with_reducible rfl); (try omega))
  simp only [List.setIfInBounds_toArray, List.set_cons_zero, List.set_cons_succ]
  refine held_take (v := ?v135) 5 rfl (by kernel_rfl) (by kernel_rfl) (by kernel_rfl) (fun _ _ _ h => h) (by rfl) ?y135 (by assumption) ?_
  case y135 => (intro w hSw; unfold AwZ at hSw; go_simp; (try with_reducible rfl); (try omega))
  simp only [List.setIfInBounds_toArray, List.set_cons_zero, List.set_cons_succ]
  refine held_take (v := ?v138) 6 rfl (by kernel_rfl) (by kernel_rfl) (by kernel_rfl) (fun _ _ _ h => h) (by rfl) ?y138 (by assumption) ?_
  case y138 => (intro w hSw; unfold AwZ at hSw; go_simp; (try with_reducible rfl); (try omega))
  simp only [List.setIfInBounds_toArray, List.set_cons_zero, List.set_cons_succ]
  refine held_take (v := ?v141) 7 rfl (by kernel_rfl) (by kernel_rfl) (by kernel_rfl) (fun _ _ _ h => h) (by rfl) ?y141 (by assumption) ?_
  case y141 => (intro w hSw; unfold AwZ at hSw; go_simp; (try with_reducible rfl); (try omega))
  simp only [List.setIfInBounds_toArray, List.set_cons_zero, List.set_cons_succ]
  refine held_take (v := ?v144) 8 rfl (by kernel_rfl) (by kernel_rfl) (by kernel_rfl) (fun _ _ _ h => h) (by rfl) ?y144 (by assumption) ?_
  case y144 => (intro w hSw; unfold AwZ at hSw; go_simp; (try with_reducible rfl); (try omega))
  simp only [List.setIfInBounds_toArray, List.set_cons_zero, List.set_cons_succ]
  refine held_take (v := ?v147) 9 rfl (by kernel_rfl) (by kernel_rfl) (by kernel_rfl) (fun _ _ _ h => h) (by rfl) ?y147 (by assumption) ?_
  case y147 => (intro w hSw; unfold AwZ at hSw; go_simp; (try with_reducible rfl); (try omega))
  simp only [List.setIfInBounds_toArray, List.set_cons_zero, List.set_cons_succ]
  refine held_take (v := ?v150) 10 rfl (by kernel_rfl) (by kernel_rfl) (by kernel_rfl) (fun _ _ _ h => h) (by rfl) ?y150 (by assumption) ?_
  case y150 => (intro w hSw; unfold AwZ at hSw; go_simp; (try with_reducible rfl); (try omega))
  simp only [List.setIfInBounds_toArray, List.set_cons_zero, List.set_cons_succ]
  refine held_take (v := ?v153) 11 rfl (by kernel_rfl) (by kernel_rfl) (by kernel_rfl) (fun _ _ _ h => h) (by rfl) ?y153 (by assumption) ?_
  case y153 => (intro w hSw; unfold AwZ at hSw; go_simp; (try with_reducible rfl); (try omega))
  simp only [List.setIfInBounds_toArray, List.set_cons_zero, List.set_cons_succ]
  refine held_take (v := ?v156) 12 rfl (by kernel_rfl) (by kernel_rfl) (by kernel_rfl) (fun _ _ _ h => h) (by rfl) ?y156 (by assumption) ?_
  case y156 => (intro w hSw; unfold AwZ at hSw; go_simp; (try with_reducible rfl); (try omega))
  simp only [List.setIfInBounds_toArray, List.set_cons_zero, List.set_cons_succ]
  refine held_take (v := ?v159) 13 rfl (by kernel_rfl) (by kernel_rfl) (by kernel_rfl) (fun _ _ _ h => h) (by rfl) ?y159 (by assumption) ?_
  case y159 => (intro w hSw; unfold AwZ at hSw; go_simp; (try with_reducible rfl); (try omega))
  simp only [List.setIfInBounds_toArray, List.set_cons_zero, List.set_cons_succ]
  refine held_take (v := ?v162) 14 rfl (by kernel_rfl) (by kernel_rfl) (by kernel_rfl) (fun _ _ _ h => h) (by rfl) ?y162 (by assumption) ?_
  case y162 => (intro w hSw; unfold AwZ at hSw; go_simp; (try with_reducible rfl); (try omega))
  simp only [List.setIfInBounds_toArray, List.set_cons_zero, List.set_cons_succ]
  refine held_take (v := exP.val) 15 rfl (by kernel_rfl) (by kernel_rfl) (by kernel_rfl) (fun _ _ _ h => h) (by rfl) (fun W hSw => exec_load_pfx (.tmp 1) rfl g1 exP exP_len rfl hSw.1) (by assumption) ?_
  simp only [List.setIfInBounds_toArray, List.set_cons_zero, List.set_cons_succ]
  refine held_take (v := exQ.val) 16 rfl (by kernel_rfl) (by kernel_rfl) (by kernel_rfl) (fun _ _ _ h => h) (by rfl) (fun W hSw => exec_load_pfx (.tmp 3) rfl g3 exQ exQ_len rfl hSw.2.1) (by assumption) ?_
  simp only [List.setIfInBounds_toArray, List.set_cons_zero, List.set_cons_succ]
  refine held_one 17 rfl (by kernel_rfl) (by rfl) (fun K hK => ?_)
  go_simp
  refine (H6.out _).mono ?_
  rintro e v17 ⟨rfl, b17⟩
  refine hK.out _ _ (AwZ.up hHeld b17) (fun hHeld => ?_)
  clear hK K b17
  refine held_take (v := ?v175) 18 rfl (by kernel_rfl) (by kernel_rfl) (by kernel_rfl) (fun _ _ _ h => h) (by rfl) ?y175 (by assumption) ?_
  case y175 => (intro w hSw; unfold AwZ at hSw; go_simp; (try with_reducible rfl); (try omega))
  simp only [List.setIfInBounds_toArray, List.set_cons_zero, List.set_cons_succ]
  refine held_take (v := ?v178) 19 rfl (by kernel_rfl) (by kernel_rfl) (by kernel_rfl) (fun _ _ _ h => h) (by rfl) ?y178 (by assumption) ?_
  case y178 => (intro w hSw; unfold AwZ at hSw; go_simp; (try with_reducible rfl); (try omega))
  simp only [List.setIfInBounds_toArray, List.set_cons_zero, List.set_cons_succ]
  refine held_take (v := exQ.val) 20 rfl (by kernel_rfl) (by kernel_rfl) (by kernel_rfl) (fun _ _ _ h => h) (by rfl) (fun W hSw => exec_load_pfx (.tmp 3) rfl g3 exQ exQ_len rfl hSw.2.1) (by assumption) ?_
  simp only [List.setIfInBounds_toArray, List.set_cons_zero, List.set_cons_succ]
  refine held_take (v := exP.val) 21 rfl (by kernel_rfl) (by kernel_rfl) (by kernel_rfl) (fun _ _ _ h => h) (by rfl) (fun W hSw => exec_load_pfx (.tmp 1) rfl g1 exP exP_len rfl hSw.1) (by assumption) ?_
  simp only [List.setIfInBounds_toArray, List.set_cons_zero, List.set_cons_succ]
  refine held_one 22 rfl (by kernel_rfl) (by rfl) (fun K hK => ?_)
  go_simp
  refine (H7.out _).mono ?_
  rintro e v22 ⟨rfl, b22⟩
  refine hK.out _ _ (AwZ.up hHeld b22) (fun hHeld => ?_)
  clear hK K b22
  refine held_take (v := ?v191) 23 rfl (by kernel_rfl) (by kernel_rfl) (by kernel_rfl) (fun _ _ _ h => h) (by rfl) ?y191 (by assumption) ?_
  case y191 => (intro w hSw; unfold AwZ at hSw; go_simp; (try with_reducible rfl); (try omega))
  simp only [List.setIfInBounds_toArray, List.set_cons_zero, List.set_cons_succ]
  refine held_take (v := ?v194) 24 rfl (by kernel_rfl) (by kernel_rfl) (by kernel_rfl) (fun _ _ _ h => h) (by rfl) ?y194 (by assumption) ?_
  case y194 => (intro w hSw; unfold AwZ at hSw; go_simp; (try with_reducible rfl); (try omega))
  simp only [List.setIfInBounds_toArray, List.set_cons_zero, List.set_cons_succ]
  refine held_take (v := ?v197) 25 rfl (by kernel_rfl) (by kernel_rfl) (by kernel_rfl) (fun _ _ _ h => h) (by rfl) ?y197 (by assumption) ?_
  case y197 => (intro w hSw; unfold AwZ at hSw; go_simp; (try with_reducible rfl); (try omega))
  simp only [List.setIfInBounds_toArray, List.set_cons_zero, List.set_cons_succ]
  refine held_take (v := exS.val) 26 rfl (by kernel_rfl) (by kernel_rfl) (by kernel_rfl) (fun _ _ _ h => h) (by rfl) (fun W hSw => exec_load_pfx (.tmp 9) rfl g9 exS exS_len rfl hSw.2.2.2.1) (by assumption) ?_
  simp only [List.setIfInBounds_toArray, List.set_cons_zero, List.set_cons_succ]
  refine held_one 27 rfl (by kernel_rfl) (by rfl) (fun K hK => ?_)
  go_simp
  refine (H8.out _ hHeld.2.2.2.2.1).mono ?_
  rintro e v27 ⟨rfl, b27⟩
  refine hK.out _ _ (AwZ.up hHeld b27) (fun hHeld => ?_)
  clear hK K b27
  refine held_take (v := ?v208) 28 rfl (by kernel_rfl) (by kernel_rfl) (by kernel_rfl) (fun _ _ _ h => h) (by rfl) ?y208 (by assumption) ?_
  case y208 => (intro w hSw; unfold AwZ at hSw; go_simp; (try with_reducible rfl); (try omega))
  simp only [List.setIfInBounds_toArray, List.set_cons_zero, List.set_cons_succ]
  refine held_take (v := ?v211) 29 rfl (by kernel_rfl) (by kernel_rfl) (by kernel_rfl) (fun _ _ _ h => h) (by rfl) ?y211 (by assumption) ?_
  case y211 => (intro w hSw; unfold AwZ at hSw; go_simp; (try with_reducible rfl); (try omega))
  simp only [List.setIfInBounds_toArray, List.set_cons_zero, List.set_cons_succ]
  refine held_take (v := ?v214) 30 rfl (by kernel_rfl) (by kernel_rfl) (by kernel_rfl) (fun _ _ _ h => h) (by rfl) ?y214 (by assumption) ?_
  case y214 => (intro w hSw; unfold AwZ at hSw; go_simp; (try with_reducible rfl); (try omega))
  simp only [List.setIfInBounds_toArray, List.set_cons_zero, List.set_cons_succ]
  refine held_take (v := exS.val) 31 rfl (by kernel_rfl) (by kernel_rfl) (by kernel_rfl) (fun _ _ _ h => h) (by rfl) (fun W hSw => exec_load_pfx (.tmp 9) rfl g9 exS exS_len rfl hSw.2.2.2.1) (by assumption) ?_
  simp only [List.setIfInBounds_toArray, List.set_cons_zero, List.set_cons_succ]
  refine held_one 32 rfl (by kernel_rfl) (by rfl) (fun K hK => ?_)
  go_simp
  refine (H9.out _).mono ?_
  rintro e v32 ⟨rfl, b32⟩
  refine hK.out _ _ (AwZ.up hHeld b32) (fun hHeld => ?_)
  clear hK K b32
  refine held_take (v := ?v225) 33 rfl (by kernel_rfl) (by kernel_rfl) (by kernel_rfl) (fun _ _ _ h => h) (by rfl) ?y225 (by assumption) ?_
  case y225 => (intro w hSw; unfold AwZ at hSw; go_simp; (try with_reducible rfl); (try omega))
  simp only [List.setIfInBounds_toArray, List.set_cons_zero, List.set_cons_succ]
  refine held_take (v := ?v228) 34 rfl (by kernel_rfl) (by kernel_rfl) (by kernel_rfl) (fun _ _ _ h => h) (by rfl) ?y228 (by assumption) ?_
  case y228 => (intro w hSw; unfold AwZ at hSw; go_simp; (try with_reducible rfl); (try omega))
  simp only [List.setIfInBounds_toArray, List.set_cons_zero, List.set_cons_succ]
  refine held_take (v := ?v231) 35 rfl (by kernel_rfl) (by kernel_rfl) (by kernel_rfl) (fun _ _ _ h => h) (by rfl) ?y231 (by assumption) ?_
  case y231 => (intro w hSw; unfold AwZ at hSw; go_simp; (try with_reducible rfl); (try omega))
  simp only [List.setIfInBounds_toArray, List.set_cons_zero, List.set_cons_succ]
  refine held_take (v := exR.val) 36 rfl (by kernel_rfl) (by kernel_rfl) (by kernel_rfl) (fun _ _ _ h => h) (by rfl) (fun W hSw => exec_load_pfx (.tmp 5) rfl g5 exR exR_len rfl hSw.2.2.1) (by assumption) ?_
  simp only [List.setIfInBounds_toArray, List.set_cons_zero, List.set_cons_succ]
  refine held_take (v := exP.val) 37 rfl (by kernel_rfl) (by kernel_rfl) (by kernel_rfl) (fun _ _ _ h => h) (by rfl) (fun W hSw => exec_load_pfx (.tmp 1) rfl g1 exP exP_len rfl hSw.1) (by assumption) ?_
  simp only [List.setIfInBounds_toArray, List.set_cons_zero, List.set_cons_succ]
  refine held_one 38 rfl (by kernel_rfl) (by rfl) (fun K hK => ?_)
  go_simp
  refine (H10.out _).mono ?_
  rintro e v38 ⟨rfl, b38⟩
  refine hK.out _ _ (AwZ.up hHeld b38) (fun hHeld => ?_)
  clear hK K b38
  refine held_take (v := ?v244) 39 rfl (by kernel_rfl) (by kernel_rfl) (by kernel_rfl) (fun _ _ _ h => h) (by rfl) ?y244 (by assumption) ?_
  case y244 => (intro w hSw; unfold AwZ at hSw; go_simp; (try with_reducible rfl); (try omega))
  simp only [List.setIfInBounds_toArray, List.set_cons_zero, List.set_cons_succ]
  refine held_take (v := ?v247) 40 rfl (by kernel_rfl) (by kernel_rfl) (by kernel_rfl) (fun _ _ _ h => h) (by rfl) ?y247 (by assumption) ?_
  case y247 => (intro w hSw; unfold AwZ at hSw; go_simp; (try with_reducible rfl); (try omega))
  simp only [List.setIfInBounds_toArray, List.set_cons_zero, List.set_cons_succ]
  refine held_take (v := ?v250) 41 rfl (by kernel_rfl) (by kernel_rfl) (by kernel_rfl) (fun _ _ _ h => h) (by rfl) ?y250 (by assumption) ?_
  case y250 => (intro w hSw; unfold AwZ at hSw; go_simp; (try with_reducible rfl); (try omega))
  simp only [List.setIfInBounds_toArray, List.set_cons_zero, List.set_cons_succ]
  refine held_take (v := ?v253) 42 rfl (by kernel_rfl) (by kernel_rfl) (by kernel_rfl) (fun _ _ _ h => h) (by rfl) ?y253 (by assumption) ?_
  case y253 => (intro w hSw; unfold AwZ at hSw; go_simp; (try with_reducible rfl); (try omega))
  simp only [List.setIfInBounds_toArray, List.set_cons_zero, List.set_cons_succ]
  refine held_take (v := arrV exP.addr) 43 rfl (by kernel_rfl) (by kernel_rfl) (by kernel_rfl) (fun _ _ _ h => h) (by rfl) (fun W hSw => exec_load_adr (.tmp 75) rfl g1 exP exP_len rfl hSw.1) (by assumption) ?_
  simp only [List.setIfInBounds_toArray, List.set_cons_zero, List.set_cons_succ]
  refine held_one 44 rfl (by kernel_rfl) (by rfl) (fun K hK => ?_)
  go_simp
  refine (H11.out _).mono ?_
  rintro e v44 ⟨rfl, b44⟩
  refine hK.out _ _ (AwZ.up hHeld b44) (fun hHeld => ?_)
  clear hK K b44
  refine held_take (v := ?v264) 45 rfl (by kernel_rfl) (by kernel_rfl) (by kernel_rfl) (fun _ _ _ h => h) (by rfl) ?y264 (by assumption) ?_
  case y264 => (intro w hSw; unfold AwZ at hSw; go_simp; (try with_reducible rfl); (try omega))
  simp only [List.setIfInBounds_toArray, List.set_cons_zero, List.set_cons_succ]
  refine held_take (v := ?v267) 46 rfl (by kernel_rfl) (by kernel_rfl) (by kernel_rfl) (fun _ _ _ h => h) (by rfl) ?y267 (by assumption) ?_
  case y267 => (intro w hSw; unfold AwZ at hSw; go_simp; (try with_reducible rfl); (try omega))
  simp only [List.setIfInBounds_toArray, List.set_cons_zero, List.set_cons_succ]
  refine held_take (v := ?v270) 47 rfl (by kernel_rfl) (by kernel_rfl) (by kernel_rfl) (fun _ _ _ h => h) (by rfl) ?y270 (by assumption) ?_
  case y270 => (intro w hSw; unfold AwZ at hSw; go_simp; (try with_reducible rfl); (try omega))
  simp only [List.setIfInBounds_toArray, List.set_cons_zero, List.set_cons_succ]
  refine held_take (v := exP.val) 48 rfl (by kernel_rfl) (by kernel_rfl) (by kernel_rfl) (fun _ _ _ h => h) (by rfl) (fun W hSw => exec_load_pfx (.tmp 1) rfl g1 exP exP_len rfl hSw.1) (by assumption) ?_
  simp only [List.setIfInBounds_toArray, List.set_cons_zero, List.set_cons_succ]
  refine held_take (v := ?v275) 49 rfl (by kernel_rfl) (by kernel_rfl) (by kernel_rfl) (fun _ _ _ h => h) (by rfl) ?y275 (by assumption) ?_
  case y275 => (intro w hSw; unfold AwZ at hSw; go_simp; (try with_reducible rfl); (try omega))
  simp only [List.setIfInBounds_toArray, List.set_cons_zero, List.set_cons_succ]
  refine held_take (v := arrV exQ.addr) 50 rfl (by kernel_rfl) (by kernel_rfl) (by kernel_rfl) (fun _ _ _ h => h) (by rfl) (fun W hSw => exec_load_adr (.tmp 82) rfl g3 exQ exQ_len rfl hSw.2.1) (by assumption) ?_
  simp only [List.setIfInBounds_toArray, List.set_cons_zero, List.set_cons_succ]
  refine held_one 51 rfl (by kernel_rfl) (by rfl) (fun K hK => ?_)
  go_simp
  refine (H12.out _).mono ?_
  rintro e v51 ⟨rfl, b51⟩
  refine hK.out _ _ (AwZ.up hHeld b51) (fun hHeld => ?_)
  clear hK K b51
  refine held_take (v := ?v286) 52 rfl (by kernel_rfl) (by kernel_rfl) (by kernel_rfl) (fun _ _ _ h => h) (by rfl) ?y286 (by assumption) ?_
  case y286 => (intro w hSw; unfold AwZ at hSw; go_simp; (try with_reducible rfl); (try omega))
  simp only [List.setIfInBounds_toArray, List.set_cons_zero, List.set_cons_succ]
  refine held_take (v := ?v289) 53 rfl (by kernel_rfl) (by kernel_rfl) (by kernel_rfl) (fun _ _ _ h => h) (by rfl) ?y289 (by assumption) ?_
  case y289 => (intro w hSw; unfold AwZ at hSw; go_simp; (try with_reducible rfl); (try omega))
  simp only [List.setIfInBounds_toArray, List.set_cons_zero, List.set_cons_succ]
  refine held_take (v := ?v292) 54 rfl (by kernel_rfl) (by kernel_rfl) (by kernel_rfl) (fun _ _ _ h => h) (by rfl) ?y292 (by assumption) ?_
  case y292 => (intro w hSw; unfold AwZ at hSw; go_simp; (try with_reducible rfl); (try omega))
  simp only [List.setIfInBounds_toArray, List.set_cons_zero, List.set_cons_succ]
  refine held_take (v := arrV exQ.addr) 55 rfl (by kernel_rfl) (by kernel_rfl) (by kernel_rfl) (fun _ _ _ h => h) (by rfl) (fun W hSw => exec_load_adr (.tmp 87) rfl g3 exQ exQ_len rfl hSw.2.1) (by assumption) ?_
  simp only [List.setIfInBounds_toArray, List.set_cons_zero, List.set_cons_succ]
  refine held_take (v := exP.val) 57 rfl (by kernel_rfl) (by kernel_rfl) (by kernel_rfl) (fun _ _ _ h => h) (by rfl) (fun W hSw => exec_load_pfx (.tmp 1) rfl g1 exP exP_len rfl hSw.1) (by assumption) ?_
  simp only [List.setIfInBounds_toArray, List.set_cons_zero, List.set_cons_succ]
  refine held_one 56 rfl (by kernel_rfl) (by rfl) (fun K hK => ?_)
  go_simp
  refine (H13.out _).mono ?_
  rintro e v56 ⟨rfl, b56⟩
  refine hK.out _ _ (AwZ.up hHeld b56) (fun hHeld => ?_)
  clear hK K b56
  refine held_take (v := .bool true) 58 rfl (by kernel_rfl) (by kernel_rfl) (by kernel_rfl) (fun _ _ _ h => h) (by rfl) (fun W hSw => by rw [exec_eql_pfx 89 90 _ rfl exP exP exP_len exP_len rfl rfl, eqP_self]) (by assumption) ?_
  simp only [List.setIfInBounds_toArray, List.set_cons_zero, List.set_cons_succ]
  refine held_take (v := ?v307) 59 rfl (by kernel_rfl) (by kernel_rfl) (by kernel_rfl) (fun _ _ _ h => h) (by rfl) ?y307 (by assumption) ?_
  case y307 => (intro w hSw; unfold AwZ at hSw; go_simp; (try with_reducible rfl); (try omega))
  simp only [List.setIfInBounds_toArray, List.set_cons_zero, List.set_cons_succ]
  refine held_take (v := ?v310) 60 rfl (by kernel_rfl) (by kernel_rfl) (by kernel_rfl) (fun _ _ _ h => h) (by rfl) ?y310 (by assumption) ?_
  case y310 => (intro w hSw; unfold AwZ at hSw; go_simp; (try with_reducible rfl); (try omega))
  simp only [List.setIfInBounds_toArray, List.set_cons_zero]
  refine wpAnyH_done (by kernel_rfl) ?_ _
  refine NoPanic.normal ?_
  have HH := Lib.hid hHeld
  clear hHeld
  go_wp2
  go_ret
  exact ⟨rfl, HH.out.2.2.2.2.2⟩
end Go.Proofs.YtlbgmpjeckigjaaDoor
