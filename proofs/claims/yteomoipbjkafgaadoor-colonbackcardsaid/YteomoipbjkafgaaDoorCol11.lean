/- Parse of package colon, of a text with a gap, and of any. Proved: what it returns. -/
import Derived.Test.YteomoipbjkafgaaDoorCol10
namespace Go.Proofs.YteomoipbjkafgaaDoor
open Go Go.RowKit

theorem str_list (l : List UInt8) : (⟨l.toArray⟩ : ByteArray).data.toList = l := rfl
theorem str_len (l : List UInt8) : (⟨l.toArray⟩ : ByteArray).size = l.length := by simp [ByteArray.size]
theorem colA_no {l : List UInt8} (h : colV l = none) : colA l = List.replicate 16 0 := by unfold colA; rw [h]; rfl
theorem colA_yes {l : List UInt8} {g : List Nat} (h : colV l = some g) : colA l = ofB (natsI g) := by unfold colA; rw [h]; rfl
set_option maxRecDepth 100000 in
set_option maxHeartbeats 8000000 in
theorem parse_some (s : ByteArray) (l : List UInt8) (hl : s.data.toList = l) (w : World) (hE : Env w) (hs : s.size ≤ 1000000) (k : Nat) (hc : cc l = some k) :
    Calls Tryd.prog 17 #[.string s] w fun r w' => r = .returned (.tuple #[arrV (colA l), .bool (colV l).isSome]) ∧ Below w.heap.size w w' := by
  have z0 : ArrT 22 (w.alloc (.cells (byteVals (List.replicate 16 0)).toArray 22)) w.heap.size (List.replicate 16 0) := arrT_new w _
  have zb : Below w.heap.size w (w.alloc (.cells (byteVals (List.replicate 16 0)).toArray 22)) := (Below.refl _ _).alloc (Nat.le_refl _) _
  obtain ⟨m, hm⟩ := (hE.up zb).max
  have hcut := Tryd.strings_Cut s ⟨#[58, 58]⟩ m _ (by omega) hm
  rw [show (⟨#[58, 58]⟩ : ByteArray).data.toList = [58, 58] from rfl, hl, cut_some hc] at hcut
  have hll : l.length = s.size := by rw [← hl]; rfl
  have hR1 := fun W => read_any ⟨(l.take k).toArray⟩ false W (by rw [str_len, List.length_take]; omega)
  have hR2 := fun W => read_any ⟨(l.drop (k + 2)).toArray⟩ true W (by rw [str_len, List.length_drop]; omega)
  rw [str_list] at hR1 hR2
  rw [← zero16'] at hcut z0 zb
  have HCUT := Lib.hid hcut
  have Z := Lib.hid (And.intro z0 zb)
  clear z0 zb hcut hm hE hll
  obtain ⟨R1, q1⟩ : ∃ R, rdV (readO (l.take k) false) = R := ⟨_, rfl⟩
  obtain ⟨b1, p1⟩ : ∃ b, (readO (l.take k) false).isSome = b := ⟨_, rfl⟩
  obtain ⟨R2, q2⟩ : ∃ R, rdV (readO (l.drop (k + 2)) true) = R := ⟨_, rfl⟩
  obtain ⟨b2, p2⟩ : ∃ b, (readO (l.drop (k + 2)) true).isSome = b := ⟨_, rfl⟩
  rw [q1, p1] at hR1
  rw [q2, p2] at hR2
  have HR1 := Lib.hid hR1
  have HR2 := Lib.hid hR2
  have HL1 : Hid (R1.length = 9) := by show _ = _; rw [← q1]; exact rdV_length _ _
  have HL2 : Hid (R2.length = 9) := by show _ = _; rw [← q2]; exact rdV_length _ _
  have F1 : Hid (b1 = false → colV l = none) := fun e => colV_cut1 hc (by cases h : readO (l.take k) false with | none => rfl | some g => rw [h] at p1; rw [← p1] at e; cases e)
  have F2 : Hid (b2 = false → colV l = none) := fun e => colV_cut2 hc (by cases h : readO (l.drop (k + 2)) true with | none => rfl | some g => rw [h] at p2; rw [← p2] at e; cases e)
  have F3 : Hid (b1 = true → ∃ a, readO (l.take k) false = some a ∧ R1 = rowI a) := fun e => by
    cases h : readO (l.take k) false with
    | none => rw [h] at p1; rw [← p1] at e; cases e
    | some a => exact ⟨a, rfl, by rw [← q1, h]; rfl⟩
  have F4 : Hid (b2 = true → ∃ a, readO (l.drop (k + 2)) true = some a ∧ R2 = rowI a) := fun e => by
    cases h : readO (l.drop (k + 2)) true with
    | none => rw [h] at p2; rw [← p2] at e; cases e
    | some a => exact ⟨a, rfl, by rw [← q2, h]; rfl⟩
  clear hR1 hR2 q1 p1 q2 p2
  have HC := Lib.hid hc
  clear hc
  go_enter Tryd.func17, Tryd.ntmps17
  go_wp2_with (first | (go_at_call 28; refine HCUT.out.mono ?_; rintro e w1 ⟨rfl, q, rfl⟩; refine Hid.out ?_))
  refine Lib.hid ?_
  have h1 : ArrT 22 ((w.alloc (.cells #[.int .u8 0, .int .u8 0, .int .u8 0, .int .u8 0, .int .u8 0, .int .u8 0, .int .u8 0, .int .u8 0, .int .u8 0, .int .u8 0, .int .u8 0, .int .u8 0, .int .u8 0, .int .u8 0, .int .u8 0, .int .u8 0] 22)).drewN q) w.heap.size (List.replicate 16 0) ∧ Below w.heap.size w ((w.alloc (.cells #[.int .u8 0, .int .u8 0, .int .u8 0, .int .u8 0, .int .u8 0, .int .u8 0, .int .u8 0, .int .u8 0, .int .u8 0, .int .u8 0, .int .u8 0, .int .u8 0, .int .u8 0, .int .u8 0, .int .u8 0, .int .u8 0] 22)).drewN q) := ⟨Z.out.1.drewN q, below_drewN Z.out.2 q⟩
  have H1 := Lib.hid h1
  clear h1 HCUT Z
  generalize ((w.alloc (.cells #[.int .u8 0, .int .u8 0, .int .u8 0, .int .u8 0, .int .u8 0, .int .u8 0, .int .u8 0, .int .u8 0, .int .u8 0, .int .u8 0, .int .u8 0, .int .u8 0, .int .u8 0, .int .u8 0, .int .u8 0, .int .u8 0] 22)).drewN q) = W1 at *
  go_wp2_with (first | (go_at_call 29; refine (HR1.out _).mono ?_; rintro e w2 ⟨rfl, bb2⟩; refine Hid.out ?_))
  refine Lib.hid ?_
  have h2 : ArrT 22 w2 w.heap.size (List.replicate 16 0) ∧ Below w.heap.size w w2 := ⟨H1.out.1.up bb2, below_up H1.out.2 bb2 H1.out.2.size⟩
  have h3 : ArrT 22 (w2.alloc (.cells (intVals R1).toArray 47)) w.heap.size (List.replicate 16 0) ∧ Below w.heap.size w (w2.alloc (.cells (intVals R1).toArray 47)) ∧ IntT 47 (w2.alloc (.cells (intVals R1).toArray 47)) w2.heap.size R1 := ⟨h2.1.allocO _, h2.2.alloc h2.2.size _, intT_new w2 _⟩
  have H3 := Lib.hid h3
  have hlt1 : w.heap.size < w2.heap.size := h2.1.lt
  clear h2 h3 bb2 H1
  go_wp2_with (first | (refine wpList_store_newI rfl (.tmp 9) (.tmp 43) rfl R1 (by rw [HL1.out]; exact row9) _ rfl rfl (by rw [HL1.out]; rfl) ?_) | (go_at_call 29; refine (HR2.out _).mono ?_; rintro e w3 ⟨rfl, bb3⟩; refine Hid.out ?_))
  refine Lib.hid ?_
  have h4 : ArrT 22 (w3.alloc (.cells (intVals R2).toArray 47)) w.heap.size (List.replicate 16 0) ∧ Below w.heap.size w (w3.alloc (.cells (intVals R2).toArray 47)) ∧ IntT 47 (w3.alloc (.cells (intVals R2).toArray 47)) w2.heap.size R1 ∧ IntT 47 (w3.alloc (.cells (intVals R2).toArray 47)) w3.heap.size R2 := by
    have hb3 := below_up H3.out.2.1 bb3 H3.out.2.1.size
    exact ⟨(H3.out.1.up bb3).allocO _, hb3.alloc hb3.size _, (H3.out.2.2.up bb3).allocO _, intT_new w3 _⟩
  have hlt2 : w2.heap.size < w3.heap.size := (H3.out.2.2.up bb3).lt
  have HV := Lib.hid h4
  clear h4 bb3 H3
  go_wp2_with (first | (refine wpList_store_newI rfl (.tmp 11) (.tmp 48) rfl R2 (by rw [HL2.out]; exact row9) _ rfl rfl (by rw [HL2.out]; rfl) (Hid.out ?_)))
  refine Lib.hid ?_
  generalize (w3.alloc (.cells (intVals R2).toArray 47)) = V at *
  generalize w2.heap.size = B9 at *
  generalize w3.heap.size = B11 at *
  cases b1 with
  | false =>
    have hn := F1.out rfl
    have HNO : Hid (colV l = none ∧ colA l = List.replicate 16 0) := ⟨hn, colA_no hn⟩
    clear hn F1 F2 F3 F4
    go_wp2_with (refine wpList_store_arrT rfl (.tmp 2) (.tmp 64) rfl w.heap.size (List.replicate 16 0) arr16 (List.replicate 16 0) rfl rfl HV.out.1 rfl ?_)
    exact bodyPost_ret (results_arrT2 Tryd.results17 _ _ w.heap.size (List.replicate 16 0) arr16 rfl (arrT_setRow HV.out.1 _)) rfl ⟨by rw [HNO.out.1, HNO.out.2]; rfl, below_setRow HV.out.2.1 (Nat.le_refl _) _⟩
  | true =>
    cases b2 with
    | false =>
      have hn := F2.out rfl
      have HNO : Hid (colV l = none ∧ colA l = List.replicate 16 0) := ⟨hn, colA_no hn⟩
      clear hn F1 F2 F3 F4
      go_wp2_with (refine wpList_store_arrT rfl (.tmp 2) (.tmp 64) rfl w.heap.size (List.replicate 16 0) arr16 (List.replicate 16 0) rfl rfl HV.out.1 rfl ?_)
      exact bodyPost_ret (results_arrT2 Tryd.results17 _ _ w.heap.size (List.replicate 16 0) arr16 rfl (arrT_setRow HV.out.1 _)) rfl ⟨by rw [HNO.out.1, HNO.out.2]; rfl, below_setRow HV.out.2.1 (Nat.le_refl _) _⟩
    | true =>
      obtain ⟨a, ha, rfl⟩ := F3.out rfl
      obtain ⟨b, hb, rfl⟩ := F4.out rfl
      clear F1 F2 F3 F4
      have ha8 := (readO_len ha).1
      have hb8 := (readO_len hb).1
      have c1 := HV.out.2.2.1.cell 8 (by rw [HL1.out]; omega)
      have c2 := HV.out.2.2.2.cell 8 (by rw [HL2.out]; omega)
      rw [rowI_size a ha8] at c1
      rw [rowI_size b hb8] at c2
      by_cases hsum : a.length + b.length ≤ 7
      · obtain ⟨e, hle⟩ := colV_cut HC.out ha hb hsum
        have e2 := colA_yes e
        have hBL := bothG_length a b hsum
        have hOF := fun W => of_any (natsI (bothG a b)) W (by rw [natsI_length]; exact hBL) (natsI_range _ hle hBL)
        rw [okI_nats _ hle, ofL_nats _ hle] at hOF
        have HOF := Lib.hid hOF
        have HOL : Hid ((ofB (natsI (bothG a b))).length = 16) := by show _ = _; rw [ofB_length, natsI_length, hBL]
        have HYES : Hid (colA l = ofB (natsI (bothG a b)) ∧ colV l = some (bothG a b)) := ⟨e2, e⟩
        have HNL : Hid ((natsI (bothG a b)).length = 8) := by show _ = _; rw [natsI_length]; exact hBL
        have HSP := Lib.hid (both_splice a b hsum)
        have HF := Lib.hid (fill8_length a ha8)
        have HFR : Hid (V.rangeAt B9 0 (intVals (fill8 a))) := IntT.front (b := [(a.length : Int)]) HV.out.2.2.1
        have hge : ¬ (8 : Int) ≤ (a.length : Int) + (b.length : Int) := by omega
        clear hOF e e2 hle ha hb
        generalize ofB (natsI (bothG a b)) = D at *
        go_wp2_with (first | (refine wpList_load_intR rfl (.tmp 65) rfl B9 (fill8 a) (by rw [HF.out]; exact ints8.isRow) rfl HFR.out ?_) | (refine wpList_store_newI rfl (.tmp 13) (.tmp 66) rfl (fill8 a) (by rw [HF.out]; exact ints8.isRow) _ rfl rfl (by rw [HF.out]; rfl) ?_) | fail)
        obtain ⟨X, hX⟩ : ∃ X, (V.alloc (.cells (intVals (fill8 a)).toArray 25)).drew = X := ⟨_, rfl⟩
        have x0 : ArrT 22 X w.heap.size (List.replicate 16 0) ∧ Below w.heap.size w X ∧ IntT 47 X B11 (rowI b) ∧ IntT 25 X V.heap.size (fill8 a) := by
          rw [← hX]
          exact ⟨HV.out.1.allocO _, (HV.out.2.1.alloc HV.out.2.1.size _).drew, HV.out.2.2.2.allocO _, intT_new V _⟩
        have hBV : B11 < V.heap.size := HV.out.2.2.2.lt
        have hwV : w.heap.size < V.heap.size := HV.out.1.lt
        generalize V.heap.size = B13 at *
        obtain ⟨M, hM⟩ : ∃ M, 8 - b.length = M := ⟨_, rfl⟩
        have hs1 := fun W => slice_from ints8.row size_int W B13 M (by omega)
        have hs2 := fun W => slice_to ints8.row size_int W B11 b.length hb8
        obtain ⟨AD, hAD⟩ : ∃ AD : Addr, (if 8 = M then (⟨B13, 0, none⟩ : Addr) else ⟨B13, M, none⟩) = AD := ⟨_, rfl⟩
        rw [hAD] at hs1
        have hsub : (8 : Int) - (b.length : Int) = (M : Int) := by omega
        have hwM : IntKind.i64.wrap (M : Int) = (M : Int) := by rw [IntKind.wrap_i64]; omega
        have hc8 : CopyS B11 b.length X := by
          have := x0.2.2.1.cell 8 (by rw [HL2.out]; omega)
          rw [rowI_size b hb8] at this
          exact this
        refine wp_region_noPanic ?_
        refine wp_region_held_drew (S := CopyS B11 b.length) (by kernel_rfl) (by rw [hX]; exact hc8) (fun hHeld => ?_)
        rw [hX] at hHeld ⊢
        clear hX c1 c2 HV HFR
        refine held_take (v := ?v140) 0 rfl (by kernel_rfl) (by kernel_rfl) (by kernel_rfl) (fun _ _ _ h => h) (by rfl) ?y140 (by assumption) ?_
        case y140 => (intro w hSw; unfold CopyS at hSw; go_simp; (try with_reducible rfl); (try omega))
        simp only [List.setIfInBounds_toArray, List.set_cons_zero, List.set_cons_succ]
        refine held_take (v := ?v143) 1 rfl (by kernel_rfl) (by kernel_rfl) (by kernel_rfl) (fun _ _ _ h => h) (by rfl) ?y143 (by assumption) ?_
        case y143 => (intro w hSw; unfold CopyS at hSw; go_simp; (try with_reducible rfl); (try omega))
        simp only [List.setIfInBounds_toArray, List.set_cons_zero, List.set_cons_succ]
        refine held_take (v := ?v146) 2 rfl (by kernel_rfl) (by kernel_rfl) (by kernel_rfl) (fun _ _ _ h => h) (by rfl) ?y146 (by assumption) ?_
        case y146 => (intro w hSw; unfold CopyS at hSw; go_simp; (try with_reducible rfl); (try omega))
        simp only [List.setIfInBounds_toArray, List.set_cons_zero, List.set_cons_succ]
        refine held_take (v := ?v149) 3 rfl (by kernel_rfl) (by kernel_rfl) (by kernel_rfl) (fun _ _ _ h => h) (by rfl) ?y149 (by assumption) ?_
        case y149 => (intro w hSw; unfold CopyS at hSw; go_simp; (try with_reducible rfl); (try omega))
        simp only [List.setIfInBounds_toArray, List.set_cons_zero, List.set_cons_succ]
        refine held_take (v := ?v152) 4 rfl (by kernel_rfl) (by kernel_rfl) (by kernel_rfl) (fun _ _ _ h => h) (by rfl) ?y152 (by assumption) ?_
        case y152 => (intro w hSw; unfold CopyS at hSw; go_simp; (try with_reducible rfl); (try omega))
        simp only [List.setIfInBounds_toArray, List.set_cons_zero, List.set_cons_succ]
        refine held_take (v := ?v155) 5 rfl (by kernel_rfl) (by kernel_rfl) (by kernel_rfl) (fun _ _ _ h => h) (by rfl) ?y155 (by assumption) ?_
        case y155 => (intro w hSw; unfold CopyS at hSw; go_simp; (try with_reducible rfl); (try omega))
        simp only [List.setIfInBounds_toArray, List.set_cons_zero, List.set_cons_succ]
        refine held_take (v := ?v158) 6 rfl (by kernel_rfl) (by kernel_rfl) (by kernel_rfl) (fun _ _ _ h => h) (by rfl) ?y158 (by assumption) ?_
        case y158 => (intro w hSw; unfold CopyS at hSw; go_simp; (try with_reducible rfl); (try omega))
        simp only [List.setIfInBounds_toArray, List.set_cons_zero, List.set_cons_succ]
        refine held_take (v := ?v161) 7 rfl (by kernel_rfl) (by kernel_rfl) (by kernel_rfl) (fun _ _ _ h => h) (by rfl) ?y161 (by assumption) ?_
        case y161 => (intro w hSw; unfold CopyS at hSw; go_simp; (try with_reducible rfl); (try omega))
        simp only [List.setIfInBounds_toArray, List.set_cons_zero, List.set_cons_succ]
        refine held_one 8 rfl (by kernel_rfl) (by rfl) (fun K hK => ?_)
        refine wp_copy_set (.tmp 70) (.tmp 74) 40 40 rfl 3 Tryd.underlying40 sizeInt _ _ _ _ _ _ rfl rfl B13 M (intVals (fill8 a)) 25 x0.2.2.2 (intVals (natsI b)) (by rw [intVals_length, natsI_length]; exact (Nat.min_eq_left (by omega)).symm) (fun hp => ⟨by rw [← hAD, if_neg (by rw [intVals_length, natsI_length] at hp; omega)], ⟨B11, 0, none⟩, rfl, fun j v hj => by
          have hjl : j < b.length := by have := (List.getElem?_eq_some_iff.1 hj).1; rwa [intVals_length, natsI_length] at this
          rw [plain_add, Nat.zero_add]
          have h := x0.2.2.1.cell j (by rw [HL2.out]; omega)
          rw [h, ← hj, intVals_getElem? _ j (by rw [natsI_length]; exact hjl)]
          congr 2
          unfold intAt rowI fill8 natsI
          rw [List.getD, List.getD, List.append_assoc, List.getElem?_append_left (by simpa using hjl)]⟩) (by rw [intVals_length, intVals_length, natsI_length, HF.out]; omega) (intVals_oneCell _) ?_
        rw [← hM, HSP.out]
        have h5 : ArrT 22 (X.setRow B13 (intVals (natsI (bothG a b))).toArray) w.heap.size (List.replicate 16 0) ∧ Below w.heap.size w (X.setRow B13 (intVals (natsI (bothG a b))).toArray) ∧ IntT 25 (X.setRow B13 (intVals (natsI (bothG a b))).toArray) B13 (natsI (bothG a b)) := ⟨x0.1.rowOther (by omega) _, below_setRow x0.2.1 (by omega) _, intT_setRow x0.2.2.2 _⟩
        refine hK.out _ _ (by
          unfold CopyS
          rw [← hc8]
          unfold World.cell?
          simp only [setRow_other X B13 B11 _ (show B11 ≠ B13 by omega)]) (fun _ => ?_)
        clear hK K
        have H5 := Lib.hid h5
        clear h5 x0 hHeld hc8 HSP
        generalize X.setRow B13 (intVals (natsI (bothG a b))).toArray = Y at *
        generalize hGG : natsI (bothG a b) = GG at *
        refine wpAnyH_done (by kernel_rfl) ?_ _
        refine NoPanic.normal ?_
        clear hAD
        simp only [Act.put]
        go_wp2_with (first | (refine wpList_load_intT rfl (.tmp 13) rfl B13 GG (by rw [HNL.out]; exact ints8.isRow) rfl H5.out.2.2 ?_) | (go_at_call 19; refine (HOF.out _).mono ?_; rintro e w4 ⟨rfl, b4⟩) | (refine wpList_store_arrT rfl (.tmp 2) (.tmp 78) rfl w.heap.size D (by rw [HOL.out]; exact arr16) (List.replicate 16 0) rfl rfl (H5.out.1.up b4) (by rw [HOL.out]; rfl) ?_))
        exact bodyPost_ret (results_arrT2 Tryd.results17 _ _ w.heap.size D (by rw [HOL.out]; exact arr16) rfl (arrT_setRow (H5.out.1.up b4) _)) rfl ⟨by rw [HYES.out.1, HYES.out.2]; rfl, below_setRow (below_up H5.out.2.1 b4 H5.out.2.1.size) (Nat.le_refl _) _⟩
      · have hn := colV_cutM HC.out ha hb hsum
        have HNO : Hid (colV l = none ∧ colA l = List.replicate 16 0) := ⟨hn, colA_no hn⟩
        have hge : (8 : Int) ≤ (a.length : Int) + (b.length : Int) := by omega
        clear hn ha hb
        go_wp2_with (refine wpList_store_arrT rfl (.tmp 2) (.tmp 64) rfl w.heap.size (List.replicate 16 0) arr16 (List.replicate 16 0) rfl rfl HV.out.1 rfl ?_)
        exact bodyPost_ret (results_arrT2 Tryd.results17 _ _ w.heap.size (List.replicate 16 0) arr16 rfl (arrT_setRow HV.out.1 _)) rfl ⟨by rw [HNO.out.1, HNO.out.2]; rfl, below_setRow HV.out.2.1 (Nat.le_refl _) _⟩
theorem parse_any (s : ByteArray) (l : List UInt8) (hl : s.data.toList = l) (w : World) (hE : Env w) (hs : s.size ≤ 1000000) :
    Calls Tryd.prog 17 #[.string s] w fun r w' => r = .returned (.tuple #[arrV (colA l), .bool (colV l).isSome]) ∧ Below w.heap.size w w' := by
  cases hc : cc l with
  | none => exact parse_none s l hl w hE hs hc
  | some k => exact parse_some s l hl w hE hs k hc
end Go.Proofs.YteomoipbjkafgaaDoor
