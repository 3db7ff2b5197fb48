/- ColonLong returns true, whatever it is given, and turns no old memory. -/
import Derived.Test.YteomoipbjkafgaaDoorCr1
import Derived.Test.YteomoipbjkafgaaDoorLaw7Back
namespace Go.Proofs.YteomoipbjkafgaaDoor
open Go Go.RowKit

/-- All groups' digits, as far as k. -/
def longS (cap : Bool) (H : List UInt8) : Nat → List UInt8
  | 0 => []
  | k + 1 => (longS cap H k ++ if 0 < k ∧ k % 4 = 0 then [58] else []) ++ [capB cap (H.getD k 0)]
theorem longS_length (cap : Bool) (H : List UInt8) : ∀ k, (longS cap H k).length ≤ 2 * k
  | 0 => by simp [longS]
  | k + 1 => by
    have := longS_length cap H k
    unfold longS
    split <;> simp <;> omega
def pairsOf (a : List UInt8) : List (UInt8 × UInt8) := (List.range 8).map fun i => (a.getD (2 * i) 0, a.getD (2 * i + 1) 0)
theorem pairsOf_length (a : List UInt8) : (pairsOf a).length = 8 := by simp [pairsOf]
theorem pairsOf_grp (a : List UInt8) : (pairsOf a).map (fun p => p.1.toNat * 256 + p.2.toNat) = grpN a := by
  unfold pairsOf grpN
  rw [List.map_map]
  rfl
theorem long_letters (cap : Bool) (c0 c1 c2 c3 c4 c5 c6 c7 c8 c9 c10 c11 c12 c13 c14 c15 c16 c17 c18 c19 c20 c21 c22 c23 c24 c25 c26 c27 c28 c29 c30 c31 : UInt8) : longS cap [c0, c1, c2, c3, c4, c5, c6, c7, c8, c9, c10, c11, c12, c13, c14, c15, c16, c17, c18, c19, c20, c21, c22, c23, c24, c25, c26, c27, c28, c29, c30, c31] 32 = joinB 58 [[capB cap c0, capB cap c1, capB cap c2, capB cap c3], [capB cap c4, capB cap c5, capB cap c6, capB cap c7], [capB cap c8, capB cap c9, capB cap c10, capB cap c11], [capB cap c12, capB cap c13, capB cap c14, capB cap c15], [capB cap c16, capB cap c17, capB cap c18, capB cap c19], [capB cap c20, capB cap c21, capB cap c22, capB cap c23], [capB cap c24, capB cap c25, capB cap c26, capB cap c27], [capB cap c28, capB cap c29, capB cap c30, capB cap c31]] := by
  simp [longS, joinB]
theorem long_text (cap : Bool) (a : List UInt8) (h : a.length = 16) : longS cap (hexL a) 32 = longT cap (pairsOf a) := by
  match a, h with
  | [a0, a1, a2, a3, a4, a5, a6, a7, a8, a9, a10, a11, a12, a13, a14, a15], _ =>
    have e1 : hexL [a0, a1, a2, a3, a4, a5, a6, a7, a8, a9, a10, a11, a12, a13, a14, a15] = [hexDig (a0.toNat / 16), hexDig (a0.toNat % 16), hexDig (a1.toNat / 16), hexDig (a1.toNat % 16), hexDig (a2.toNat / 16), hexDig (a2.toNat % 16), hexDig (a3.toNat / 16), hexDig (a3.toNat % 16), hexDig (a4.toNat / 16), hexDig (a4.toNat % 16), hexDig (a5.toNat / 16), hexDig (a5.toNat % 16), hexDig (a6.toNat / 16), hexDig (a6.toNat % 16), hexDig (a7.toNat / 16), hexDig (a7.toNat % 16), hexDig (a8.toNat / 16), hexDig (a8.toNat % 16), hexDig (a9.toNat / 16), hexDig (a9.toNat % 16), hexDig (a10.toNat / 16), hexDig (a10.toNat % 16), hexDig (a11.toNat / 16), hexDig (a11.toNat % 16), hexDig (a12.toNat / 16), hexDig (a12.toNat % 16), hexDig (a13.toNat / 16), hexDig (a13.toNat % 16), hexDig (a14.toNat / 16), hexDig (a14.toNat % 16), hexDig (a15.toNat / 16), hexDig (a15.toNat % 16)] := rfl
    rw [e1, long_letters]
    rfl
theorem long_told (cap : Bool) (a : List UInt8) (h : a.length = 16) : colV (longT cap (pairsOf a)) = some (grpN a) ∧ colA (longT cap (pairsOf a)) = a := by
  have e := col_long cap (pairsOf a) (pairsOf_length a)
  rw [pairsOf_grp] at e
  exact ⟨e, (colA_yes e).trans (ofB_grp a h)⟩
theorem longS_more (cap : Bool) (H : List UInt8) (k : Nat) (h : 0 < k ∧ k % 4 = 0) : longS cap H (k + 1) = (longS cap H k ++ [58]) ++ [capB cap (H.getD k 0)] := by
  rw [longS, if_pos h]
theorem longS_same (cap : Bool) (H : List UInt8) (k : Nat) (h : ¬ (0 < k ∧ k % 4 = 0)) : longS cap H (k + 1) = longS cap H k ++ [capB cap (H.getD k 0)] := by
  rw [longS, if_neg h, List.append_nil]
theorem capB_no (b : UInt8) : capB false b = b := rfl
theorem capB_low (b : UInt8) (h : ¬ 97 ≤ (b.toNat : Int)) : capB true b = b := by
  unfold capB
  rw [decide_eq_false (by omega)]
  rfl
theorem capB_up (b : UInt8) (h : 97 ≤ (b.toNat : Int)) : (b.toNat : Int) - 32 = ((capB true b).toNat : Int) := by
  have hb := UInt8.toNat_lt b
  unfold capB
  rw [decide_eq_true (by omega)]
  show _ = ((UInt8.ofNat (b.toNat - 32)).toNat : Int)
  rw [UInt8.toNat_ofNat_of_lt' (show b.toNat - 32 < 256 by omega)]
  omega
set_option maxRecDepth 100000 in
set_option maxHeartbeats 8000000 in
theorem clong_list (a : List UInt8) (cap : Bool) (w : World) (ha : a.length = 16) (hE : Env w) :
    Calls Tryd.prog 7 #[arrV a, .bool cap] w fun e w' => e = .returned (.bool true) ∧ Below w.heap.size w w' := by
  have zb : Below w.heap.size w (w.alloc (.cells (byteVals a).toArray 22)) := (Below.refl _ _).alloc (Nat.le_refl _) _
  have HZ : Hid (BackS w a (w.alloc (.cells (byteVals a).toArray 22))) := ⟨arrT_new w a, hE.up zb, zb⟩
  have HA := Lib.hid (fun W h => awake7_any W h)
  have HTX := Lib.hid (fun W => rtext7_any a W ha)
  have HHX := Lib.hid (fun W => rhex_l a W (by omega))
  have hHL := hexL_length a
  rw [ha] at hHL
  have hLT := long_text cap a ha
  have hlen := longS_length cap (hexL a) 32
  rw [hLT] at hlen
  have hP1 := fun W h => parse_any ⟨(longT cap (pairsOf a)).toArray⟩ (longT cap (pairsOf a)) rfl W h (by rw [str_len]; omega)
  rw [(long_told cap a ha).1, (long_told cap a ha).2] at hP1
  have n2 := col_long_more cap (pairsOf a) (pairsOf_length a)
  have hP2 := fun W h => parse_any ⟨(longT cap (pairsOf a) ++ [58, 48]).toArray⟩ (longT cap (pairsOf a) ++ [58, 48]) rfl W h (by rw [str_len]; simp; omega)
  rw [n2, colA_no n2] at hP2
  have n3 := col_long_front cap (pairsOf a) (pairsOf_length a)
  have hP3 := fun W h => parse_any ⟨(48 :: longT cap (pairsOf a)).toArray⟩ (48 :: longT cap (pairsOf a)) rfl W h (by rw [str_len]; simp; omega)
  rw [n3, colA_no n3] at hP3
  have HSL := Lib.hid (longS_length cap (hexL a))
  have HMO := Lib.hid (longS_more cap (hexL a))
  have HSA := Lib.hid (longS_same cap (hexL a))
  rw [← hLT] at hP1 hP2 hP3
  clear hLT n2 n3 hlen
  generalize hexL a = X at *
  generalize hTT : longS cap X 32 = TT at *
  have HTT := Lib.hid hTT
  have HP1 := Lib.hid hP1
  have HP2 := Lib.hid hP2
  have HP3 := Lib.hid hP3
  have HL := Lib.hid ha
  have HXL : Hid (X.length = 32) := hHL
  clear hHL
  have e58 : (⟨TT.toArray⟩ : ByteArray) ++ ⟨#[58, 48]⟩ = ⟨(TT ++ [58, 48]).toArray⟩ := str_append TT [58, 48]
  have e48 : (⟨#[48]⟩ : ByteArray) ++ ⟨TT.toArray⟩ = ⟨(48 :: TT).toArray⟩ := str_append [48] TT
  have hTL : TT.length ≤ 64 := by rw [← hTT]; exact HSL.out 32
  have E58 := Lib.hid e58
  have E48 := Lib.hid e48
  rw [show arrV a = .agg (byteVals a).toArray from rfl]
  clear hE zb ha hP1 hP2 hP3 hTT e58 e48
  go_enter Tryd.func7, Tryd.ntmps7
  go_wp2_with (go_at_call 8; refine (HA.out _ HZ.out.2.1).mono ?_; rintro e w1 ⟨rfl, b1⟩; refine Hid.out ?_)
  refine Lib.hid ?_
  have Z1 := Lib.hid (HZ.out.up b1)
  clear b1 HZ HA
  go_wp2_with (first | (refine wpList_load_arrT rfl (.tmp 2) rfl w.heap.size a (by rw [HL.out]; exact arr16) rfl Z1.out.1 ?_) | (go_at_call 22; refine (HTX.out _).mono ?_; rintro e w2 ⟨rfl, b2⟩) | (go_at_call 21; refine (HHX.out _).mono ?_; rintro e w3 ⟨rfl, b3⟩; refine Hid.out ?_))
  refine Lib.hid ?_
  have Z3 := Lib.hid ((Z1.out.up b2).up b3)
  clear b2 b3 Z1 HTX HHX
  go_wp2
  go_loopw [7, 8] (fun s i wr => ∃ k : Nat, k ≤ 32 ∧ i = .int .i64 (k : Int) ∧ s = .string ⟨(longS cap X k).toArray⟩ ∧ BackS w a wr) (fun _ i _ => 32 - (intOf i).toNat)
  case atStart => exact ⟨0, by omega, rfl, rfl, Z3.out⟩
  case round =>
    obtain ⟨k, hk, rfl, rfl, hS⟩ := hrel
    clear Z3
    by_cases hlt : k < 32
    · have hix := fun W => index_str W X k (by rw [HXL.out]; exact hlt)
      have hkX : (k : Int) < (X.length : Int) := by rw [HXL.out]; omega
      have hlk : (longS cap X k).length ≤ 64 := by have := HSL.out k; omega
      have HS2 : Hid (∀ o, BackS w a (wr.alloc o)) := fun o => hS.al o
      have hb0 : (0 : Int) ≤ byteAt X k := byteAt_nonneg X k
      have hb1 : byteAt X k ≤ 255 := byteAt_le X k
      have hbb : byteAt X k = ((X.getD k 0).toNat : Int) := rfl
      have HMk := HMO.out k
      have HSk := HSA.out k
      clear hS
      generalize hB : X.getD k 0 = B at *
      clear hB
      generalize byteAt X k = c at *
      generalize hLS : longS cap X k = S at *
      clear hLS
      by_cases hY : 0 < k ∧ k % 4 = 0
      · have y0 : 0 < k := hY.1
        have y2 : (k : Int) % 4 = 0 := by omega
        cases cap with
        | false =>
          have hx : c = ((capB false B).toNat : Int) := by rw [capB_no]; exact hbb
          have HN : Hid (longS false X (k + 1) = (S ++ [58]) ++ [capB false B]) := HMk hY
          generalize capB false B = x at *
          have hcv := conv_one7 wr x c hx wr.heap.size rfl
          clear HMk HSk hx hbb hY
          go_wp2
          go_roundw
          case rel => exact ⟨k + 1, by omega, by go_num, congrArg Value.string (by rw [HN.out, show (⟨#[58]⟩ : ByteArray) = ⟨[58].toArray⟩ from rfl, str_append, str_append]), HS2.out _⟩
          case measure => simp [intOf]; omega
        | true =>
          by_cases hc : 97 ≤ c
          · have hx : c - 32 = ((capB true B).toNat : Int) := by rw [hbb]; exact capB_up B (by omega)
            have HN : Hid (longS true X (k + 1) = (S ++ [58]) ++ [capB true B]) := HMk hY
            generalize capB true B = x at *
            have hcv := conv_one7 wr x (c - 32) hx wr.heap.size rfl
            clear HMk HSk hx hbb hY
            go_wp2
            go_roundw
            case rel => exact ⟨k + 1, by omega, by go_num, congrArg Value.string (by rw [HN.out, show (⟨#[58]⟩ : ByteArray) = ⟨[58].toArray⟩ from rfl, str_append, str_append]), HS2.out _⟩
            case measure => simp [intOf]; omega
          · have hx : c = ((capB true B).toNat : Int) := by rw [capB_low B (by omega)]; exact hbb
            have HN : Hid (longS true X (k + 1) = (S ++ [58]) ++ [capB true B]) := HMk hY
            generalize capB true B = x at *
            have hcv := conv_one7 wr x c hx wr.heap.size rfl
            clear HMk HSk hx hbb hY
            go_wp2
            go_roundw
            case rel => exact ⟨k + 1, by omega, by go_num, congrArg Value.string (by rw [HN.out, show (⟨#[58]⟩ : ByteArray) = ⟨[58].toArray⟩ from rfl, str_append, str_append]), HS2.out _⟩
            case measure => simp [intOf]; omega
      · by_cases h0 : 0 < k
        · have y0 : 0 < k := h0
          have y2 : ¬ (k : Int) % 4 = 0 := by omega
          have y3 : ((k : Int) % 4 == 0) = false := beq_eq_false_iff_ne.2 y2
          cases cap with
          | false =>
            have hx : c = ((capB false B).toNat : Int) := by rw [capB_no]; exact hbb
            have HN : Hid (longS false X (k + 1) = S ++ [capB false B]) := HSk hY
            generalize capB false B = x at *
            have hcv := conv_one7 wr x c hx wr.heap.size rfl
            clear HMk HSk hx hbb hY
            go_wp2
            go_roundw
            case rel => exact ⟨k + 1, by omega, by go_num, congrArg Value.string (by rw [HN.out, str_append]), HS2.out _⟩
            case measure => simp [intOf]; omega
          | true =>
            by_cases hc : 97 ≤ c
            · have hx : c - 32 = ((capB true B).toNat : Int) := by rw [hbb]; exact capB_up B (by omega)
              have HN : Hid (longS true X (k + 1) = S ++ [capB true B]) := HSk hY
              generalize capB true B = x at *
              have hcv := conv_one7 wr x (c - 32) hx wr.heap.size rfl
              clear HMk HSk hx hbb hY
              go_wp2
              go_roundw
              case rel => exact ⟨k + 1, by omega, by go_num, congrArg Value.string (by rw [HN.out, str_append]), HS2.out _⟩
              case measure => simp [intOf]; omega
            · have hx : c = ((capB true B).toNat : Int) := by rw [capB_low B (by omega)]; exact hbb
              have HN : Hid (longS true X (k + 1) = S ++ [capB true B]) := HSk hY
              generalize capB true B = x at *
              have hcv := conv_one7 wr x c hx wr.heap.size rfl
              clear HMk HSk hx hbb hY
              go_wp2
              go_roundw
              case rel => exact ⟨k + 1, by omega, by go_num, congrArg Value.string (by rw [HN.out, str_append]), HS2.out _⟩
              case measure => simp [intOf]; omega
        · have y0 : ¬ 0 < k := h0
          cases cap with
          | false =>
            have hx : c = ((capB false B).toNat : Int) := by rw [capB_no]; exact hbb
            have HN : Hid (longS false X (k + 1) = S ++ [capB false B]) := HSk hY
            generalize capB false B = x at *
            have hcv := conv_one7 wr x c hx wr.heap.size rfl
            clear HMk HSk hx hbb hY
            go_wp2
            go_roundw
            case rel => exact ⟨k + 1, by omega, by go_num, congrArg Value.string (by rw [HN.out, str_append]), HS2.out _⟩
            case measure => simp [intOf]; omega
          | true =>
            by_cases hc : 97 ≤ c
            · have hx : c - 32 = ((capB true B).toNat : Int) := by rw [hbb]; exact capB_up B (by omega)
              have HN : Hid (longS true X (k + 1) = S ++ [capB true B]) := HSk hY
              generalize capB true B = x at *
              have hcv := conv_one7 wr x (c - 32) hx wr.heap.size rfl
              clear HMk HSk hx hbb hY
              go_wp2
              go_roundw
              case rel => exact ⟨k + 1, by omega, by go_num, congrArg Value.string (by rw [HN.out, str_append]), HS2.out _⟩
              case measure => simp [intOf]; omega
            · have hx : c = ((capB true B).toNat : Int) := by rw [capB_low B (by omega)]; exact hbb
              have HN : Hid (longS true X (k + 1) = S ++ [capB true B]) := HSk hY
              generalize capB true B = x at *
              have hcv := conv_one7 wr x c hx wr.heap.size rfl
              clear HMk HSk hx hbb hY
              go_wp2
              go_roundw
              case rel => exact ⟨k + 1, by omega, by go_num, congrArg Value.string (by rw [HN.out, str_append]), HS2.out _⟩
              case measure => simp [intOf]; omega
    · have hk32 : k = 32 := by omega
      subst hk32
      have hX32 : X.length = 32 := HXL.out
      rw [HTT.out]
      have HS := Lib.hid hS
      clear hS
      go_wp2_with (first | (go_at_call 17; refine (HP1.out _ HS.out.2.1).mono ?_; rintro e w4 ⟨rfl, b4⟩; refine Hid.out ?_))
      refine Lib.hid ?_
      have Z4 : Hid (BackS w a (w4.alloc (.cells (byteVals a).toArray 22)) ∧ ArrT 22 (w4.alloc (.cells (byteVals a).toArray 22)) w4.heap.size a) := ⟨(HS.out.up b4).al _, arrT_new w4 a⟩
      clear b4 HS HP1
      have e58 := E58.out
      go_wp2_with (first | (refine wpList_store_newT rfl (.tmp 10) (.tmp 55) rfl a (by rw [HL.out]; exact arr16) _ rfl rfl (by rw [HL.out]; rfl) ?_) | (go_at_call 17; refine (HP2.out _ Z4.out.1.2.1).mono ?_; rintro e w5 ⟨rfl, b5⟩; refine Hid.out ?_))
      refine Lib.hid ?_
      have Z5 : Hid (BackS w a (w5.alloc (.cells (byteVals (List.replicate 16 0)).toArray 22)) ∧ ArrT 22 (w5.alloc (.cells (byteVals (List.replicate 16 0)).toArray 22)) w4.heap.size a) := ⟨(Z4.out.1.up b5).al _, (Z4.out.2.up b5).allocO _⟩
      clear b5 Z4 HP2 e58
      have e48 := E48.out
      go_wp2_with (first | (refine wpList_store_newT rfl (.tmp 12) (.tmp 61) rfl (List.replicate 16 0) arr16 _ rfl rfl rfl ?_) | (go_at_call 17; refine (HP3.out _ Z5.out.1.2.1).mono ?_; rintro e w6 ⟨rfl, b6⟩; refine Hid.out ?_))
      refine Lib.hid ?_
      have Z6 : Hid (BackS w a (w6.alloc (.cells (byteVals (List.replicate 16 0)).toArray 22)) ∧ ArrT 22 (w6.alloc (.cells (byteVals (List.replicate 16 0)).toArray 22)) w4.heap.size a) := ⟨(Z5.out.1.up b6).al _, (Z5.out.2.up b6).allocO _⟩
      clear b6 Z5 HP3 e48
      go_wp2_with (first | (refine wpList_store_newT rfl (.tmp 14) (.tmp 67) rfl (List.replicate 16 0) arr16 _ rfl rfl rfl ?_) | (refine wpList_load_arrT rfl (.tmp 10) rfl w4.heap.size a (by rw [HL.out]; exact arr16) rfl Z6.out.2 ?_) | (refine wpList_load_arrT rfl (.tmp 2) rfl w.heap.size a (by rw [HL.out]; exact arr16) rfl Z6.out.1.1 ?_) | (refine wpList_eql_arrB rfl arr16 (.tmp 69) (.tmp 70) _ rfl a a HL.out HL.out true (by simp) rfl rfl ?_))
      go_ret
      exact ⟨rfl, Z6.out.1.2.2⟩
theorem clong_row (n0 n1 n2 n3 n4 n5 n6 n7 n8 n9 n10 n11 n12 n13 n14 n15 : Int) (cap : Bool) (w : World) (g0 : 0 ≤ n0) (h0 : n0 ≤ 255) (g1 : 0 ≤ n1) (h1 : n1 ≤ 255) (g2 : 0 ≤ n2) (h2 : n2 ≤ 255) (g3 : 0 ≤ n3) (h3 : n3 ≤ 255) (g4 : 0 ≤ n4) (h4 : n4 ≤ 255) (g5 : 0 ≤ n5) (h5 : n5 ≤ 255) (g6 : 0 ≤ n6) (h6 : n6 ≤ 255) (g7 : 0 ≤ n7) (h7 : n7 ≤ 255) (g8 : 0 ≤ n8) (h8 : n8 ≤ 255) (g9 : 0 ≤ n9) (h9 : n9 ≤ 255) (g10 : 0 ≤ n10) (h10 : n10 ≤ 255) (g11 : 0 ≤ n11) (h11 : n11 ≤ 255) (g12 : 0 ≤ n12) (h12 : n12 ≤ 255) (g13 : 0 ≤ n13) (h13 : n13 ≤ 255) (g14 : 0 ≤ n14) (h14 : n14 ≤ 255) (g15 : 0 ≤ n15) (h15 : n15 ≤ 255) (hE : Env w) :
    Calls Tryd.prog 7 #[.agg #[.int .u8 n0, .int .u8 n1, .int .u8 n2, .int .u8 n3, .int .u8 n4, .int .u8 n5, .int .u8 n6, .int .u8 n7, .int .u8 n8, .int .u8 n9, .int .u8 n10, .int .u8 n11, .int .u8 n12, .int .u8 n13, .int .u8 n14, .int .u8 n15], .bool cap] w fun e w' => e = .returned (.bool true) ∧ Below w.heap.size w w' := by
  obtain ⟨l, hl, e⟩ := sixteen_of n0 n1 n2 n3 n4 n5 n6 n7 n8 n9 n10 n11 n12 n13 n14 n15 g0 h0 g1 h1 g2 h2 g3 h3 g4 h4 g5 h5 g6 h6 g7 h7 g8 h8 g9 h9 g10 h10 g11 h11 g12 h12 g13 h13 g14 h14 g15 h15
  rw [e]
  exact clong_list l cap w hl hE
end Go.Proofs.YteomoipbjkafgaaDoor
