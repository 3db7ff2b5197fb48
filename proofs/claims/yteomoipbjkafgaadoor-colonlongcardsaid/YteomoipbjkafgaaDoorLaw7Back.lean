/- ColonBack returns true, whatever it is given, and turns no old memory. -/
import Derived.Test.YteomoipbjkafgaaDoorAw7
namespace Go.Proofs.YteomoipbjkafgaaDoor
open Go Go.RowKit

theorem two_pair (x y : UInt8) : two (Int.ofNat (x.toNat * 256 + y.toNat)) = [x, y] := by
  have hx := UInt8.toNat_lt x
  have hy := UInt8.toNat_lt y
  unfold two
  have e1 : ((Int.ofNat (x.toNat * 256 + y.toNat)) / 256).toNat = x.toNat := by
    show (((x.toNat * 256 + y.toNat : Nat) : Int) / 256).toNat = x.toNat
    omega
  have e2 : ((Int.ofNat (x.toNat * 256 + y.toNat)) % 256).toNat = y.toNat := by
    show (((x.toNat * 256 + y.toNat : Nat) : Int) % 256).toNat = y.toNat
    omega
  rw [e1, e2]
  simp
theorem ofB_grp (a : List UInt8) (h : a.length = 16) : ofB (natsI (grpN a)) = a := by
  match a, h with
  | [a0, a1, a2, a3, a4, a5, a6, a7, a8, a9, a10, a11, a12, a13, a14, a15], _ =>
    show two (Int.ofNat (a0.toNat * 256 + a1.toNat)) ++ (two (Int.ofNat (a2.toNat * 256 + a3.toNat)) ++ (two (Int.ofNat (a4.toNat * 256 + a5.toNat)) ++ (two (Int.ofNat (a6.toNat * 256 + a7.toNat)) ++ (two (Int.ofNat (a8.toNat * 256 + a9.toNat)) ++ (two (Int.ofNat (a10.toNat * 256 + a11.toNat)) ++ (two (Int.ofNat (a12.toNat * 256 + a13.toNat)) ++ (two (Int.ofNat (a14.toNat * 256 + a15.toNat)) ++ []))))))) = _
    simp only [two_pair]
    rfl
theorem told (a : List UInt8) (h : a.length = 16) : colV (showA a) = some (grpN a) ∧ colA (showA a) = a := by
  have e := col_told (grpN a) (grpN_le a) (grpN_length a)
  exact ⟨e, (colA_yes e).trans (ofB_grp a h)⟩
theorem showA_len (a : List UInt8) : 2 ≤ (showA a).length ∧ (showA a).length ≤ 39 := showC_length _ (grpN_length a)
theorem showA_small (a : List UInt8) (k : Nat) (hk : k < (showA a).length) : ¬ (65 ≤ byteAt (showA a) k ∧ byteAt (showA a) k ≤ 70) := by
  have hm : (showA a)[k] ∈ showA a := List.getElem_mem hk
  have h := showC_small hm
  unfold byteAt
  simp only [List.getD, List.getElem?_eq_getElem hk, Option.getD_some]
  omega
/-- The boxes of the law. -/
def BackS (w : World) (a : List UInt8) (W : World) : Prop := ArrT 22 W w.heap.size a ∧ Env W ∧ Below w.heap.size w W
theorem BackS.up {w : World} {a : List UInt8} {W W' : World} (h : BackS w a W) (hb : Below W.heap.size W W') : BackS w a W' := ⟨h.1.up hb, h.2.1.up hb, below_up h.2.2 hb h.2.2.size⟩
theorem BackS.al {w : World} {a : List UInt8} {W : World} (h : BackS w a W) (o : Obj) : BackS w a (W.alloc o) := h.up ((Below.refl _ _).alloc (Nat.le_refl _) _)
theorem wpList_neq_arrB {ops : Array Oper} {rest : List Oper} {o : Oper} {a : Act} {w : World} {Q : Exit → Act → World → Prop} {t : TypeId} {n : Nat} (hgd : o.guard = none) (ht : IsArr t n) (x y : Operand) (ty : TypeId) (ho : o.op = .binOp .neq t x y ty) (l m : List UInt8) (hl : l.length = n) (hm : m.length = n) (b : Bool) (hb : (!decide (l = m)) = b) (hx : a.eval x = arrV l) (hy : a.eval y = arrV m)
    (hR : wpList Tryd.prog ops Q rest (a.put o.dst (.bool b)) w) : wpList Tryd.prog ops Q (o :: rest) a w := by
  subst hb
  exact wpList_plain hgd fun K hK => by
    unfold Oper.wp
    rw [exec_neq_arr ht x y ty ho l m hl hm hx hy]
    exact hK _ _ hR
set_option maxRecDepth 100000 in
set_option maxHeartbeats 8000000 in
theorem cback_list (a : List UInt8) (s : ByteArray) (w : World) (ha : a.length = 16) (hE : Env w) :
    Calls Tryd.prog 6 #[arrV a, .string s] w fun e w' => e = .returned (.bool true) ∧ Below w.heap.size w w' := by
  have zb : Below w.heap.size w (w.alloc (.cells (byteVals a).toArray 22)) := (Below.refl _ _).alloc (Nat.le_refl _) _
  have HZ : Hid (BackS w a (w.alloc (.cells (byteVals a).toArray 22))) := ⟨arrT_new w a, hE.up zb, zb⟩
  have HA := Lib.hid (fun W h => awake7_any W h)
  rw [show arrV a = .agg (byteVals a).toArray from rfl]
  have HL := Lib.hid ha
  clear hE zb
  by_cases hbig : 100 < s.size
  · have hbig2 : (100 : Int) < (s.size : Int) := by omega
    clear ha
    go_enter Tryd.func6, Tryd.ntmps6
    go_wp2_with (go_at_call 8; refine (HA.out _ HZ.out.2.1).mono ?_; rintro e w1 ⟨rfl, b1⟩)
    go_ret
    exact ⟨rfl, (HZ.out.up b1).2.2⟩
  have hbig2 : ¬ (100 : Int) < (s.size : Int) := by omega
  have HS := Lib.hid (fun W h => show_any a W h ha)
  have hsl := showA_len a
  have hP := fun W h => parse_any ⟨(showA a).toArray⟩ (showA a) rfl W h (by rw [str_len]; omega)
  rw [(told a ha).1, (told a ha).2] at hP
  have HP := Lib.hid hP
  have HPS := Lib.hid (fun W h => parse_any s s.data.toList rfl W h (by omega))
  have hM := colA_length s.data.toList
  have hno := fun (h : colV s.data.toList = none) => colA_no h
  have HSM := Lib.hid (showA_small a)
  have HSC := Lib.hid (fun W h => show_any (colA s.data.toList) W h hM)
  have hPC := fun W h => parse_any ⟨(showA (colA s.data.toList)).toArray⟩ (showA (colA s.data.toList)) rfl W h (by rw [str_len]; have := (showA_len (colA s.data.toList)).2; omega)
  rw [(told _ hM).1, (told _ hM).2] at hPC
  have HPC := Lib.hid hPC
  have hq : (colV s.data.toList).isSome = true ∨ ((colV s.data.toList).isSome = false ∧ colA s.data.toList = List.replicate 16 0) := by
    cases h : colV s.data.toList with
    | none => exact .inr ⟨rfl, hno h⟩
    | some g => exact .inl rfl
  have HQ := Lib.hid hq
  clear hno hP hPC hq
  generalize showA (colA s.data.toList) = U at *
  generalize colA s.data.toList = M at *
  generalize (colV s.data.toList).isSome = bs at *
  generalize showA a = T at *
  have t2 : ¬ (T.length : Int) < 2 := by omega
  have t39 : ¬ (39 : Int) < (T.length : Int) := by omega
  have HM := Lib.hid hM
  clear hM ha
  go_enter Tryd.func6, Tryd.ntmps6
  go_wp2_with (go_at_call 8; refine (HA.out _ HZ.out.2.1).mono ?_; rintro e w1 ⟨rfl, b1⟩; refine Hid.out ?_)
  refine Lib.hid ?_
  have Z1 := Lib.hid (HZ.out.up b1)
  clear b1 HZ HA
  go_wp2_with (first | (refine wpList_load_arrT rfl (.tmp 2) rfl w.heap.size a (by rw [HL.out]; exact arr16) rfl Z1.out.1 ?_) | (go_at_call 9; refine (HS.out _ Z1.out.2.1).mono ?_; rintro e w2 ⟨rfl, b2⟩; refine Hid.out ?_))
  refine Lib.hid ?_
  have Z2 := Lib.hid (Z1.out.up b2)
  clear b2 Z1 HS
  go_wp2_with (go_at_call 17; refine (HP.out _ Z2.out.2.1).mono ?_; rintro e w3 ⟨rfl, b3⟩; refine Hid.out ?_)
  refine Lib.hid ?_
  have Z3 : Hid (BackS w a (w3.alloc (.cells (byteVals a).toArray 22)) ∧ ArrT 22 (w3.alloc (.cells (byteVals a).toArray 22)) w3.heap.size a) := ⟨(Z2.out.up b3).al _, arrT_new w3 a⟩
  clear b3 Z2 HP
  go_wp2_with (first | (refine wpList_store_newT rfl (.tmp 7) (.tmp 25) rfl a (by rw [HL.out]; exact arr16) _ rfl rfl (by rw [HL.out]; rfl) ?_) | (refine wpList_load_arrT rfl (.tmp 7) rfl w3.heap.size a (by rw [HL.out]; exact arr16) rfl Z3.out.2 ?_) | (refine wpList_load_arrT rfl (.tmp 2) rfl w.heap.size a (by rw [HL.out]; exact arr16) rfl Z3.out.1.1 ?_) | (refine wpList_neq_arrB rfl arr16 (.tmp 27) (.tmp 28) _ rfl a a HL.out HL.out false (by simp) rfl rfl ?_) | (go_at_call 17; refine (HPS.out _ Z3.out.1.2.1).mono ?_; rintro e w4 ⟨rfl, b4⟩; refine Hid.out ?_))
  refine Lib.hid ?_
  have Z4 : Hid (BackS w a (w4.alloc (.cells (byteVals M).toArray 22)) ∧ ArrT 22 (w4.alloc (.cells (byteVals M).toArray 22)) w4.heap.size M) := ⟨(Z3.out.1.up b4).al _, arrT_new w4 M⟩
  clear b4 Z3 HPS
  go_wp2_with (first | (refine wpList_store_newT rfl (.tmp 9) (.tmp 47) rfl M (by rw [HM.out]; exact arr16) _ rfl rfl (by rw [HM.out]; rfl) ?_))
  generalize (w4.alloc (.cells (byteVals M).toArray 22)) = W4 at *
  generalize w4.heap.size = gc at *
  go_loop [11] (fun i => ∃ k : Nat, k ≤ T.length ∧ i = .int .i64 (k : Int)) (fun i => T.length - (intOf i).toNat)
  case atStart => exact ⟨0, by omega, rfl⟩
  case round =>
    obtain ⟨k, hk, rfl⟩ := hrel
    by_cases hlt : k < T.length
    · have hix := fun W => index_str W T k hlt
      have hsm := HSM.out k hlt
      have hb0 := byteAt_nonneg T k
      have hb1 := byteAt_le T k
      generalize byteAt T k = x at *
      by_cases hx : 65 ≤ x
      · have hx2 : ¬ x ≤ 70 := fun h => hsm ⟨hx, h⟩
        clear hsm
        go_wp2
        go_round
        case rel => exact ⟨k + 1, by omega, by go_num⟩
        case measure => simp [intOf]; omega
      · clear hsm
        go_wp2
        go_round
        case rel => exact ⟨k + 1, by omega, by go_num⟩
        case measure => simp [intOf]; omega
    · have hkn : ¬ (k : Int) < (T.length : Int) := by omega
      go_wp2_with (first | (refine wpList_load_arrT rfl (.tmp 9) rfl gc M (by rw [HM.out]; exact arr16) rfl Z4.out.2 ?_) | (go_at_call 9; refine (HSC.out _ Z4.out.1.2.1).mono ?_; rintro e w5 ⟨rfl, b5⟩; refine Hid.out ?_))
      refine Lib.hid ?_
      have Z5 : Hid (BackS w a w5 ∧ ArrT 22 w5 gc M) := ⟨Z4.out.1.up b5, Z4.out.2.up b5⟩
      clear b5 Z4 HSC
      go_wp2_with (first | (go_at_call 17; refine (HPC.out _ Z5.out.1.2.1).mono ?_; rintro e w6 ⟨rfl, b6⟩; refine Hid.out ?_))
      refine Lib.hid ?_
      have Z6 : Hid (BackS w a (w6.alloc (.cells (byteVals M).toArray 22)) ∧ ArrT 22 (w6.alloc (.cells (byteVals M).toArray 22)) gc M ∧ ArrT 22 (w6.alloc (.cells (byteVals M).toArray 22)) w6.heap.size M) := ⟨(Z5.out.1.up b6).al _, (Z5.out.2.up b6).allocO _, arrT_new w6 M⟩
      clear b6 Z5 HPC
      rcases HQ.out with hq | ⟨hq, hz⟩
      · subst hq
        go_wp2_with (first | (refine wpList_store_newT rfl (.tmp 12) (.tmp 69) rfl M (by rw [HM.out]; exact arr16) _ rfl rfl (by rw [HM.out]; rfl) ?_) | (refine wpList_load_arrG rfl (.tmp 12) rfl w6.heap.size M (by rw [HM.out]; exact arr16) rfl Z6.out.2.2 ?_) | (refine wpList_load_arrG rfl (.tmp 9) rfl gc M (by rw [HM.out]; exact arr16) rfl Z6.out.2.1 ?_) | (refine wpList_eql_arrGB rfl arr16 (.tmp 73) (.tmp 74) _ rfl M M HM.out HM.out true (by simp) rfl rfl ?_))
        go_ret
        exact ⟨rfl, Z6.out.1.2.2⟩
      · subst hq
        have HZZ := Lib.hid hz
        clear hz
        go_wp2_with (first | (refine wpList_store_newT rfl (.tmp 12) (.tmp 69) rfl M (by rw [HM.out]; exact arr16) _ rfl rfl (by rw [HM.out]; rfl) ?_) | (refine wpList_load_arrG rfl (.tmp 12) rfl w6.heap.size M (by rw [HM.out]; exact arr16) rfl Z6.out.2.2 ?_) | (refine wpList_load_arrG rfl (.tmp 9) rfl gc M (by rw [HM.out]; exact arr16) rfl Z6.out.2.1 ?_) | (refine wpList_eql_arrGB rfl arr16 (.tmp 73) (.tmp 74) _ rfl M M HM.out HM.out true (by simp) rfl rfl ?_) | (refine wpList_eql_arrGB rfl arr16 (.tmp 80) (.tmp 81) _ rfl M (List.replicate 16 0) HM.out rfl true (by rw [HZZ.out]; rfl) rfl rfl ?_))
        go_ret
        exact ⟨rfl, Z6.out.1.2.2⟩
theorem byte_of7 (n : Int) (h0 : 0 ≤ n) (h1 : n ≤ 255) : ∃ b : UInt8, n = (b.toNat : Int) := ⟨UInt8.ofNat n.toNat, by rw [UInt8.toNat_ofNat_of_lt' (show n.toNat < 256 by omega)]; omega⟩
theorem sixteen_of (n0 n1 n2 n3 n4 n5 n6 n7 n8 n9 n10 n11 n12 n13 n14 n15 : Int) (g0 : 0 ≤ n0) (h0 : n0 ≤ 255) (g1 : 0 ≤ n1) (h1 : n1 ≤ 255) (g2 : 0 ≤ n2) (h2 : n2 ≤ 255) (g3 : 0 ≤ n3) (h3 : n3 ≤ 255) (g4 : 0 ≤ n4) (h4 : n4 ≤ 255) (g5 : 0 ≤ n5) (h5 : n5 ≤ 255) (g6 : 0 ≤ n6) (h6 : n6 ≤ 255) (g7 : 0 ≤ n7) (h7 : n7 ≤ 255) (g8 : 0 ≤ n8) (h8 : n8 ≤ 255) (g9 : 0 ≤ n9) (h9 : n9 ≤ 255) (g10 : 0 ≤ n10) (h10 : n10 ≤ 255) (g11 : 0 ≤ n11) (h11 : n11 ≤ 255) (g12 : 0 ≤ n12) (h12 : n12 ≤ 255) (g13 : 0 ≤ n13) (h13 : n13 ≤ 255) (g14 : 0 ≤ n14) (h14 : n14 ≤ 255) (g15 : 0 ≤ n15) (h15 : n15 ≤ 255) :
    ∃ l : List UInt8, l.length = 16 ∧ Value.agg #[.int .u8 n0, .int .u8 n1, .int .u8 n2, .int .u8 n3, .int .u8 n4, .int .u8 n5, .int .u8 n6, .int .u8 n7, .int .u8 n8, .int .u8 n9, .int .u8 n10, .int .u8 n11, .int .u8 n12, .int .u8 n13, .int .u8 n14, .int .u8 n15] = arrV l := by
  obtain ⟨b0, rfl⟩ := byte_of7 n0 g0 h0
  obtain ⟨b1, rfl⟩ := byte_of7 n1 g1 h1
  obtain ⟨b2, rfl⟩ := byte_of7 n2 g2 h2
  obtain ⟨b3, rfl⟩ := byte_of7 n3 g3 h3
  obtain ⟨b4, rfl⟩ := byte_of7 n4 g4 h4
  obtain ⟨b5, rfl⟩ := byte_of7 n5 g5 h5
  obtain ⟨b6, rfl⟩ := byte_of7 n6 g6 h6
  obtain ⟨b7, rfl⟩ := byte_of7 n7 g7 h7
  obtain ⟨b8, rfl⟩ := byte_of7 n8 g8 h8
  obtain ⟨b9, rfl⟩ := byte_of7 n9 g9 h9
  obtain ⟨b10, rfl⟩ := byte_of7 n10 g10 h10
  obtain ⟨b11, rfl⟩ := byte_of7 n11 g11 h11
  obtain ⟨b12, rfl⟩ := byte_of7 n12 g12 h12
  obtain ⟨b13, rfl⟩ := byte_of7 n13 g13 h13
  obtain ⟨b14, rfl⟩ := byte_of7 n14 g14 h14
  obtain ⟨b15, rfl⟩ := byte_of7 n15 g15 h15
  exact ⟨[b0, b1, b2, b3, b4, b5, b6, b7, b8, b9, b10, b11, b12, b13, b14, b15], rfl, rfl⟩
theorem cback_row (n0 n1 n2 n3 n4 n5 n6 n7 n8 n9 n10 n11 n12 n13 n14 n15 : Int) (s : ByteArray) (w : World) (g0 : 0 ≤ n0) (h0 : n0 ≤ 255) (g1 : 0 ≤ n1) (h1 : n1 ≤ 255) (g2 : 0 ≤ n2) (h2 : n2 ≤ 255) (g3 : 0 ≤ n3) (h3 : n3 ≤ 255) (g4 : 0 ≤ n4) (h4 : n4 ≤ 255) (g5 : 0 ≤ n5) (h5 : n5 ≤ 255) (g6 : 0 ≤ n6) (h6 : n6 ≤ 255) (g7 : 0 ≤ n7) (h7 : n7 ≤ 255) (g8 : 0 ≤ n8) (h8 : n8 ≤ 255) (g9 : 0 ≤ n9) (h9 : n9 ≤ 255) (g10 : 0 ≤ n10) (h10 : n10 ≤ 255) (g11 : 0 ≤ n11) (h11 : n11 ≤ 255) (g12 : 0 ≤ n12) (h12 : n12 ≤ 255) (g13 : 0 ≤ n13) (h13 : n13 ≤ 255) (g14 : 0 ≤ n14) (h14 : n14 ≤ 255) (g15 : 0 ≤ n15) (h15 : n15 ≤ 255) (_ws : s.size ≤ maxLen) (hE : Env w) :
    Calls Tryd.prog 6 #[.agg #[.int .u8 n0, .int .u8 n1, .int .u8 n2, .int .u8 n3, .int .u8 n4, .int .u8 n5, .int .u8 n6, .int .u8 n7, .int .u8 n8, .int .u8 n9, .int .u8 n10, .int .u8 n11, .int .u8 n12, .int .u8 n13, .int .u8 n14, .int .u8 n15], .string s] w fun e w' => e = .returned (.bool true) ∧ Below w.heap.size w w' := by
  obtain ⟨l, hl, e⟩ := sixteen_of n0 n1 n2 n3 n4 n5 n6 n7 n8 n9 n10 n11 n12 n13 n14 n15 g0 h0 g1 h1 g2 h2 g3 h3 g4 h4 g5 h5 g6 h6 g7 h7 g8 h8 g9 h9 g10 h10 g11 h11 g12 h12 g13 h13 g14 h14 g15 h15
  rw [e]
  exact cback_list l s w hl hE
end Go.Proofs.YteomoipbjkafgaaDoor
