/- The document's Groups, Of and Text of layers 7 and 5. Proved: what each returns. -/
import Derived.Test.YteomoipbjkafgaaDoorAw7
import Derived.Test.YteomoipbjkafgaaDoorRef3
namespace Go.Proofs.YteomoipbjkafgaaDoor
open Go Go.RowKit

set_option maxRecDepth 100000 in
set_option maxHeartbeats 4000000 in
theorem rgroups_any (a : List UInt8) (w : World) (ha : a.length = 16) :
    Calls Tryd.prog 12 #[arrV a] w fun r w' => r = .returned (intV (natsI (grpN a))) ∧ Below w.heap.size w w' := by
  generalize hW : (((w.alloc (.cells (byteVals a).toArray 22)).alloc (.cells (intVals [0, 0, 0, 0, 0, 0, 0, 0]).toArray 25)).alloc (.cells (intVals [0, 0, 0, 0, 0, 0, 0, 0]).toArray 25)) = W
  have z0 : ArrT 22 W w.heap.size a := by rw [← hW]; exact ((arrT_new w a).allocO _).allocO _
  have z1 : IntT 25 W (w.heap.size + 1) [0, 0, 0, 0, 0, 0, 0, 0] := by
    have := (intT_new (t := 25) (w.alloc (.cells (byteVals a).toArray 22)) [0, 0, 0, 0, 0, 0, 0, 0]).allocO (.cells (intVals [0, 0, 0, 0, 0, 0, 0, 0]).toArray 25)
    rw [World.size_alloc, hW] at this
    exact this
  have z2 : IntT 25 W (w.heap.size + 1 + 1) [0, 0, 0, 0, 0, 0, 0, 0] := by
    have := intT_new (t := 25) ((w.alloc (.cells (byteVals a).toArray 22)).alloc (.cells (intVals [0, 0, 0, 0, 0, 0, 0, 0]).toArray 25)) [0, 0, 0, 0, 0, 0, 0, 0]
    rw [World.size_alloc, World.size_alloc, hW] at this
    exact this
  have zb : Below w.heap.size w W := by rw [← hW]; exact (((Below.refl _ _).alloc (Nat.le_refl _) _).alloc (by simp) _).alloc (by simp; omega) _
  have Z := Lib.hid (And.intro z0 (And.intro z1 (And.intro z2 zb)))
  rw [← hW, ← zero8] at Z
  clear hW z0 z1 z2 zb
  clear W
  rw [show arrV a = .agg (byteVals a).toArray from rfl]
  have HG := Lib.hid (grpN_length a)
  have HAt := Lib.hid (grpN_at a)
  go_enter Tryd.func12, Tryd.ntmps12
  go_wp2
  go_loopw [4] (fun i wr => ∃ k : Nat, k ≤ 8 ∧ i = .int .i64 (k : Int) ∧ IntT 25 wr (w.heap.size + 1 + 1) (gfill (grpN a) k) ∧ IntT 25 wr (w.heap.size + 1) [0, 0, 0, 0, 0, 0, 0, 0] ∧ ArrT 22 wr w.heap.size a ∧ Below w.heap.size w wr) (fun i _ => 8 - (intOf i).toNat)
  case atStart => exact ⟨0, by omega, rfl, Z.out.2.2.1, Z.out.2.1, Z.out.1, Z.out.2.2.2⟩
  case round =>
    obtain ⟨k, hk, rfl, hA, hB, hC, hb⟩ := hrel
    clear Z
    by_cases hlt : k < 8
    · have c1 := hC.cell (2 * k) (by omega)
      have c2 := hC.cell (2 * k + 1) (by omega)
      have hcell := hA.cell k (by rw [gfill_length _ k hk HG.out]; omega)
      have hfr := hA.frozen k
      have hst := hA.store k (256 * ((a.getD (2 * k) 0).toNat : Int) + ((a.getD (2 * k + 1) 0).toNat : Int))
      rw [show (256 * ((a.getD (2 * k) 0).toNat : Int) + ((a.getD (2 * k + 1) 0).toNat : Int)) = (((a.getD (2 * k) 0).toNat * 256 + (a.getD (2 * k + 1) 0).toNat : Nat) : Int) by omega, gfill_set (grpN a) k hlt HG.out _ (HAt.out k hlt).symm, show (((a.getD (2 * k) 0).toNat * 256 + (a.getD (2 * k + 1) 0).toNat : Nat) : Int) = (256 * ((a.getD (2 * k) 0).toNat : Int) + ((a.getD (2 * k + 1) 0).toNat : Int)) by omega] at hst
      have HS := Lib.hid hst
      have HR : Hid (∀ v, IntT 25 (wr.setCell ⟨w.heap.size + 1 + 1, k, none⟩ v) (w.heap.size + 1) [0, 0, 0, 0, 0, 0, 0, 0] ∧ ArrT 22 (wr.setCell ⟨w.heap.size + 1 + 1, k, none⟩ v) w.heap.size a ∧ Below w.heap.size w (wr.setCell ⟨w.heap.size + 1 + 1, k, none⟩ v)) := fun v => ⟨hB.setOther (by omega) _ _, hC.setOther (by omega) _ _, hb.setCell (by simp; omega) _⟩
      rw [show byteAt a (2 * k) = ((a.getD (2 * k) 0).toNat : Int) from rfl] at c1
      rw [show byteAt a (2 * k + 1) = ((a.getD (2 * k + 1) 0).toNat : Int) from rfl] at c2
      clear hA hB hC hb hst
      have k2 : ((2 : Int) * (k : Int)).toNat = 2 * k := by omega
      have k3 : ((2 : Int) * (k : Int) + 1).toNat = 2 * k + 1 := by omega
      have k4 : (0 : Int) ≤ 2 * (k : Int) := by omega
      have k5 : (0 : Int) ≤ 2 * (k : Int) + 1 := by omega
      generalize hX : a.getD (2 * k) 0 = X at *
      generalize hY : a.getD (2 * k + 1) 0 = Y at *
      have HX : Hid (byteAt a (2 * k) = (X.toNat : Int)) := by rw [← hX]; rfl
      have HY : Hid (byteAt a (2 * k + 1) = (Y.toNat : Int)) := by rw [← hY]; rfl
      clear hX hY
      go_wp2_with fail
      refine wp_region_noPanic ?_
      refine wp_region_held_drew (S := PairS w.heap.size (2 * k) X Y) (by kernel_rfl) ⟨c1, c2⟩ (fun hHeld => ?_)
      have kw1 : IntKind.i64.wrap (2 * (k : Int)) = 2 * (k : Int) := by rw [IntKind.wrap_i64]; omega
      have kw2 : IntKind.i64.wrap (2 * (k : Int) + 1) = 2 * (k : Int) + 1 := by rw [IntKind.wrap_i64]; omega
      have k6 : 2 * (k : Int) < 16 := by omega
      have k7 : 2 * (k : Int) + 1 < 16 := by omega
      have bX := UInt8.toNat_lt X
      have bY := UInt8.toNat_lt Y
      have kw3 : IntKind.i64.wrap (256 * (X.toNat : Int)) = 256 * (X.toNat : Int) := by rw [IntKind.wrap_i64]; omega
      have kw4 : IntKind.i64.wrap (256 * (X.toNat : Int) + (Y.toNat : Int)) = 256 * (X.toNat : Int) + (Y.toNat : Int) := by rw [IntKind.wrap_i64]; omega
      have kw5 : IntKind.i64.wrap (X.toNat : Int) = (X.toNat : Int) := by rw [IntKind.wrap_i64]; omega
      have kw6 : IntKind.i64.wrap (Y.toNat : Int) = (Y.toNat : Int) := by rw [IntKind.wrap_i64]; omega
      refine held_take (v := ?v69) 0 rfl (by kernel_rfl) (by kernel_rfl) (by kernel_rfl) (fun _ _ _ h => h) (by rfl) ?y69 (by assumption) ?_
      case y69 => (intro w hSw; unfold PairS at hSw; go_simp; (try with_reducible rfl); (try omega))
      simp only [List.setIfInBounds_toArray, List.set_cons_zero, List.set_cons_succ]
      refine held_take (v := ?v72) 1 rfl (by kernel_rfl) (by kernel_rfl) (by kernel_rfl) (fun _ _ _ h => h) (by rfl) ?y72 (by assumption) ?_
      case y72 => (intro w hSw; unfold PairS at hSw; go_simp; (try with_reducible rfl); (try omega))
      simp only [List.setIfInBounds_toArray, List.set_cons_zero, List.set_cons_succ]
      refine held_take (v := ?v75) 2 rfl (by kernel_rfl) (by kernel_rfl) (by kernel_rfl) (fun _ _ _ h => h) (by rfl) ?y75 (by assumption) ?_
      case y75 => (intro w hSw; unfold PairS at hSw; go_simp; (try with_reducible rfl); (try omega))
      simp only [List.setIfInBounds_toArray, List.set_cons_zero, List.set_cons_succ]
      refine held_take (v := ?v78) 3 rfl (by kernel_rfl) (by kernel_rfl) (by kernel_rfl) (fun _ _ _ h => h) (by rfl) ?y78 (by assumption) ?_
      case y78 => (intro w hSw; unfold PairS at hSw; go_simp; (try with_reducible rfl); (try omega))
      simp only [List.setIfInBounds_toArray, List.set_cons_zero, List.set_cons_succ]
      refine held_take (v := ?v81) 4 rfl (by kernel_rfl) (by kernel_rfl) (by kernel_rfl) (fun _ _ _ h => h) (by rfl) ?y81 (by assumption) ?_
      case y81 => (intro w hSw; unfold PairS at hSw; go_simp; (try with_reducible rfl); (try omega))
      simp only [List.setIfInBounds_toArray, List.set_cons_zero, List.set_cons_succ]
      refine held_take (v := ?v84) 5 rfl (by kernel_rfl) (by kernel_rfl) (by kernel_rfl) (fun _ _ _ h => h) (by rfl) ?y84 (by assumption) ?_
      case y84 => (intro w hSw; unfold PairS at hSw; go_simp; (try with_reducible rfl); (try omega))
      simp only [List.setIfInBounds_toArray, List.set_cons_zero, List.set_cons_succ]
      refine held_take (v := ?v87) 6 rfl (by kernel_rfl) (by kernel_rfl) (by kernel_rfl) (fun _ _ _ h => h) (by rfl) ?y87 (by assumption) ?_
      case y87 => (intro w hSw; unfold PairS at hSw; go_simp; (try with_reducible rfl); (try omega))
      simp only [List.setIfInBounds_toArray, List.set_cons_zero, List.set_cons_succ]
      refine held_take (v := ?v90) 7 rfl (by kernel_rfl) (by kernel_rfl) (by kernel_rfl) (fun _ _ _ h => h) (by rfl) ?y90 (by assumption) ?_
      case y90 => (intro w hSw; unfold PairS at hSw; go_simp; (try with_reducible rfl); (try omega))
      simp only [List.setIfInBounds_toArray, List.set_cons_zero, List.set_cons_succ]
      refine held_take (v := ?v93) 8 rfl (by kernel_rfl) (by kernel_rfl) (by kernel_rfl) (fun _ _ _ h => h) (by rfl) ?y93 (by assumption) ?_
      case y93 => (intro w hSw; unfold PairS at hSw; go_simp; (try with_reducible rfl); (try omega))
      simp only [List.setIfInBounds_toArray, List.set_cons_zero, List.set_cons_succ]
      refine held_take (v := ?v96) 9 rfl (by kernel_rfl) (by kernel_rfl) (by kernel_rfl) (fun _ _ _ h => h) (by rfl) ?y96 (by assumption) ?_
      case y96 => (intro w hSw; unfold PairS at hSw; go_simp; (try with_reducible rfl); (try omega))
      simp only [List.setIfInBounds_toArray, List.set_cons_zero, List.set_cons_succ]
      refine held_take (v := ?v99) 10 rfl (by kernel_rfl) (by kernel_rfl) (by kernel_rfl) (fun _ _ _ h => h) (by rfl) ?y99 (by assumption) ?_
      case y99 => (intro w hSw; unfold PairS at hSw; go_simp; (try with_reducible rfl); (try omega))
      simp only [List.setIfInBounds_toArray, List.set_cons_zero, List.set_cons_succ]
      refine held_take (v := ?v102) 11 rfl (by kernel_rfl) (by kernel_rfl) (by kernel_rfl) (fun _ _ _ h => h) (by rfl) ?y102 (by assumption) ?_
      case y102 => (intro w hSw; unfold PairS at hSw; go_simp; (try with_reducible rfl); (try omega))
      simp only [List.setIfInBounds_toArray, List.set_cons_zero, List.set_cons_succ]
      refine held_take (v := ?v105) 12 rfl (by kernel_rfl) (by kernel_rfl) (by kernel_rfl) (fun _ _ _ h => h) (by rfl) ?y105 (by assumption) ?_
      case y105 => (intro w hSw; unfold PairS at hSw; go_simp; (try with_reducible rfl); (try omega))
      simp only [List.setIfInBounds_toArray, List.set_cons_zero, List.set_cons_succ]
      refine held_take (v := ?v108) 13 rfl (by kernel_rfl) (by kernel_rfl) (by kernel_rfl) (fun _ _ _ h => h) (by rfl) ?y108 (by assumption) ?_
      case y108 => (intro w hSw; unfold PairS at hSw; go_simp; (try with_reducible rfl); (try omega))
      simp only [List.setIfInBounds_toArray, List.set_cons_zero, List.set_cons_succ]
      refine held_take (v := ?v111) 14 rfl (by kernel_rfl) (by kernel_rfl) (by kernel_rfl) (fun _ _ _ h => h) (by rfl) ?y111 (by assumption) ?_
      case y111 => (intro w hSw; unfold PairS at hSw; go_simp; (try with_reducible rfl); (try omega))
      simp only [List.setIfInBounds_toArray, List.set_cons_zero, List.set_cons_succ]
      refine held_none 15 rfl (by kernel_rfl) (by rfl) (fun K hK => ?_)
      go_simp
      refine hK.out _ _ (by
        have h1 : ArrT 22 (wr.setCell ⟨w.heap.size + 1 + 1, k, none⟩ (.int .i64 (256 * (X.toNat : Int) + (Y.toNat : Int)))).drew w.heap.size a := (HR.out (.int .i64 (256 * (X.toNat : Int) + (Y.toNat : Int)))).2.1
        exact ⟨by rw [h1.cell (2 * k) (by omega), HX.out], by rw [h1.cell (2 * k + 1) (by omega), HY.out]⟩) (fun _ => ?_)
      clear hK K
      refine wpAnyH_done (by kernel_rfl) ?_ _
      refine NoPanic.normal ?_
      go_wp2
      go_roundw
      case rel => exact ⟨k + 1, by omega, by go_num, HS.out, (HR.out _).1, (HR.out _).2.1, (HR.out _).2.2.drew⟩
      case measure => simp [intOf]; omega
    · have hk8 : k = 8 := by omega
      subst hk8
      rw [gfill_full _ HG.out] at hA
      have HA := Lib.hid hA
      have HB := Lib.hid hB
      have HBB := Lib.hid hb
      have HL : Hid ((natsI (grpN a)).length = 8) := by rw [natsI_length]; exact HG.out
      clear hA hB hC hb
      generalize hL : natsI (grpN a) = L at *
      have HLL := Lib.hid hL
      clear hL
      go_wp2_with (first | (refine wpList_load_intT rfl (.tmp 3) rfl (w.heap.size + 1 + 1) L (by rw [HL.out]; exact ints8.isRow) rfl HA.out ?_) | (refine wpList_store_intT rfl (.tmp 2) (.tmp 24) rfl (w.heap.size + 1) L (by rw [HL.out]; exact ints8.isRow) _ rfl rfl HB.out HL.out.symm ?_))
      exact bodyPost_ret (results_intT Tryd.results12 _ _ (w.heap.size + 1) L (by rw [HL.out]; exact ints8.isRow) rfl (intT_setRow HB.out _)) rfl ⟨by rw [HLL.out], below_setRow HBB.out (by omega) _⟩
/-- What the array holds behind k rounds. -/
def fillA (l : List UInt8) (k : Nat) : List UInt8 := l.take k ++ List.replicate (16 - k) 0
theorem fillA_length (l : List UInt8) (k : Nat) (hk : k ≤ 16) (hl : 16 ≤ l.length) : (fillA l k).length = 16 := by
  simp [fillA]; omega
theorem fillA_set (l : List UInt8) (k : Nat) (hk : k < 16) (hl : 16 ≤ l.length) : (fillA l k).set k (l.getD k 0) = fillA l (k + 1) := by
  unfold fillA
  have e1 : (l.take k).length = k := by simp; omega
  have e2 : l.take (k + 1) = l.take k ++ [l.getD k 0] := by
    rw [List.take_add_one]
    simp [List.getD, show k < l.length by omega]
  rw [List.set_append, if_neg (by rw [e1]; omega), show 16 - k = (16 - (k + 1)) + 1 by omega, List.replicate_succ, e1, Nat.sub_self, List.set_cons_zero, e2, List.append_assoc]
  rfl
theorem fillA_full (l : List UInt8) : fillA l 16 = l.take 16 := by simp [fillA]
set_option maxRecDepth 100000 in
set_option maxHeartbeats 2000000 in
theorem raddr7_any (l : List UInt8) (w : World) (h16 : 16 ≤ l.length) :
    Calls Tryd.prog 32 #[.string ⟨l.toArray⟩] w fun r w' => r = .returned (arrV (l.take 16)) ∧ Below w.heap.size w w' := by
  have hz : (⟨l.toArray⟩ : ByteArray).size = l.length := by simp [ByteArray.size]
  have hl16 : (l.take 16).length = 16 := by simp; omega
  go_enter Tryd.func32, Tryd.ntmps32
  have z0 : ArrT 22 ((w.alloc (.cells (byteVals (List.replicate 16 0)).toArray 22)).alloc (.cells (byteVals (List.replicate 16 0)).toArray 22)) w.heap.size (List.replicate 16 0) := (Below.heap_alloc _ _ _ (by simp)).trans (heap_alloc_new w _)
  have z1 : ArrT 22 ((w.alloc (.cells (byteVals (List.replicate 16 0)).toArray 22)).alloc (.cells (byteVals (List.replicate 16 0)).toArray 22)) (w.heap.size + 1) (List.replicate 16 0) := by
    have := heap_alloc_new (w.alloc (.cells (byteVals (List.replicate 16 0)).toArray 22)) (.cells (byteVals (List.replicate 16 0)).toArray 22)
    rwa [World.size_alloc] at this
  have zb : Below w.heap.size w ((w.alloc (.cells (byteVals (List.replicate 16 0)).toArray 22)).alloc (.cells (byteVals (List.replicate 16 0)).toArray 22)) := ((Below.refl _ _).alloc (Nat.le_refl _) _).alloc (by simp) _
  rw [← zero16'] at z0 z1 zb
  have Z := Lib.hid (And.intro z0 (And.intro z1 zb))
  clear z0 z1 zb
  go_wp2
  go_loopw [4] (fun i wr => ∃ k : Nat, k ≤ 16 ∧ i = .int .i64 (k : Int) ∧ ArrT 22 wr (w.heap.size + 1) (fillA l k) ∧ ArrT 22 wr w.heap.size (List.replicate 16 0) ∧ Below w.heap.size w wr) (fun i _ => 16 - (intOf i).toNat)
  case atStart => exact ⟨0, by omega, rfl, Z.out.2.1, Z.out.1, Z.out.2.2⟩
  case round =>
    obtain ⟨k, hk, rfl, hA, hB, hb⟩ := hrel
    clear Z
    by_cases hlt : k < 16
    · have hix : ∀ W, (Instr.index 9 (.string ⟨l.toArray⟩) (.int .i64 (k : Int))).run Tryd.prog W = .ok (.int .u8 (byteAt l k)) W := fun W => index_str W l k (by omega)
      have hcell := hA.cell k (by rw [fillA_length l k hk h16]; omega)
      have hfr := hA.frozen k
      have hst := hA.store k (byteAt l k) (l.getD k 0) rfl
      rw [fillA_set l k hlt h16] at hst
      have HS := Lib.hid hst
      have HB2 : Hid (∀ v, ArrT 22 (wr.setCell ⟨w.heap.size + 1, k, none⟩ v) w.heap.size (List.replicate 16 0)) := fun v => (Below.heap_setCell wr _ v w.heap.size (by simp)).trans hB
      have HB := Lib.hid hb
      clear hA hB hb hst
      go_wp2
      go_roundw
      case rel => exact ⟨k + 1, by omega, by go_num, HS.out, HB2.out _, HB.out.setCell (by simp) _⟩
      case measure => simp [intOf]; omega
    · have hk16 : k = 16 := by omega
      subst hk16
      rw [fillA_full] at hA
      have HL := Lib.hid hl16
      have HR := Lib.hid hA
      have HG := Lib.hid hB
      have HB := Lib.hid hb
      generalize hL : l.take 16 = L at *
      clear hA hB hb hl16
      go_wp2_with (first | (refine wpList_load_arrT rfl (.tmp 3) rfl (w.heap.size + 1) L (by rw [HL.out]; exact arr16) rfl HR.out ?_) | (refine wpList_store_arrT rfl (.tmp 2) (.tmp 14) rfl w.heap.size L (by rw [HL.out]; exact arr16) _ rfl rfl HG.out (by rw [HL.out]; rfl) ?_))
      exact bodyPost_ret (results_arrT Tryd.results32 _ _ w.heap.size L (by rw [HL.out]; exact arr16) rfl (setRow_heap _ _ _ _ _ _ HG.out)) rfl ⟨by rw [hL], below_setRow HB.out (Nat.le_refl _) _⟩
theorem conv_one7 (W : World) (x : UInt8) (y : Int) (hy : y = (x.toNat : Int)) (g : Nat) (hg : g = W.heap.size) : (convert 35 9 (.slice (some ⟨g, 0, none⟩) 1 1)).run Tryd.prog (W.alloc (.cells #[.int .u8 y] 5)) = .ok (.string ⟨[x].toArray⟩) (W.alloc (.cells #[.int .u8 y] 5)) := by
  subst hy hg
  exact (isB_built W [x] _ rfl (by simp)).conv Tryd.underlying35 Tryd.underlying5 Tryd.underlying9
set_option maxRecDepth 100000 in
set_option maxHeartbeats 2000000 in
theorem rtext7_any (l : List UInt8) (w : World) (h16 : l.length = 16) :
    Calls Tryd.prog 22 #[arrV l] w fun r w' => r = .returned (.string ⟨l.toArray⟩) ∧ Below w.heap.size w w' := by
  have z0 : ArrT 22 (w.alloc (.cells (byteVals l).toArray 22)) w.heap.size l := heap_alloc_new w _
  have zb : Below w.heap.size w (w.alloc (.cells (byteVals l).toArray 22)) := (Below.refl _ _).alloc (Nat.le_refl _) _
  have Z := Lib.hid (And.intro z0 zb)
  clear z0 zb
  rw [show arrV l = .agg (byteVals l).toArray from rfl]
  go_enter Tryd.func22, Tryd.ntmps22
  go_wp2
  go_loopw [3, 4] (fun s i wr => ∃ k : Nat, k ≤ 16 ∧ i = .int .i64 (k : Int) ∧ s = .string ⟨(l.take k).toArray⟩ ∧ ArrT 22 wr w.heap.size l ∧ Below w.heap.size w wr) (fun _ i _ => 16 - (intOf i).toNat)
  case atStart => exact ⟨0, by omega, rfl, rfl, Z.out.1, Z.out.2⟩
  case round =>
    obtain ⟨k, hk, rfl, rfl, hA, hb⟩ := hrel
    clear Z
    by_cases hlt : k < 16
    · have hcell := hA.cell k (by omega)
      have hcv := conv_one7 wr (l.getD k 0) (byteAt l k) rfl wr.heap.size rfl
      have HA2 : Hid (∀ o, ArrT 22 (wr.alloc o) w.heap.size l) := fun o => hA.allocO o
      have HB2 : Hid (∀ o, Below w.heap.size w (wr.alloc o)) := fun o => hb.alloc hb.size o
      have HT : Hid ((⟨(l.take k).toArray⟩ : ByteArray) ++ ⟨[l.getD k 0].toArray⟩ = ⟨(l.take (k + 1)).toArray⟩) := by
        show (⟨(l.take k).toArray⟩ : ByteArray) ++ ⟨[l.getD k 0].toArray⟩ = ⟨(l.take (k + 1)).toArray⟩
        rw [str_append, List.take_add_one]
        simp [List.getD, show k < l.length by omega]
      clear hA hb
      generalize l.getD k 0 = xx at hcv HT
      go_wp2
      go_roundw
      case rel => exact ⟨k + 1, by omega, by go_num, congrArg Value.string HT.out, HA2.out _, HB2.out _⟩
      case measure => simp [intOf]; omega
    · have hk16 : k = 16 := by omega
      subst hk16
      rw [List.take_of_length_le (by omega)]
      have HB := Lib.hid hb
      clear hA hb
      go_wp2
      go_ret
      exact ⟨rfl, HB.out⟩
theorem lowB_two (n : Nat) (h : n ≤ 65535) : lowB 2 n = two (n : Int) := by
  show [UInt8.ofNat (n / 256 ^ 1 % 256), UInt8.ofNat (n / 256 ^ 0 % 256)] = [UInt8.ofNat ((n : Int) / 256).toNat, UInt8.ofNat ((n : Int) % 256).toNat]
  rw [Nat.pow_one, Nat.pow_zero, Nat.div_one, show ((n : Int) / 256).toNat = n / 256 % 256 by omega, show ((n : Int) % 256).toNat = n % 256 by omega]
theorem ofB_more (l : List Int) (k : Nat) (hk : k < l.length) : ofB (l.take (k + 1)) = ofB (l.take k) ++ two (intAt l k) := by
  rw [take_snocI l k hk]
  simp [ofB]
set_option maxRecDepth 100000 in
set_option maxHeartbeats 4000000 in
theorem rof_any (l : List Int) (w : World) (hl : l.length = 8) (hr : ∀ k, k < 8 → -9223372036854775808 ≤ intAt l k ∧ intAt l k ≤ 9223372036854775807) :
    Calls Tryd.prog 20 #[intV l] w fun r w' => r = .returned (.tuple #[arrV (ofL l), .bool (okI l)]) ∧ Below w.heap.size w w' := by
  generalize hW : ((w.alloc (.cells (intVals l).toArray 25)).alloc (.cells (byteVals (List.replicate 16 0)).toArray 22)) = W
  have z0 : IntT 25 W w.heap.size l := by rw [← hW]; exact (intT_new w l).allocO _
  have z1 : ArrT 22 W (w.heap.size + 1) (List.replicate 16 0) := by
    have := arrT_new (t := 22) (w.alloc (.cells (intVals l).toArray 25)) (List.replicate 16 0)
    rw [World.size_alloc, hW] at this
    exact this
  have zb : Below w.heap.size w W := by rw [← hW]; exact ((Below.refl _ _).alloc (Nat.le_refl _) _).alloc (by simp) _
  have Z := Lib.hid (And.intro z0 (And.intro z1 zb))
  rw [← hW, ← zero16'] at Z
  clear hW z0 z1 zb
  clear W
  have HL := Lib.hid hl
  have HR := Lib.hid hr
  have HLEN : Hid (∀ k, (ofB (l.take k)).length ≤ 16) := fun k => by rw [ofB_length, List.length_take, hl]; omega
  rw [show intV l = .agg (intVals l).toArray from rfl]
  clear hr hl
  go_enter Tryd.func20, Tryd.ntmps20
  go_wp2
  go_loopw [4, 5] (fun s i wr => ∃ k : Nat, k ≤ 8 ∧ i = .int .i64 (k : Int) ∧ s = .string ⟨(ofB (l.take k)).toArray⟩ ∧ okI (l.take k) = true ∧ IntT 25 wr w.heap.size l ∧ ArrT 22 wr (w.heap.size + 1) (List.replicate 16 0) ∧ Below w.heap.size w wr) (fun _ i _ => 8 - (intOf i).toNat)
  case atStart => exact ⟨0, by omega, rfl, rfl, rfl, Z.out.1, Z.out.2.1, Z.out.2.2⟩
  case round =>
    obtain ⟨k, hk, rfl, rfl, hok, hA, hB, hb⟩ := hrel
    clear Z
    by_cases hlt : k < 8
    · have hcell := hA.cell k (by rw [HL.out]; exact hlt)
      have hmore := okI_more l k (by rw [HL.out]; exact hlt)
      have hof := ofB_more l k (by rw [HL.out]; exact hlt)
      have hlen := HLEN.out k
      rw [hok, Bool.true_and] at hmore
      have HA := Lib.hid hA
      have HB := Lib.hid hB
      have HBB := Lib.hid hb
      by_cases hin : 0 ≤ intAt l k ∧ intAt l k ≤ 65535
      · obtain ⟨n0, n1⟩ := hin
        rw [decide_eq_true n0, decide_eq_true n1] at hmore
        have HM := Lib.hid hmore
        obtain ⟨n, hn⟩ : ∃ n : Nat, intAt l k = (n : Int) := ⟨(intAt l k).toNat, by omega⟩
        rw [hn] at hcell n0 n1 hof
        have hn2 : n ≤ 65535 := by omega
        have hBY := fun W => rbytes_any n 2 W (by omega) (by omega)
        rw [lowB_two n hn2] at hBY
        have HBY := Lib.hid hBY
        have HOF := Lib.hid hof
        have htw : (two (n : Int)).length = 2 := rfl
        clear hmore hok hA hB hb hn hBY hof
        generalize two (n : Int) = TW at *
        generalize ofB (l.take k) = S at *
        go_wp2_with (go_at_call 31; refine (HBY.out _).mono ?_; rintro e w2 ⟨rfl, b2⟩)
        go_roundw
        case rel => exact ⟨k + 1, by omega, by go_num, congrArg Value.string (by rw [HOF.out, str_append]), HM.out, HA.out.up b2, HB.out.up b2, below_up HBB.out b2 HBB.out.size⟩
        case measure => simp [intOf]; omega
      · have hno : okI l = false := by
          refine okI_part (k + 1) ?_
          rw [hmore]
          by_cases h0 : 0 ≤ intAt l k
          · rw [decide_eq_true h0, decide_eq_false (fun h => hin ⟨h0, h⟩)]; rfl
          · rw [decide_eq_false h0]; rfl
        have hz : ofL l = List.replicate 16 0 := by unfold ofL; rw [hno]; rfl
        have HNO := Lib.hid (And.intro hno hz)
        clear hno hz hmore hok hA hB hb hof
        generalize intAt l k = N at *
        generalize ofB (l.take k) = S at *
        by_cases h0 : 0 ≤ N
        · have h1 : ¬ N ≤ 65535 := fun h => hin ⟨h0, h⟩
          clear hin
          go_wp2_with (refine wpList_store_arrT rfl (.tmp 2) (.tmp 20) rfl (w.heap.size + 1) (List.replicate 16 0) arr16 (List.replicate 16 0) rfl rfl HB.out rfl ?_)
          exact bodyPost_ret (results_arrT2 Tryd.results20 _ _ (w.heap.size + 1) (List.replicate 16 0) arr16 rfl (arrT_setRow HB.out _)) rfl ⟨by rw [HNO.out.1, HNO.out.2]; rfl, below_setRow HBB.out (by omega) _⟩
        · clear hin
          go_wp2_with (refine wpList_store_arrT rfl (.tmp 2) (.tmp 20) rfl (w.heap.size + 1) (List.replicate 16 0) arr16 (List.replicate 16 0) rfl rfl HB.out rfl ?_)
          exact bodyPost_ret (results_arrT2 Tryd.results20 _ _ (w.heap.size + 1) (List.replicate 16 0) arr16 rfl (arrT_setRow HB.out _)) rfl ⟨by rw [HNO.out.1, HNO.out.2]; rfl, below_setRow HBB.out (by omega) _⟩
    · have hk8 : k = 8 := by omega
      subst hk8
      have hlo : (ofB l).length = 16 := by rw [ofB_length, HL.out]
      rw [List.take_of_length_le (by rw [HL.out]; exact Nat.le_refl _)] at hok ⊢
      have hz : ofL l = ofB l := by unfold ofL; rw [hok]; rfl
      have HOK := Lib.hid (And.intro hok hz)
      have hAD := fun W => raddr7_any (ofB l) W (by omega)
      rw [List.take_of_length_le (by omega)] at hAD
      have HAD := Lib.hid hAD
      have HLB := Lib.hid hlo
      have HB := Lib.hid hB
      have HBB := Lib.hid hb
      clear hok hz hA hB hb hAD hlo
      generalize hL : ofB l = L at *
      clear hL
      go_wp2_with (first | (go_at_call 32; refine (HAD.out _).mono ?_; rintro e w3 ⟨rfl, b3⟩) | (refine wpList_store_arrT rfl (.tmp 2) (.tmp 29) rfl (w.heap.size + 1) L (by rw [HLB.out]; exact arr16) (List.replicate 16 0) rfl rfl (HB.out.up b3) (by rw [HLB.out]; rfl) ?_))
      exact bodyPost_ret (results_arrT2 Tryd.results20 _ _ (w.heap.size + 1) L (by rw [HLB.out]; exact arr16) rfl (arrT_setRow (HB.out.up b3) _)) rfl ⟨by rw [HOK.out.1, HOK.out.2]; rfl, below_setRow (below_up HBB.out b3 HBB.out.size) (by omega) _⟩
end Go.Proofs.YteomoipbjkafgaaDoor
