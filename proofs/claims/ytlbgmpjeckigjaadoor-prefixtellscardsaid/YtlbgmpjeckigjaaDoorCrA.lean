/- The document's Groups, Of and Text of layers 7 and 5. Proved: what each returns. The document's Show of layer 7. Proved: what it returns. -/
import Derived.Test.YtlbgmpjeckigjaaDoorColD
import Derived.Test.YtlbgmpjeckigjaaDoorRef
namespace Go.Proofs.YtlbgmpjeckigjaaDoor
open Go Go.RowKit

set_option maxRecDepth 100000 in
set_option maxHeartbeats 4000000 in
theorem rgroups_any (a : List UInt8) (w : World) (ha : a.length = 16) :
    Calls Tryd.prog 50 #[arrV a] w fun r w' => r = .returned (intV (natsI (grpN a))) ∧ Below w.heap.size w w' := by
  generalize hW : (((w.alloc (.cells (byteVals a).toArray 22)).alloc (.cells (intVals [0, 0, 0, 0, 0, 0, 0, 0]).toArray 60)).alloc (.cells (intVals [0, 0, 0, 0, 0, 0, 0, 0]).toArray 60)) = W
  have z0 : ArrT 22 W w.heap.size a := by rw [← hW]; exact ((arrT_new w a).allocO _).allocO _
  have z1 : IntT 60 W (w.heap.size + 1) [0, 0, 0, 0, 0, 0, 0, 0] := by
    have := (intT_new (t := 60) (w.alloc (.cells (byteVals a).toArray 22)) [0, 0, 0, 0, 0, 0, 0, 0]).allocO (.cells (intVals [0, 0, 0, 0, 0, 0, 0, 0]).toArray 60)
    rw [World.size_alloc, hW] at this
    exact this
  have z2 : IntT 60 W (w.heap.size + 1 + 1) [0, 0, 0, 0, 0, 0, 0, 0] := by
    have := intT_new (t := 60) ((w.alloc (.cells (byteVals a).toArray 22)).alloc (.cells (intVals [0, 0, 0, 0, 0, 0, 0, 0]).toArray 60)) [0, 0, 0, 0, 0, 0, 0, 0]
    rw [World.size_alloc, World.size_alloc, hW] at this
    exact this
  have zb : Below w.heap.size w W := by rw [← hW]; exact (((Below.refl _ _).alloc (Nat.le_refl _) _).alloc (by simp) _).alloc (by simp; omega) _
  have Z := Lib.hid (And.intro z0 (And.intro z1 (And.intro z2 zb)))
  rw [← hW, ← zero8] at Z
  clear hW z0 z1 z2 zb
  clear W
  rw [show arrV a = .agg (byteVals a).toArray from rfl]
  have HG := Lib.hid (grpN_length a)
  have HAt := Lib.hid (grpN_at a)
  go_enter Tryd.func50, Tryd.ntmps50
  go_wp2
  go_loopw [4] (fun i wr => ∃ k : Nat, k ≤ 8 ∧ i = .int .i64 (k : Int) ∧ IntT 60 wr (w.heap.size + 1 + 1) (gfill (grpN a) k) ∧ IntT 60 wr (w.heap.size + 1) [0, 0, 0, 0, 0, 0, 0, 0] ∧ ArrT 22 wr w.heap.size a ∧ Below w.heap.size w wr) (fun i _ => 8 - (intOf i).toNat)
  case atStart => exact ⟨0, by omega, rfl, Z.out.2.2.1, Z.out.2.1, Z.out.1, Z.out.2.2.2⟩
  case round =>
    obtain ⟨k, hk, rfl, hA, hB, hC, hb⟩ := hrel
    clear Z
    by_cases hlt : k < 8
    · have c1 := hC.cell (2 * k) (by omega)
      have c2 := hC.cell (2 * k + 1) (by omega)
      have hcell := hA.cell k (by rw [gfill_length _ k hk HG.out]; omega)
      have hfr := hA.frozen k
      have hst := hA.store k (256 * ((a.getD (2 * k) 0).toNat : Int) + ((a.getD (2 * k + 1) 0).toNat : Int))
      rw [show (256 * ((a.getD (2 * k) 0).toNat : Int) + ((a.getD (2 * k + 1) 0).toNat : Int)) = (((a.getD (2 * k) 0).toNat * 256 + (a.getD (2 * k + 1) 0).toNat : Nat) : Int) by omega, gfill_set (grpN a) k hlt HG.out _ (HAt.out k hlt).symm, show (((a.getD (2 * k) 0).toNat * 256 + (a.getD (2 * k + 1) 0).toNat : Nat) : Int) = (256 * ((a.getD (2 * k) 0).toNat : Int) + ((a.getD (2 * k + 1) 0).toNat : Int)) by omega] at hst
      have HS := Lib.hid hst
      have HR : Hid (∀ v, IntT 60 (wr.setCell ⟨w.heap.size + 1 + 1, k, none⟩ v) (w.heap.size + 1) [0, 0, 0, 0, 0, 0, 0, 0] ∧ ArrT 22 (wr.setCell ⟨w.heap.size + 1 + 1, k, none⟩ v) w.heap.size a ∧ Below w.heap.size w (wr.setCell ⟨w.heap.size + 1 + 1, k, none⟩ v)) := fun v => ⟨hB.setOther (by omega) _ _, hC.setOther (by omega) _ _, hb.setCell (by simp; omega) _⟩
      rw [show byteAt a (2 * k) = ((a.getD (2 * k) 0).toNat : Int) from rfl] at c1
      rw [show byteAt a (2 * k + 1) = ((a.getD (2 * k + 1) 0).toNat : Int) from rfl] at c2
      clear hA hB hC hb hst
      have k2 : ((2 : Int) * (k : Int)).toNat = 2 * k := by omega
      have k3 : ((2 : Int) * (k : Int) + 1).toNat = 2 * k + 1 := by omega
      have k4 : (0 : Int) ≤ 2 * (k : Int) := by omega
      have k5 : (0 : Int) ≤ 2 * (k : Int) + 1 := by omega
      generalize hX : a.getD (2 * k) 0 = X at *
      generalize hY : a.getD (2 * k + 1) 0 = Y at *
      have HX : Hid (byteAt a (2 * k) = (X.toNat : Int)) := by rw [← hX]; rfl
      have HY : Hid (byteAt a (2 * k + 1) = (Y.toNat : Int)) := by rw [← hY]; rfl
      clear hX hY
      go_wp2_with fail
      refine wp_region_noPanic ?_
      refine wp_region_held_drew (S := PairS w.heap.size (2 * k) X Y) (by kernel_rfl) ⟨c1, c2⟩ (fun hHeld => ?_)
      have kw1 : IntKind.i64.wrap (2 * (k : Int)) = 2 * (k : Int) := by rw [IntKind.wrap_i64]; omega
      have kw2 : IntKind.i64.wrap (2 * (k : Int) + 1) = 2 * (k : Int) + 1 := by rw [IntKind.wrap_i64]; omega
      have k6 : 2 * (k : Int) < 16 := by omega
      have k7 : 2 * (k : Int) + 1 < 16 := by omega
      have bX := UInt8.toNat_lt X
      have bY := UInt8.toNat_lt Y
      have kw3 : IntKind.i64.wrap (256 * (X.toNat : Int)) = 256 * (X.toNat : Int) := by rw [IntKind.wrap_i64]; omega
      have kw4 : IntKind.i64.wrap (256 * (X.toNat : Int) + (Y.toNat : Int)) = 256 * (X.toNat : Int) + (Y.toNat : Int) := by rw [IntKind.wrap_i64]; omega
      have kw5 : IntKind.i64.wrap (X.toNat : Int) = (X.toNat : Int) := by rw [IntKind.wrap_i64]; omega
      have kw6 : IntKind.i64.wrap (Y.toNat : Int) = (Y.toNat : Int) := by rw [IntKind.wrap_i64]; omega
      refine held_take (v := ?v69) 0 rfl (by kernel_rfl) (by kernel_rfl) (by kernel_rfl) (fun _ _ _ h => h) (by rfl) ?y69 (by assumption) ?_
      case y69 => (intro w hSw; unfold PairS at hSw; go_simp; (try with_reducible rfl); (try omega))
      simp only [List.setIfInBounds_toArray, List.set_cons_zero, List.set_cons_succ]
      refine held_take (v := ?v72) 1 rfl (by kernel_rfl) (by kernel_rfl) (by kernel_rfl) (fun _ _ _ h => h) (by rfl) ?y72 (by assumption) ?_
      case y72 => (intro w hSw; unfold PairS at hSw; go_simp; (try with_reducible rfl); (try omega))
      simp only [List.setIfInBounds_toArray, List.set_cons_zero, List.set_cons_succ]
      refine held_take (v := ?v75) 2 rfl (by kernel_rfl) (by kernel_rfl) (by kernel_rfl) (fun _ _ _ h => h) (by rfl) ?y75 (by assumption) ?_
      case y75 => (intro w hSw; unfold PairS at hSw; go_simp; (try with_reducible rfl); (try omega))
      simp only [List.setIfInBounds_toArray, List.set_cons_zero, List.set_cons_succ]
      refine held_take (v := ?v78) 3 rfl (by kernel_rfl) (by kernel_rfl) (by kernel_rfl) (fun _ _ _ h => h) (by rfl) ?y78 (by assumption) ?_
      case y78 => (intro w hSw; unfold PairS at hSw; go_simp; (try with_reducible rfl); (try omega))
      simp only [List.setIfInBounds_toArray, List.set_cons_zero, List.set_cons_succ]
      refine held_take (v := ?v81) 4 rfl (by kernel_rfl) (by kernel_rfl) (by kernel_rfl) (fun _ _ _ h => h) (by rfl) ?y81 (by assumption) ?_
      case y81 => (intro w hSw; unfold PairS at hSw; go_simp; (try with_reducible rfl); (try omega))
      simp only [List.setIfInBounds_toArray, List.set_cons_zero, List.set_cons_succ]
      refine held_take (v := ?v84) 5 rfl (by kernel_rfl) (by kernel_rfl) (by kernel_rfl) (fun _ _ _ h => h) (by rfl) ?y84 (by assumption) ?_
      case y84 => (intro w hSw; unfold PairS at hSw; go_simp; (try with_reducible rfl); (try omega))
      simp only [List.setIfInBounds_toArray, List.set_cons_zero, List.set_cons_succ]
      refine held_take (v := ?v87) 6 rfl (by kernel_rfl) (by kernel_rfl) (by kernel_rfl) (fun _ _ _ h => h) (by rfl) ?y87 (by assumption) ?_
      case y87 => (intro w hSw; unfold PairS at hSw; go_simp; (try with_reducible rfl); (try omega))
      simp only [List.setIfInBounds_toArray, List.set_cons_zero, List.set_cons_succ]
      refine held_take (v := ?v90) 7 rfl (by kernel_rfl) (by kernel_rfl) (by kernel_rfl) (fun _ _ _ h => h) (by rfl) ?y90 (by assumption) ?_
      case y90 => (intro w hSw; unfold PairS at hSw; go_simp; (try with_reducible rfl); (try omega))
      simp only [List.setIfInBounds_toArray, List.set_cons_zero, List.set_cons_succ]
      refine held_take (v := ?v93) 8 rfl (by kernel_rfl) (by kernel_rfl) (by kernel_rfl) (fun _ _ _ h => h) (by rfl) ?y93 (by assumption) ?_
      case y93 => (intro w hSw; unfold PairS at hSw; go_simp; (try with_reducible rfl); (try omega))
      simp only [List.setIfInBounds_toArray, List.set_cons_zero, List.set_cons_succ]
      refine held_take (v := ?v96) 9 rfl (by kernel_rfl) (by kernel_rfl) (by kernel_rfl) (fun _ _ _ h => h) (by rfl) ?y96 (by assumption) ?_
      case y96 => (intro w hSw; unfold PairS at hSw; go_simp; (try with_reducible rfl); (try omega))
      simp only [List.setIfInBounds_toArray, List.set_cons_zero, List.set_cons_succ]
      refine held_take (v := ?v99) 10 rfl (by kernel_rfl) (by kernel_rfl) (by kernel_rfl) (fun _ _ _ h => h) (by rfl) ?y99 (by assumption) ?_
      case y99 => (intro w hSw; unfold PairS at hSw; go_simp; (try with_reducible rfl); (try omega))
      simp only [List.setIfInBounds_toArray, List.set_cons_zero, List.set_cons_succ]
      refine held_take (v := ?v102) 11 rfl (by kernel_rfl) (by kernel_rfl) (by kernel_rfl) (fun _ _ _ h => h) (by rfl) ?y102 (by assumption) ?_
      case y102 => (intro w hSw; unfold PairS at hSw; go_simp; (try with_reducible rfl); (try omega))
      simp only [List.setIfInBounds_toArray, List.set_cons_zero, List.set_cons_succ]
      refine held_take (v := ?v105) 12 rfl (by kernel_rfl) (by kernel_rfl) (by kernel_rfl) (fun _ _ _ h => h) (by rfl) ?y105 (by assumption) ?_
      case y105 => (intro w hSw; unfold PairS at hSw; go_simp; (try with_reducible rfl); (try omega))
      simp only [List.setIfInBounds_toArray, List.set_cons_zero, List.set_cons_succ]
      refine held_take (v := ?v108) 13 rfl (by kernel_rfl) (by kernel_rfl) (by kernel_rfl) (fun _ _ _ h => h) (by rfl) ?y108 (by assumption) ?_
      case y108 => (intro w hSw; unfold PairS at hSw; go_simp; (try with_reducible rfl); (try omega))
      simp only [List.setIfInBounds_toArray, List.set_cons_zero, List.set_cons_succ]
      refine held_take (v := ?v111) 14 rfl (by kernel_rfl) (by kernel_rfl) (by kernel_rfl) (fun _ _ _ h => h) (by rfl) ?y111 (by assumption) ?_
      case y111 => (intro w hSw; unfold PairS at hSw; go_simp; (try with_reducible rfl); (try omega))
      simp only [List.setIfInBounds_toArray, List.set_cons_zero, List.set_cons_succ]
      refine held_none 15 rfl (by kernel_rfl) (by rfl) (fun K hK => ?_)
      go_simp
      refine hK.out _ _ (by
        have h1 : ArrT 22 (wr.setCell ⟨w.heap.size + 1 + 1, k, none⟩ (.int .i64 (256 * (X.toNat : Int) + (Y.toNat : Int)))).drew w.heap.size a := (HR.out (.int .i64 (256 * (X.toNat : Int) + (Y.toNat : Int)))).2.1
        exact ⟨by rw [h1.cell (2 * k) (by omega), HX.out], by rw [h1.cell (2 * k + 1) (by omega), HY.out]⟩) (fun _ => ?_)
      clear hK K
      refine wpAnyH_done (by kernel_rfl) ?_ _
      refine NoPanic.normal ?_
      go_wp2
      go_roundw
      case rel => exact ⟨k + 1, by omega, by go_num, HS.out, (HR.out _).1, (HR.out _).2.1, (HR.out _).2.2.drew⟩
      case measure => simp [intOf]; omega
    · have hk8 : k = 8 := by omega
      subst hk8
      rw [gfill_full _ HG.out] at hA
      have HA := Lib.hid hA
      have HB := Lib.hid hB
      have HBB := Lib.hid hb
      have HL : Hid ((natsI (grpN a)).length = 8) := by rw [natsI_length]; exact HG.out
      clear hA hB hC hb
      generalize hL : natsI (grpN a) = L at *
      have HLL := Lib.hid hL
      clear hL
      go_wp2_with (first | (refine wpList_load_intT rfl (.tmp 3) rfl (w.heap.size + 1 + 1) L (by rw [HL.out]; exact ints8.isRow) rfl HA.out ?_) | (refine wpList_store_intT rfl (.tmp 2) (.tmp 24) rfl (w.heap.size + 1) L (by rw [HL.out]; exact ints8.isRow) _ rfl rfl HB.out HL.out.symm ?_))
      exact bodyPost_ret (results_intT Tryd.results50 _ _ (w.heap.size + 1) L (by rw [HL.out]; exact ints8.isRow) rfl (intT_setRow HB.out _)) rfl ⟨by rw [HLL.out], below_setRow HBB.out (by omega) _⟩
/-- What the array holds behind k rounds. -/
def fillA (l : List UInt8) (k : Nat) : List UInt8 := l.take k ++ List.replicate (16 - k) 0
theorem fillA_length (l : List UInt8) (k : Nat) (hk : k ≤ 16) (hl : 16 ≤ l.length) : (fillA l k).length = 16 := by
  simp [fillA]; omega
theorem fillA_set (l : List UInt8) (k : Nat) (hk : k < 16) (hl : 16 ≤ l.length) : (fillA l k).set k (l.getD k 0) = fillA l (k + 1) := by
  unfold fillA
  have e1 : (l.take k).length = k := by simp; omega
  have e2 : l.take (k + 1) = l.take k ++ [l.getD k 0] := by
    rw [List.take_add_one]
    simp [List.getD, show k < l.length by omega]
  rw [List.set_append, if_neg (by rw [e1]; omega), show 16 - k = (16 - (k + 1)) + 1 by omega, List.replicate_succ, e1, Nat.sub_self, List.set_cons_zero, e2, List.append_assoc]
  rfl
theorem fillA_full (l : List UInt8) : fillA l 16 = l.take 16 := by simp [fillA]
set_option maxRecDepth 100000 in
set_option maxHeartbeats 2000000 in
theorem raddr7_any (l : List UInt8) (w : World) (h16 : 16 ≤ l.length) :
    Calls Tryd.prog 71 #[.string ⟨l.toArray⟩] w fun r w' => r = .returned (arrV (l.take 16)) ∧ Below w.heap.size w w' := by
  have hz : (⟨l.toArray⟩ : ByteArray).size = l.length := by simp [ByteArray.size]
  have hl16 : (l.take 16).length = 16 := by simp; omega
  go_enter Tryd.func71, Tryd.ntmps71
  have z0 : ArrT 22 ((w.alloc (.cells (byteVals (List.replicate 16 0)).toArray 22)).alloc (.cells (byteVals (List.replicate 16 0)).toArray 22)) w.heap.size (List.replicate 16 0) := (Below.heap_alloc _ _ _ (by simp)).trans (heap_alloc_new w _)
  have z1 : ArrT 22 ((w.alloc (.cells (byteVals (List.replicate 16 0)).toArray 22)).alloc (.cells (byteVals (List.replicate 16 0)).toArray 22)) (w.heap.size + 1) (List.replicate 16 0) := by
    have := heap_alloc_new (w.alloc (.cells (byteVals (List.replicate 16 0)).toArray 22)) (.cells (byteVals (List.replicate 16 0)).toArray 22)
    rwa [World.size_alloc] at this
  have zb : Below w.heap.size w ((w.alloc (.cells (byteVals (List.replicate 16 0)).toArray 22)).alloc (.cells (byteVals (List.replicate 16 0)).toArray 22)) := ((Below.refl _ _).alloc (Nat.le_refl _) _).alloc (by simp) _
  rw [← zero16'] at z0 z1 zb
  have Z := Lib.hid (And.intro z0 (And.intro z1 zb))
  clear z0 z1 zb
  go_wp2
  go_loopw [4] (fun i wr => ∃ k : Nat, k ≤ 16 ∧ i = .int .i64 (k : Int) ∧ ArrT 22 wr (w.heap.size + 1) (fillA l k) ∧ ArrT 22 wr w.heap.size (List.replicate 16 0) ∧ Below w.heap.size w wr) (fun i _ => 16 - (intOf i).toNat)
  case atStart => exact ⟨0, by omega, rfl, Z.out.2.1, Z.out.1, Z.out.2.2⟩
  case round =>
    obtain ⟨k, hk, rfl, hA, hB, hb⟩ := hrel
    clear Z
    by_cases hlt : k < 16
    · have hix : ∀ W, (Instr.index 9 (.string ⟨l.toArray⟩) (.int .i64 (k : Int))).run Tryd.prog W = .ok (.int .u8 (byteAt l k)) W := fun W => index_str W l k (by omega)
      have hcell := hA.cell k (by rw [fillA_length l k hk h16]; omega)
      have hfr := hA.frozen k
      have hst := hA.store k (byteAt l k) (l.getD k 0) rfl
      rw [fillA_set l k hlt h16] at hst
      have HS := Lib.hid hst
      have HB2 : Hid (∀ v, ArrT 22 (wr.setCell ⟨w.heap.size + 1, k, none⟩ v) w.heap.size (List.replicate 16 0)) := fun v => (Below.heap_setCell wr _ v w.heap.size (by simp)).trans hB
      have HB := Lib.hid hb
      clear hA hB hb hst
      go_wp2
      go_roundw
      case rel => exact ⟨k + 1, by omega, by go_num, HS.out, HB2.out _, HB.out.setCell (by simp) _⟩
      case measure => simp [intOf]; omega
    · have hk16 : k = 16 := by omega
      subst hk16
      rw [fillA_full] at hA
      have HL := Lib.hid hl16
      have HR := Lib.hid hA
      have HG := Lib.hid hB
      have HB := Lib.hid hb
      generalize hL : l.take 16 = L at *
      clear hA hB hb hl16
      go_wp2_with (first | (refine wpList_load_arrT rfl (.tmp 3) rfl (w.heap.size + 1) L (by rw [HL.out]; exact arr16) rfl HR.out ?_) | (refine wpList_store_arrT rfl (.tmp 2) (.tmp 14) rfl w.heap.size L (by rw [HL.out]; exact arr16) _ rfl rfl HG.out (by rw [HL.out]; rfl) ?_))
      exact bodyPost_ret (results_arrT Tryd.results71 _ _ w.heap.size L (by rw [HL.out]; exact arr16) rfl (setRow_heap _ _ _ _ _ _ HG.out)) rfl ⟨by rw [hL], below_setRow HB.out (Nat.le_refl _) _⟩
theorem conv_one7 (W : World) (x : UInt8) (y : Int) (hy : y = (x.toNat : Int)) (g : Nat) (hg : g = W.heap.size) : (convert 46 9 (.slice (some ⟨g, 0, none⟩) 1 1)).run Tryd.prog (W.alloc (.cells #[.int .u8 y] 5)) = .ok (.string ⟨[x].toArray⟩) (W.alloc (.cells #[.int .u8 y] 5)) := by
  subst hy hg
  exact (isB_built W [x] _ rfl (by simp)).conv Tryd.underlying46 Tryd.underlying5 Tryd.underlying9
theorem lowB_two (n : Nat) (h : n ≤ 65535) : lowB 2 n = two (n : Int) := by
  show [UInt8.ofNat (n / 256 ^ 1 % 256), UInt8.ofNat (n / 256 ^ 0 % 256)] = [UInt8.ofNat ((n : Int) / 256).toNat, UInt8.ofNat ((n : Int) % 256).toNat]
  rw [Nat.pow_one, Nat.pow_zero, Nat.div_one, show ((n : Int) / 256).toNat = n / 256 % 256 by omega, show ((n : Int) % 256).toNat = n % 256 by omega]
theorem ofB_more (l : List Int) (k : Nat) (hk : k < l.length) : ofB (l.take (k + 1)) = ofB (l.take k) ++ two (intAt l k) := by
  rw [take_snocI l k hk]
  simp [ofB]
set_option maxRecDepth 100000 in
set_option maxHeartbeats 4000000 in
theorem rof_any (l : List Int) (w : World) (hl : l.length = 8) (hr : ∀ k, k < 8 → -9223372036854775808 ≤ intAt l k ∧ intAt l k ≤ 9223372036854775807) :
    Calls Tryd.prog 61 #[intV l] w fun r w' => r = .returned (.tuple #[arrV (ofL l), .bool (okI l)]) ∧ Below w.heap.size w w' := by
  generalize hW : ((w.alloc (.cells (intVals l).toArray 60)).alloc (.cells (byteVals (List.replicate 16 0)).toArray 22)) = W
  have z0 : IntT 60 W w.heap.size l := by rw [← hW]; exact (intT_new w l).allocO _
  have z1 : ArrT 22 W (w.heap.size + 1) (List.replicate 16 0) := by
    have := arrT_new (t := 22) (w.alloc (.cells (intVals l).toArray 60)) (List.replicate 16 0)
    rw [World.size_alloc, hW] at this
    exact this
  have zb : Below w.heap.size w W := by rw [← hW]; exact ((Below.refl _ _).alloc (Nat.le_refl _) _).alloc (by simp) _
  have Z := Lib.hid (And.intro z0 (And.intro z1 zb))
  rw [← hW, ← zero16'] at Z
  clear hW z0 z1 zb
  clear W
  have HL := Lib.hid hl
  have HR := Lib.hid hr
  have HLEN : Hid (∀ k, (ofB (l.take k)).length ≤ 16) := fun k => by rw [ofB_length, List.length_take, hl]; omega
  rw [show intV l = .agg (intVals l).toArray from rfl]
  clear hr hl
  go_enter Tryd.func61, Tryd.ntmps61
  go_wp2
  go_loopw [4, 5] (fun s i wr => ∃ k : Nat, k ≤ 8 ∧ i = .int .i64 (k : Int) ∧ s = .string ⟨(ofB (l.take k)).toArray⟩ ∧ okI (l.take k) = true ∧ IntT 60 wr w.heap.size l ∧ ArrT 22 wr (w.heap.size + 1) (List.replicate 16 0) ∧ Below w.heap.size w wr) (fun _ i _ => 8 - (intOf i).toNat)
  case atStart => exact ⟨0, by omega, rfl, rfl, rfl, Z.out.1, Z.out.2.1, Z.out.2.2⟩
  case round =>
    obtain ⟨k, hk, rfl, rfl, hok, hA, hB, hb⟩ := hrel
    clear Z
    by_cases hlt : k < 8
    · have hcell := hA.cell k (by rw [HL.out]; exact hlt)
      have hmore := okI_more l k (by rw [HL.out]; exact hlt)
      have hof := ofB_more l k (by rw [HL.out]; exact hlt)
      have hlen := HLEN.out k
      rw [hok, Bool.true_and] at hmore
      have HA := Lib.hid hA
      have HB := Lib.hid hB
      have HBB := Lib.hid hb
      by_cases hin : 0 ≤ intAt l k ∧ intAt l k ≤ 65535
      · obtain ⟨n0, n1⟩ := hin
        rw [decide_eq_true n0, decide_eq_true n1] at hmore
        have HM := Lib.hid hmore
        obtain ⟨n, hn⟩ : ∃ n : Nat, intAt l k = (n : Int) := ⟨(intAt l k).toNat, by omega⟩
        rw [hn] at hcell n0 n1 hof
        have hn2 : n ≤ 65535 := by omega
        have hBY := fun W => rbytes_any n 2 W (by omega) (by omega)
        rw [lowB_two n hn2] at hBY
        have HBY := Lib.hid hBY
        have HOF := Lib.hid hof
        have htw : (two (n : Int)).length = 2 := rfl
        clear hmore hok hA hB hb hn hBY hof
        generalize two (n : Int) = TW at *
        generalize ofB (l.take k) = S at *
        go_wp2_with (go_at_call 70; refine (HBY.out _).mono ?_; rintro e w2 ⟨rfl, b2⟩)
        go_roundw
        case rel => exact ⟨k + 1, by omega, by go_num, congrArg Value.string (by rw [HOF.out, str_append]), HM.out, HA.out.up b2, HB.out.up b2, below_up HBB.out b2 HBB.out.size⟩
        case measure => simp [intOf]; omega
      · have hno : okI l = false := by
          refine okI_part (k + 1) ?_
          rw [hmore]
          by_cases h0 : 0 ≤ intAt l k
          · rw [decide_eq_true h0, decide_eq_false (fun h => hin ⟨h0, h⟩)]; rfl
          · rw [decide_eq_false h0]; rfl
        have hz : ofL l = List.replicate 16 0 := by unfold ofL; rw [hno]; rfl
        have HNO := Lib.hid (And.intro hno hz)
        clear hno hz hmore hok hA hB hb hof
        generalize intAt l k = N at *
        generalize ofB (l.take k) = S at *
        by_cases h0 : 0 ≤ N
        · have h1 : ¬ N ≤ 65535 := fun h => hin ⟨h0, h⟩
          clear hin
          go_wp2_with (refine wpList_store_arrT rfl (.tmp 2) (.tmp 20) rfl (w.heap.size + 1) (List.replicate 16 0) arr16 (List.replicate 16 0) rfl rfl HB.out rfl ?_)
          exact bodyPost_ret (results_arrT2 Tryd.results61 _ _ (w.heap.size + 1) (List.replicate 16 0) arr16 rfl (arrT_setRow HB.out _)) rfl ⟨by rw [HNO.out.1, HNO.out.2]; rfl, below_setRow HBB.out (by omega) _⟩
        · clear hin
          go_wp2_with (refine wpList_store_arrT rfl (.tmp 2) (.tmp 20) rfl (w.heap.size + 1) (List.replicate 16 0) arr16 (List.replicate 16 0) rfl rfl HB.out rfl ?_)
          exact bodyPost_ret (results_arrT2 Tryd.results61 _ _ (w.heap.size + 1) (List.replicate 16 0) arr16 rfl (arrT_setRow HB.out _)) rfl ⟨by rw [HNO.out.1, HNO.out.2]; rfl, below_setRow HBB.out (by omega) _⟩
    · have hk8 : k = 8 := by omega
      subst hk8
      have hlo : (ofB l).length = 16 := by rw [ofB_length, HL.out]
      rw [List.take_of_length_le (by rw [HL.out]; exact Nat.le_refl _)] at hok ⊢
      have hz : ofL l = ofB l := by unfold ofL; rw [hok]; rfl
      have HOK := Lib.hid (And.intro hok hz)
      have hAD := fun W => raddr7_any (ofB l) W (by omega)
      rw [List.take_of_length_le (by omega)] at hAD
      have HAD := Lib.hid hAD
      have HLB := Lib.hid hlo
      have HB := Lib.hid hB
      have HBB := Lib.hid hb
      clear hok hz hA hB hb hAD hlo
      generalize hL : ofB l = L at *
      clear hL
      go_wp2_with (first | (go_at_call 71; refine (HAD.out _).mono ?_; rintro e w3 ⟨rfl, b3⟩) | (refine wpList_store_arrT rfl (.tmp 2) (.tmp 29) rfl (w.heap.size + 1) L (by rw [HLB.out]; exact arr16) (List.replicate 16 0) rfl rfl (HB.out.up b3) (by rw [HLB.out]; rfl) ?_))
      exact bodyPost_ret (results_arrT2 Tryd.results61 _ _ (w.heap.size + 1) L (by rw [HLB.out]; exact arr16) rfl (arrT_setRow (HB.out.up b3) _)) rfl ⟨by rw [HOK.out.1, HOK.out.2]; rfl, below_setRow (below_up HBB.out b3 HBB.out.size) (by omega) _⟩
end Go.Proofs.YtlbgmpjeckigjaaDoor
namespace Go.Proofs.YtlbgmpjeckigjaaDoor
open Go Go.RowKit

theorem str_of_list (s : ByteArray) (l : List UInt8) (h : s.data.toList = l) : s = ⟨l.toArray⟩ := by subst h; rfl
theorem extract_tail (l : List UInt8) : (⟨l.toArray⟩ : ByteArray).extract 1 l.length = ⟨(l.drop 1).toArray⟩ := by
  refine str_of_list _ _ ?_
  rw [part_extract]
  show (l.drop 1).take (l.length - 1) = l.drop 1
  exact List.take_of_length_le (by simp)
theorem stripZ_stop (l : List UInt8) (h : ¬ (1 < l.length ∧ byteAt l 0 = 48)) : stripZ l = l := by
  match l with
  | [] => rfl
  | [b] => rfl
  | b :: c :: r =>
    have hb : ¬ b = 48 := fun e => h ⟨by simp, by rw [e]; rfl⟩
    unfold stripZ
    rw [if_neg hb]
theorem stripZ_go (l : List UInt8) (h1 : 1 < l.length) (h2 : byteAt l 0 = 48) : stripZ (l.drop 1) = stripZ l := by
  match l, h1 with
  | b :: c :: r, _ =>
    have hb : b = 48 := by
      have h3 : (b.toNat : Int) = 48 := h2
      exact UInt8.toNat_inj.1 (show b.toNat = 48 by omega)
    show stripZ (c :: r) = stripZ (b :: c :: r)
    conv => rhs; unfold stripZ
    rw [if_pos hb]
set_option maxRecDepth 100000 in
set_option maxHeartbeats 2000000 in
theorem rdigits7_any (n : Nat) (w : World) (hn : n ≤ 65535) :
    Calls Tryd.prog 65 #[.int .i64 (n : Int)] w fun e w' => e = .returned (.string ⟨(hexG n).toArray⟩) ∧ Below w.heap.size w w' := by
  have HB := Lib.hid (fun W => rbytes_any n 2 W (by omega) (by omega))
  have hlb := lowB_length 2 n
  have HH := Lib.hid (fun W => rhex_l (lowB 2 n) W (by omega))
  have hhl := hexL_length (lowB 2 n)
  have HG : Hid (hexG n = stripZ (hexL (lowB 2 n))) := rfl
  have h0 : (n : Int) ≤ 65535 := by omega
  generalize hexG n = G at *
  generalize lowB 2 n = B at *
  generalize hexL B = X at *
  have hX : X.length = 4 := by omega
  clear hhl hlb
  go_enter Tryd.func65, Tryd.ntmps65
  go_wp2_with (first | (go_at_call 70; refine (HB.out _).mono ?_; rintro e w1 ⟨rfl, b1⟩) | (go_at_call 73; refine (HH.out _).mono ?_; rintro e w2 ⟨rfl, b2⟩))
  have HBB := Lib.hid (below_up b1 b2 b1.size)
  clear b1 b2 HB HH
  go_loop [3] (fun s => ∃ S : List UInt8, s = .string ⟨S.toArray⟩ ∧ S.length ≤ 4 ∧ stripZ S = G) (fun s => match s with | .string x => x.size | _ => 0)
  case atStart => exact ⟨X, rfl, by omega, HG.out.symm⟩
  case round =>
    obtain ⟨S, rfl, hS, hG⟩ := hrel
    have HGS := Lib.hid hG
    clear hG
    by_cases h1 : 1 < S.length
    · have hix : ∀ W, (Instr.index 9 (.string ⟨S.toArray⟩) (.int .i64 0)).run Tryd.prog W = .ok (.int .u8 (byteAt S 0)) W := fun W => index_str W S 0 (by omega)
      have h1' : (1 : Int) < (S.length : Int) := by omega
      by_cases h2 : byteAt S 0 = 48
      · have HGO := Lib.hid (stripZ_go S h1 h2)
        have HEX := Lib.hid (extract_tail S)
        rw [h2] at hix
        clear h2
        go_wp2
        go_round
        case rel => exact ⟨S.drop 1, congrArg Value.string HEX.out, by simp; omega, by rw [HGO.out, HGS.out]⟩
        case measure => rw [HEX.out]; simp [ByteArray.size]; omega
      · have HST := Lib.hid (stripZ_stop S (fun h => h2 h.2))
        have h2' : (byteAt S 0 == 48) = false := by simp [h2]
        generalize byteAt S 0 = x at *
        go_wp2
        go_ret
        exact ⟨by rw [← HGS.out, HST.out]; rfl, HBB.out⟩
    · have HST := Lib.hid (stripZ_stop S (fun h => h1 h.1))
      have h1' : ¬ (1 : Int) < (S.length : Int) := by omega
      go_wp2
      go_ret
      exact ⟨by rw [← HGS.out, HST.out]; rfl, HBB.out⟩
theorem zrun_at (g : List Nat) (k : Nat) (hk : k < g.length) : zrun (g.drop k) = if g.getD k 0 = 0 then zrun (g.drop (k + 1)) + 1 else 0 := by
  rw [List.drop_eq_getElem_cons hk]
  simp [zrun, List.getD, hk]
theorem ret_int7 {k : IntKind} {a b : Int} (h : a = b) : Ending.returned (.int k a) = .returned (.int k b) := by rw [h]
set_option maxRecDepth 100000 in
set_option maxHeartbeats 2000000 in
theorem rzeros_any (g : List Nat) (p : Nat) (w : World) (hg : g.length = 8) (hp : p ≤ 8) :
    Calls Tryd.prog 51 #[intV (natsI g), .int .i64 (p : Int)] w fun e w' => e = .returned (.int .i64 (zrun (g.drop p) : Int)) ∧ Below w.heap.size w w' := by
  have z0 : IntT 60 (w.alloc (.cells (intVals (natsI g)).toArray 60)) w.heap.size (natsI g) := intT_new w _
  have zb : Below w.heap.size w (w.alloc (.cells (intVals (natsI g)).toArray 60)) := (Below.refl _ _).alloc (Nat.le_refl _) _
  have Z := Lib.hid (And.intro z0 zb)
  have HZ := Lib.hid (zrun_at g)
  have HNL : Hid ((natsI g).length = 8) := by show _ = _; rw [natsI_length, hg]
  have HGL := Lib.hid hg
  rw [show intV (natsI g) = .agg (intVals (natsI g)).toArray from rfl]
  clear z0 zb hg
  go_enter Tryd.func51, Tryd.ntmps51
  go_wp2
  go_loop [5] (fun n => ∃ m : Nat, n = .int .i64 (m : Int) ∧ p + m ≤ 8 ∧ zrun (g.drop p) = m + zrun (g.drop (p + m))) (fun n => 8 - (intOf n).toNat)
  case atStart => exact ⟨0, rfl, by omega, by simp⟩
  case round =>
    obtain ⟨m, rfl, hm, hinv⟩ := hrel
    have HI := Lib.hid hinv
    clear hinv
    by_cases hlt : p + m < 8
    · have hcell := Z.out.1.cell (p + m) (by rw [HNL.out]; exact hlt)
      rw [natsI_at] at hcell
      have hz := HZ.out (p + m) (by rw [HGL.out]; exact hlt)
      have q1 : ((p : Int) + (m : Int)).toNat = p + m := by omega
      have q2 : (p : Int) + (m : Int) < 8 := by omega
      have q3 : (0 : Int) ≤ (p : Int) + (m : Int) := by omega
      by_cases h0 : g.getD (p + m) 0 = 0
      · rw [if_pos h0] at hz
        rw [h0] at hcell
        have HH := Lib.hid hz
        clear hz h0
        go_wp2
        go_round
        case rel => exact ⟨m + 1, by go_num, by omega, by have h1 := HI.out; have h2 := HH.out; rw [show p + (m + 1) = p + m + 1 by omega]; omega⟩
        case measure => simp [intOf]; omega
      · rw [if_neg h0] at hz
        have HH := Lib.hid hz
        have h0' : ¬ ((g.getD (p + m) 0 : Nat) : Int) = 0 := by omega
        have h0b : (((g.getD (p + m) 0 : Nat) : Int) == 0) = false := beq_eq_false_iff_ne.2 h0'
        generalize g.getD (p + m) 0 = y at *
        clear hz h0
        go_wp2
        go_ret
        exact ⟨by have h1 := HI.out; have h2 := HH.out; exact ret_int7 (by omega), Z.out.2⟩
    · have q2 : ¬ (p : Int) + (m : Int) < 8 := by omega
      have h8 : zrun (g.drop (p + m)) = 0 := by
        rw [List.drop_of_length_le (by rw [HGL.out]; omega)]
        rfl
      have HH := Lib.hid h8
      clear h8
      go_wp2
      go_ret
      exact ⟨by have h1 := HI.out; have h2 := HH.out; exact ret_int7 (by omega), Z.out.2⟩
set_option maxRecDepth 100000 in
set_option maxHeartbeats 4000000 in
theorem rjoined_any (g : List Nat) (f t : Nat) (w : World) (hg : g.length = 8) (hle : ∀ n ∈ g, n ≤ 65535) (hf : f ≤ t) (ht : t ≤ 8) :
    Calls Tryd.prog 52 #[intV (natsI g), .int .i64 (f : Int), .int .i64 (t : Int)] w fun e w' => e = .returned (.string ⟨(colJ ((g.drop f).take (t - f))).toArray⟩) ∧ Below w.heap.size w w' := by
  have z0 : IntT 60 (w.alloc (.cells (intVals (natsI g)).toArray 60)) w.heap.size (natsI g) := intT_new w _
  have zb : Below w.heap.size w (w.alloc (.cells (intVals (natsI g)).toArray 60)) := (Below.refl _ _).alloc (Nat.le_refl _) _
  have Z := Lib.hid (And.intro z0 zb)
  have HNL : Hid ((natsI g).length = 8) := by show _ = _; rw [natsI_length, hg]
  have HLE : Hid (∀ k, k < 8 → g.getD k 0 ≤ 65535) := fun k hk => hle _ (by simp [List.getD, show k < g.length by omega])
  have HLN : Hid (∀ k, (colJ ((g.drop f).take k)).length ≤ 40) := fun k => colJ_len _ (by simp; omega)
  have HGN : Hid (∀ k, (hexG k).length ≤ 4) := hexG_length
  have H1 := Lib.hid (colJ_one (g.drop f))
  have HM := Lib.hid (colJ_more (g.drop f))
  have HDL : Hid ((g.drop f).length = 8 - f) := by show _ = _; rw [List.length_drop, hg]
  have HAT : Hid (∀ k, (g.drop f).getD k 0 = g.getD (f + k) 0) := fun k => by simp [List.getD]
  rw [show intV (natsI g) = .agg (intVals (natsI g)).toArray from rfl]
  clear z0 zb hg hle
  go_enter Tryd.func52, Tryd.ntmps52
  go_wp2
  go_loopw [7, 8] (fun s i wr => ∃ k : Nat, f + k ≤ t ∧ i = .int .i64 ((f + k : Nat) : Int) ∧ s = .string ⟨(colJ ((g.drop f).take k)).toArray⟩ ∧ IntT 60 wr w.heap.size (natsI g) ∧ Below w.heap.size w wr) (fun _ i _ => t - (intOf i).toNat)
  case atStart => exact ⟨0, by omega, rfl, rfl, Z.out.1, Z.out.2⟩
  case round =>
    obtain ⟨k, hk, rfl, rfl, hA, hb⟩ := hrel
    clear Z
    obtain ⟨i, hi⟩ : ∃ i, f + k = i := ⟨_, rfl⟩
    rw [hi] at hk ⊢
    by_cases hlt : i < t
    · have hcell := hA.cell i (by rw [HNL.out]; omega)
      rw [natsI_at] at hcell
      have HF := Lib.hid (fun W => rdigits7_any (g.getD i 0) W (HLE.out i (by omega)))
      have l1 := HLN.out k
      have l2 := HGN.out (g.getD i 0)
      have hb1 : g.getD i 0 ≤ 65535 := HLE.out i (by omega)
      have HA := Lib.hid hA
      have HB := Lib.hid hb
      have hlt' : (i : Int) < (t : Int) := by omega
      by_cases h0 : k = 0
      · have hT0 : colJ ((g.drop f).take k) = [] := by rw [h0]; rfl
        have e : colJ ((g.drop f).take (k + 1)) = hexG (g.getD i 0) := by rw [h0, H1.out (by rw [HDL.out]; omega), HAT.out 0, ← hi, h0]
        have HX := Lib.hid e
        have hk0 : ¬ (f : Int) < (i : Int) := by omega
        have HI := Lib.hid hi
        clear e hb hA
        generalize g.getD i 0 = N at *
        rw [hT0] at l1 ⊢
        clear hT0 h0 hi
        go_wp2_with (go_at_call 65; refine (HF.out _).mono ?_; rintro e w1 ⟨rfl, bb⟩)
        go_roundw
        case rel => exact ⟨k + 1, by have := HI.out; omega, by have := HI.out; rw [show f + (k + 1) = i + 1 by omega]; go_num, congrArg Value.string (by rw [HX.out]; exact str_append [] (hexG N)), HA.out.up bb, below_up HB.out bb HB.out.size⟩
        case measure => simp [intOf]; omega
      · have e := HM.out k (by rw [HDL.out]; omega) (by omega)
        rw [HAT.out k, hi] at e
        have HX := Lib.hid e
        have hk0 : (f : Int) < (i : Int) := by omega
        have HI := Lib.hid hi
        clear e hb hA hi
        generalize g.getD i 0 = N at *
        generalize hT : colJ ((g.drop f).take k) = T at *
        clear hT
        go_wp2_with (go_at_call 65; refine (HF.out _).mono ?_; rintro e w1 ⟨rfl, bb⟩)
        go_roundw
        case rel => exact ⟨k + 1, by have := HI.out; omega, by have := HI.out; rw [show f + (k + 1) = i + 1 by omega]; go_num, congrArg Value.string (by rw [HX.out, show (⟨#[58]⟩ : ByteArray) = ⟨[58].toArray⟩ from rfl, str_append, str_append]; simp), HA.out.up bb, below_up HB.out bb HB.out.size⟩
        case measure => simp [intOf]; omega
    · have hkn : k = t - f := by omega
      have hlt' : ¬ (i : Int) < (t : Int) := by omega
      have HK := Lib.hid hkn
      have HB := Lib.hid hb
      clear hb hkn hi
      generalize hT : colJ ((g.drop f).take k) = T at *
      have HT := Lib.hid hT
      clear hT
      go_wp2
      go_ret
      exact ⟨by rw [← HK.out, HT.out]; rfl, HB.out⟩
theorem best_le (g : List Nat) (hg : g.length = 8) : ∀ k, k ≤ 8 → (best g k).1 ≤ 8 ∧ (best g k).2 ≤ 8 ∧ ((best g k).2 ≠ 0 → (best g k).1 + (best g k).2 ≤ 8) := by
  intro k
  induction k with
  | zero => intro _; exact ⟨by simp [best], by simp [best], by simp [best]⟩
  | succ k ih =>
    intro hk
    have h := zrun_le (g.drop k)
    rw [List.length_drop, hg] at h
    unfold best
    split
    · exact ⟨by simp only; omega, by simp only; omega, fun _ => by simp only; omega⟩
    · exact ih (by omega)
/-- What is held while the document shows. -/
def ShowR (w : World) (g : Nat) (L : List Int) (W : World) : Prop := IntT 60 W g L ∧ Below w.heap.size w W
theorem ShowR.up {w : World} {g : Nat} {L : List Int} {W W' : World} (h : ShowR w g L W) (hb : Below W.heap.size W W') : ShowR w g L W' := ⟨h.1.up hb, below_up h.2 hb h.2.size⟩
set_option maxRecDepth 100000 in
set_option maxHeartbeats 4000000 in
theorem rshow_any (a : List UInt8) (w : World) (ha : a.length = 16) :
    Calls Tryd.prog 33 #[arrV a] w fun r w' => r = .returned (.string ⟨(showA a).toArray⟩) ∧ Below w.heap.size w w' := by
  have z0 : ArrT 22 (w.alloc (.cells (byteVals a).toArray 22)) w.heap.size a := arrT_new w a
  have zb : Below w.heap.size w (w.alloc (.cells (byteVals a).toArray 22)) := (Below.refl _ _).alloc (Nat.le_refl _) _
  have Z := Lib.hid (And.intro z0 zb)
  have HA := Lib.hid ha
  have HG := Lib.hid (fun W => rgroups_any a W ha)
  have hgl := grpN_length a
  have hgle := grpN_le a
  have HSA : Hid (showA a = if (best (grpN a) 8).2 = 0 then colJ (grpN a) else colJ ((grpN a).take (best (grpN a) 8).1) ++ 58 :: 58 :: colJ ((grpN a).drop ((best (grpN a) 8).1 + (best (grpN a) 8).2))) := rfl
  rw [show arrV a = .agg (byteVals a).toArray from rfl]
  generalize showA a = V at *
  generalize grpN a = g at *
  have HNL : Hid ((natsI g).length = 8) := by show _ = _; rw [natsI_length, hgl]
  have HZR := Lib.hid (fun W p (hp : p ≤ 8) => rzeros_any g p W hgl hp)
  have HJN := Lib.hid (fun W f t (hf : f ≤ t) (ht : t ≤ 8) => rjoined_any g f t W hgl hgle hf ht)
  have HBL := Lib.hid (best_le g hgl)
  have HZL : Hid (∀ k, k ≤ 8 → zrun (g.drop k) ≤ 8) := fun k _ => by have := zrun_le (g.drop k); rw [List.length_drop, hgl] at this; omega
  have HBS : Hid (∀ k, best g (k + 1) = if (best g k).2 < zrun (g.drop k) ∧ 1 < zrun (g.drop k) then (k, zrun (g.drop k)) else best g k) := fun k => rfl
  have HCL : Hid (∀ k, (colJ (g.take k)).length ≤ 40 ∧ (colJ (g.drop k)).length ≤ 40) := fun k => ⟨colJ_len _ (by simp; omega), colJ_len _ (by simp; omega)⟩
  have HGL := Lib.hid hgl
  clear z0 zb hgl hgle ha
  go_enter Tryd.func33, Tryd.ntmps33
  go_wp2_with (first | (refine wpList_load_arrT rfl (.tmp 1) rfl w.heap.size a (by rw [HA.out]; exact arr16) rfl Z.out.1 ?_) | (go_at_call 50; refine (HG.out _).mono ?_; rintro e w1 ⟨rfl, b1⟩; refine Hid.out ?_))
  refine Lib.hid ?_
  have S1 : Hid (ShowR w w1.heap.size (natsI g) (w1.alloc (.cells (intVals (natsI g)).toArray 60))) := by
    have hb1 := below_up Z.out.2 b1 Z.out.2.size
    exact ⟨intT_new w1 _, hb1.alloc hb1.size _⟩
  clear b1 Z HG
  go_wp2_with (first | (refine wpList_store_newI rfl (.tmp 3) (.tmp 9) rfl (natsI g) (by rw [HNL.out]; exact ints8.isRow) _ rfl rfl (by rw [HNL.out]; rfl) ?_))
  go_loopw [4, 5, 6] (fun p z i wr => ∃ k : Nat, k ≤ 8 ∧ i = .int .i64 (k : Int) ∧ p = .int .i64 ((best g k).1 : Int) ∧ z = .int .i64 ((best g k).2 : Int) ∧ ShowR w w1.heap.size (natsI g) wr) (fun _ _ i _ => 8 - (intOf i).toNat)
  case atStart => exact ⟨0, by omega, rfl, rfl, rfl, S1.out⟩
  case round =>
    obtain ⟨k, hk, rfl, rfl, rfl, hS⟩ := hrel
    clear S1
    have HS := Lib.hid hS
    clear hS
    have hbl := HBL.out k hk
    by_cases hlt : k < 8
    · have hst := HBS.out k
      have hzl := HZL.out k hk
      have HZ := Lib.hid (fun W => HZR.out W k hk)
      generalize hbk : best g k = bk at *
      obtain ⟨P, L⟩ := bk
      simp only at hst hbl ⊢
      generalize zrun (g.drop k) = N at *
      have hlt' : (k : Int) < 8 := by omega
      by_cases hc : L < N ∧ 1 < N
      · rw [if_pos hc] at hst
        have HST := Lib.hid hst
        have c1 : (L : Int) < (N : Int) := by omega
        have c2 : (1 : Int) < (N : Int) := by omega
        clear hst hc hbk
        go_wp2_with (first | (refine wpList_load_intT rfl (.tmp 3) rfl w1.heap.size (natsI g) (by rw [HNL.out]; exact ints8.isRow) rfl HS.out.1 ?_) | (go_at_call 51; refine (HZ.out _).mono ?_; rintro e w2 ⟨rfl, b2⟩))
        go_roundw
        case rel => exact ⟨k + 1, by omega, by go_num, by rw [HST.out], by rw [HST.out], HS.out.up b2⟩
        case measure => simp [intOf]; omega
      · rw [if_neg hc] at hst
        have HST := Lib.hid hst
        clear hst hbk
        by_cases c1 : L < N
        · have c1' : (L : Int) < (N : Int) := by omega
          have c2 : ¬ (1 : Int) < (N : Int) := by omega
          clear hc
          go_wp2_with (first | (refine wpList_load_intT rfl (.tmp 3) rfl w1.heap.size (natsI g) (by rw [HNL.out]; exact ints8.isRow) rfl HS.out.1 ?_) | (go_at_call 51; refine (HZ.out _).mono ?_; rintro e w2 ⟨rfl, b2⟩))
          go_roundw
          case rel => exact ⟨k + 1, by omega, by go_num, by rw [HST.out], by rw [HST.out], HS.out.up b2⟩
          case measure => simp [intOf]; omega
        · have c1' : ¬ (L : Int) < (N : Int) := by omega
          clear hc
          go_wp2_with (first | (refine wpList_load_intT rfl (.tmp 3) rfl w1.heap.size (natsI g) (by rw [HNL.out]; exact ints8.isRow) rfl HS.out.1 ?_) | (go_at_call 51; refine (HZ.out _).mono ?_; rintro e w2 ⟨rfl, b2⟩))
          go_roundw
          case rel => exact ⟨k + 1, by omega, by go_num, by rw [HST.out], by rw [HST.out], HS.out.up b2⟩
          case measure => simp [intOf]; omega
    · have hk8 : k = 8 := by omega
      subst hk8
      generalize hbk : best g 8 = bk at *
      obtain ⟨P, L⟩ := bk
      simp only at hbl HSA ⊢
      clear hbk
      by_cases hL : L = 0
      · have hv := HSA.out
        rw [if_pos hL] at hv
        subst hL
        have hJ := fun W => HJN.out W 0 8 (by omega) (by omega)
        rw [List.drop_zero, List.take_of_length_le (by rw [HGL.out]; omega), ← hv] at hJ
        have HJ := Lib.hid hJ
        clear hJ hv HSA
        go_wp2_with (first | (refine wpList_load_intT rfl (.tmp 3) rfl w1.heap.size (natsI g) (by rw [HNL.out]; exact ints8.isRow) rfl HS.out.1 ?_) | (go_at_call 52; refine (HJ.out _).mono ?_; rintro e w2 ⟨rfl, b2⟩))
        go_ret
        exact ⟨rfl, (HS.out.up b2).2⟩
      · have hv := HSA.out
        rw [if_neg hL] at hv
        have HV := Lib.hid hv
        have hPL := hbl.2.2 hL
        have hL' : ¬ (L : Int) = 0 := by omega
        have hLb : ((L : Int) == 0) = false := beq_eq_false_iff_ne.2 hL'
        obtain ⟨E, hEE⟩ : ∃ E, P + L = E := ⟨_, rfl⟩
        have hJ1 := fun W => HJN.out W 0 P (by omega) (by omega)
        have hJ2 := fun W => HJN.out W E 8 (by omega) (by omega)
        rw [List.drop_zero, Nat.sub_zero] at hJ1
        rw [List.take_of_length_le (l := g.drop E) (by rw [List.length_drop, HGL.out]; omega)] at hJ2
        have HJ1 := Lib.hid hJ1
        have HJ2 := Lib.hid hJ2
        rw [hEE] at HV
        have hadd : (P : Int) + (L : Int) = (E : Int) := by omega
        have hwE : IntKind.i64.wrap (E : Int) = (E : Int) := by rw [IntKind.wrap_i64]; omega
        have l1 := (HCL.out P).1
        have l2 := (HCL.out E).2
        clear hv HSA hJ1 hJ2 hEE
        go_wp2_with fail
        refine wp_region_noPanic ?_
        refine wp_region_held_drew (S := ShowR w w1.heap.size (natsI g)) (by kernel_rfl) ⟨HS.out.1, HS.out.2.drew⟩ (fun hHeld => ?_)
        refine held_take (v := intV (natsI g)) 0 rfl (by kernel_rfl) (by kernel_rfl) (by kernel_rfl) (fun _ _ _ h => h) (by rfl) (fun W hSw => exec_load_intR (.tmp 3) rfl w1.heap.size (natsI g) (by rw [HNL.out]; exact ints8.isRow) rfl hSw.1.range) (by assumption) ?_
        simp only [List.setIfInBounds_toArray, List.set_cons_zero, List.set_cons_succ]
        refine held_take (v := ?v676) 1 rfl (by kernel_rfl) (by kernel_rfl) (by kernel_rfl) (fun _ _ _ h => h) (by rfl) ?y676 (by assumption) ?_
        case y676 => (intro w hSw; unfold ShowR at hSw; go_simp; (try with_reducible rfl); (try omega))
        simp only [List.setIfInBounds_toArray, List.set_cons_zero, List.set_cons_succ]
        refine held_take (v := intV (natsI g)) 4 rfl (by kernel_rfl) (by kernel_rfl) (by kernel_rfl) (fun _ _ _ h => h) (by rfl) (fun W hSw => exec_load_intR (.tmp 3) rfl w1.heap.size (natsI g) (by rw [HNL.out]; exact ints8.isRow) rfl hSw.1.range) (by assumption) ?_
        simp only [List.setIfInBounds_toArray, List.set_cons_zero, List.set_cons_succ]
        refine held_take (v := ?v681) 5 rfl (by kernel_rfl) (by kernel_rfl) (by kernel_rfl) (fun _ _ _ h => h) (by rfl) ?y681 (by assumption) ?_
        case y681 => (intro w hSw; unfold ShowR at hSw; go_simp; (try with_reducible rfl); (try omega))
        simp only [List.setIfInBounds_toArray, List.set_cons_zero, List.set_cons_succ]
        refine held_take (v := ?v684) 6 rfl (by kernel_rfl) (by kernel_rfl) (by kernel_rfl) (fun _ _ _ h => h) (by rfl) ?y684 (by assumption) ?_
        case y684 => (intro w hSw; unfold ShowR at hSw; go_simp; (try with_reducible rfl); (try omega))
        simp only [List.setIfInBounds_toArray, List.set_cons_zero, List.set_cons_succ]
        refine held_take (v := ?v687) 7 rfl (by kernel_rfl) (by kernel_rfl) (by kernel_rfl) (fun _ _ _ h => h) (by rfl) ?y687 (by assumption) ?_
        case y687 => (intro w hSw; unfold ShowR at hSw; go_simp; (try with_reducible rfl); (try omega))
        simp only [List.setIfInBounds_toArray, List.set_cons_zero, List.set_cons_succ]
        refine held_one 2 rfl (by kernel_rfl) (by rfl) (fun K hK => ?_)
        go_simp
        refine (HJ1.out _).mono ?_
        rintro e w3 ⟨rfl, b3⟩
        refine hK.out _ _ (hHeld.up b3) (fun hHeld3 => ?_)
        clear hK K hHeld b3
        refine held_take (v := .string ⟨(colJ (g.take P) ++ [58, 58]).toArray⟩) 3 rfl (by kernel_rfl) (by kernel_rfl) (by kernel_rfl) (fun _ _ _ h => h) (by rfl) (fun W hSw => exec_cat (.tmp 32) (.const (.string ⟨#[58, 58]⟩)) _ rfl (colJ (g.take P)) [58, 58] _ rfl rfl rfl (by simp; omega)) (by assumption) ?_
        simp only [List.setIfInBounds_toArray, List.set_cons_zero, List.set_cons_succ]
        refine held_one 8 rfl (by kernel_rfl) (by rfl) (fun K hK => ?_)
        go_simp
        refine (HJ2.out _).mono ?_
        rintro e w4 ⟨rfl, b4⟩
        refine hK.out _ _ (hHeld3.up b4) (fun hHeld4 => ?_)
        clear hK K hHeld3 b4
        refine held_take (v := .string ⟨V.toArray⟩) 9 rfl (by kernel_rfl) (by kernel_rfl) (by kernel_rfl) (fun _ _ _ h => h) (by rfl) (fun W hSw => exec_cat (.tmp 33) (.tmp 38) _ rfl (colJ (g.take P) ++ [58, 58]) (colJ (g.drop E)) V rfl rfl (by rw [HV.out]; simp) (by rw [HV.out]; simp; omega)) (by assumption) ?_
        simp only [List.setIfInBounds_toArray, List.set_cons_zero, List.set_cons_succ]
        refine held_take (v := ?v706) 10 rfl (by kernel_rfl) (by kernel_rfl) (by kernel_rfl) (fun _ _ _ h => h) (by rfl) ?y706 (by assumption) ?_
        case y706 => (intro w hSw; unfold ShowR at hSw; go_simp; (try with_reducible rfl); (try omega))
        simp only [List.setIfInBounds_toArray, List.set_cons_zero, List.set_cons_succ]
        refine wpAnyH_done (by kernel_rfl) ?_ _
        refine NoPanic.normal ?_
        go_wp2
        go_ret
        exact ⟨rfl, hHeld4.2⟩
end Go.Proofs.YtlbgmpjeckigjaaDoor
