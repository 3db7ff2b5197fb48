/- Groups and Of of package colon. Proved: what each returns. -/
import Derived.Test.YteomoipbjkafgaaDoorFmt1
import Derived.Test.YteomoipbjkafgaaDoorReg
namespace Go.Proofs.YteomoipbjkafgaaDoor
open Go Go.RowKit

theorem arr16 : IsArr 22 16 := ⟨by kernel_rfl, Tryd.underlying22, by kernel_rfl⟩
theorem ints8 : IsInts 25 8 := ⟨by kernel_rfl, Tryd.underlying25, by kernel_rfl⟩
theorem row9 : IsRow 47 9 := ⟨by kernel_rfl, _, Tryd.underlying47, rfl⟩
theorem zero8 : (#[.int .i64 0, .int .i64 0, .int .i64 0, .int .i64 0, .int .i64 0, .int .i64 0, .int .i64 0, .int .i64 0] : Array Value) = (intVals [0, 0, 0, 0, 0, 0, 0, 0]).toArray := rfl
theorem zero9 : (#[.int .i64 0, .int .i64 0, .int .i64 0, .int .i64 0, .int .i64 0, .int .i64 0, .int .i64 0, .int .i64 0, .int .i64 0] : Array Value) = (intVals rowI0).toArray := rfl
theorem zero16' : (#[.int .u8 0, .int .u8 0, .int .u8 0, .int .u8 0, .int .u8 0, .int .u8 0, .int .u8 0, .int .u8 0, .int .u8 0, .int .u8 0, .int .u8 0, .int .u8 0, .int .u8 0, .int .u8 0, .int .u8 0, .int .u8 0] : Array Value) = (byteVals (List.replicate 16 0)).toArray := rfl

/-! An address's groups. -/
def grpN (a : List UInt8) : List Nat := (List.range 8).map fun i => (a.getD (2 * i) 0).toNat * 256 + (a.getD (2 * i + 1) 0).toNat
def natsI (g : List Nat) : List Int := g.map Int.ofNat
theorem grpN_length (a : List UInt8) : (grpN a).length = 8 := by simp [grpN]
theorem natsI_length (g : List Nat) : (natsI g).length = g.length := by simp [natsI]
theorem grpN_le (a : List UInt8) : ∀ n ∈ grpN a, n ≤ 65535 := by
  intro n hn
  obtain ⟨i, _, rfl⟩ := List.mem_map.1 hn
  have h1 := UInt8.toNat_lt (a.getD (2 * i) 0)
  have h2 := UInt8.toNat_lt (a.getD (2 * i + 1) 0)
  omega
/-- What the array holds behind k rounds. -/
def gfill (g : List Nat) (k : Nat) : List Int := natsI (g.take k) ++ List.replicate (8 - k) 0
theorem gfill_length (g : List Nat) (k : Nat) (hk : k ≤ 8) (hl : g.length = 8) : (gfill g k).length = 8 := by
  simp [gfill, natsI]; omega
theorem gfill_set (g : List Nat) (k : Nat) (hk : k < 8) (hl : g.length = 8) (x : Nat) (hx : x = g.getD k 0) : (gfill g k).set k (x : Int) = gfill g (k + 1) := by
  unfold gfill natsI
  have e1 : ((g.take k).map Int.ofNat).length = k := by simp; omega
  have e2 : g.take (k + 1) = g.take k ++ [x] := by
    rw [List.take_add_one, hx]
    simp [List.getD, show k < g.length by omega]
  rw [List.set_append, if_neg (by rw [e1]; omega), show 8 - k = (8 - (k + 1)) + 1 by omega, List.replicate_succ, e1, Nat.sub_self, List.set_cons_zero, e2, List.map_append, List.append_assoc]
  rfl
theorem gfill_full (g : List Nat) (hl : g.length = 8) : gfill g 8 = natsI g := by
  unfold gfill
  rw [List.take_of_length_le (by omega)]
  simp
theorem grpN_at (a : List UInt8) (k : Nat) (hk : k < 8) : (grpN a).getD k 0 = (a.getD (2 * k) 0).toNat * 256 + (a.getD (2 * k + 1) 0).toNat := by
  simp [grpN, List.getD, hk]
/-- Two bytes beside each other. -/
def PairS (g i : Nat) (X Y : UInt8) (W : World) : Prop := W.cell? ⟨g, i, none⟩ = some (.int .u8 (X.toNat : Int)) ∧ W.cell? ⟨g, i + 1, none⟩ = some (.int .u8 (Y.toNat : Int))
set_option maxRecDepth 100000 in
set_option maxHeartbeats 4000000 in
theorem groups_any (a : List UInt8) (w : World) (ha : a.length = 16) :
    Calls Tryd.prog 11 #[arrV a] w fun r w' => r = .returned (intV (natsI (grpN a))) ∧ Below w.heap.size w w' := by
  generalize hW : (((w.alloc (.cells (byteVals a).toArray 22)).alloc (.cells (intVals [0, 0, 0, 0, 0, 0, 0, 0]).toArray 25)).alloc (.cells (intVals [0, 0, 0, 0, 0, 0, 0, 0]).toArray 25)) = W
  have z0 : ArrT 22 W w.heap.size a := by rw [← hW]; exact ((arrT_new w a).allocO _).allocO _
  have z1 : IntT 25 W (w.heap.size + 1) [0, 0, 0, 0, 0, 0, 0, 0] := by
    have := (intT_new (t := 25) (w.alloc (.cells (byteVals a).toArray 22)) [0, 0, 0, 0, 0, 0, 0, 0]).allocO (.cells (intVals [0, 0, 0, 0, 0, 0, 0, 0]).toArray 25)
    rw [World.size_alloc, hW] at this
    exact this
  have z2 : IntT 25 W (w.heap.size + 1 + 1) [0, 0, 0, 0, 0, 0, 0, 0] := by
    have := intT_new (t := 25) ((w.alloc (.cells (byteVals a).toArray 22)).alloc (.cells (intVals [0, 0, 0, 0, 0, 0, 0, 0]).toArray 25)) [0, 0, 0, 0, 0, 0, 0, 0]
    rw [World.size_alloc, World.size_alloc, hW] at this
    exact this
  have zb : Below w.heap.size w W := by rw [← hW]; exact (((Below.refl _ _).alloc (Nat.le_refl _) _).alloc (by simp) _).alloc (by simp; omega) _
  have Z := Lib.hid (And.intro z0 (And.intro z1 (And.intro z2 zb)))
  rw [← hW, ← zero8] at Z
  clear hW z0 z1 z2 zb
  clear W
  rw [show arrV a = .agg (byteVals a).toArray from rfl]
  have HG := Lib.hid (grpN_length a)
  have HAt := Lib.hid (grpN_at a)
  go_enter Tryd.func11, Tryd.ntmps11
  go_wp2
  go_loopw [5] (fun i wr => ∃ k : Nat, k ≤ 8 ∧ i = .int .i64 (k : Int) ∧ IntT 25 wr (w.heap.size + 1 + 1) (gfill (grpN a) k) ∧ IntT 25 wr (w.heap.size + 1) [0, 0, 0, 0, 0, 0, 0, 0] ∧ ArrT 22 wr w.heap.size a ∧ Below w.heap.size w wr) (fun i _ => 8 - (intOf i).toNat)
  case atStart => exact ⟨0, by omega, rfl, Z.out.2.2.1, Z.out.2.1, Z.out.1, Z.out.2.2.2⟩
  case round =>
    obtain ⟨k, hk, rfl, hA, hB, hC, hb⟩ := hrel
    clear Z
    by_cases hlt : k < 8
    · have c1 := hC.cell (2 * k) (by omega)
      have c2 := hC.cell (2 * k + 1) (by omega)
      have hcell := hA.cell k (by rw [gfill_length _ k hk HG.out]; omega)
      have hfr := hA.frozen k
      have HP := Lib.hid (fun W => pair_any (a.getD (2 * k) 0) (a.getD (2 * k + 1) 0) W)
      have hst := hA.store k (((a.getD (2 * k) 0).toNat * 256 + (a.getD (2 * k + 1) 0).toNat : Nat) : Int)
      rw [gfill_set (grpN a) k hlt HG.out _ (HAt.out k hlt).symm] at hst
      have HS := Lib.hid hst
      have HR : Hid (∀ v, IntT 25 (wr.setCell ⟨w.heap.size + 1 + 1, k, none⟩ v) (w.heap.size + 1) [0, 0, 0, 0, 0, 0, 0, 0] ∧ ArrT 22 (wr.setCell ⟨w.heap.size + 1 + 1, k, none⟩ v) w.heap.size a ∧ Below w.heap.size w (wr.setCell ⟨w.heap.size + 1 + 1, k, none⟩ v)) := fun v => ⟨hB.setOther (by omega) _ _, hC.setOther (by omega) _ _, hb.setCell (by simp; omega) _⟩
      rw [show byteAt a (2 * k) = ((a.getD (2 * k) 0).toNat : Int) from rfl] at c1
      rw [show byteAt a (2 * k + 1) = ((a.getD (2 * k + 1) 0).toNat : Int) from rfl] at c2
      clear hA hB hC hb hst
      have k2 : ((2 : Int) * (k : Int)).toNat = 2 * k := by omega
      have k3 : ((2 : Int) * (k : Int) + 1).toNat = 2 * k + 1 := by omega
      have k4 : (0 : Int) ≤ 2 * (k : Int) := by omega
      have k5 : (0 : Int) ≤ 2 * (k : Int) + 1 := by omega
      generalize hX : a.getD (2 * k) 0 = X at *
      generalize hY : a.getD (2 * k + 1) 0 = Y at *
      have HX : Hid (byteAt a (2 * k) = (X.toNat : Int)) := by rw [← hX]; rfl
      have HY : Hid (byteAt a (2 * k + 1) = (Y.toNat : Int)) := by rw [← hY]; rfl
      clear hX hY
      generalize X.toNat * 256 + Y.toNat = N at *
      go_wp2_with fail
      refine wp_region_noPanic ?_
      refine wp_region_held_drew (S := PairS w.heap.size (2 * k) X Y) (by kernel_rfl) ⟨c1, c2⟩ (fun hHeld => ?_)
      have kw1 : IntKind.i64.wrap (2 * (k : Int)) = 2 * (k : Int) := by rw [IntKind.wrap_i64]; omega
      have kw2 : IntKind.i64.wrap (2 * (k : Int) + 1) = 2 * (k : Int) + 1 := by rw [IntKind.wrap_i64]; omega
      have k6 : 2 * (k : Int) < 16 := by omega
      have k7 : 2 * (k : Int) + 1 < 16 := by omega
      refine held_take (v := ?v103) 0 rfl (by kernel_rfl) (by kernel_rfl) (by kernel_rfl) (fun _ _ _ h => h) (by rfl) ?y103 (by assumption) ?_
      case y103 => (intro w hSw; unfold PairS at hSw; go_simp; (try with_reducible rfl); (try omega))
      simp only [List.setIfInBounds_toArray, List.set_cons_zero, List.set_cons_succ]
      refine held_take (v := ?v106) 1 rfl (by kernel_rfl) (by kernel_rfl) (by kernel_rfl) (fun _ _ _ h => h) (by rfl) ?y106 (by assumption) ?_
      case y106 => (intro w hSw; unfold PairS at hSw; go_simp; (try with_reducible rfl); (try omega))
      simp only [List.setIfInBounds_toArray, List.set_cons_zero, List.set_cons_succ]
      refine held_take (v := ?v109) 2 rfl (by kernel_rfl) (by kernel_rfl) (by kernel_rfl) (fun _ _ _ h => h) (by rfl) ?y109 (by assumption) ?_
      case y109 => (intro w hSw; unfold PairS at hSw; go_simp; (try with_reducible rfl); (try omega))
      simp only [List.setIfInBounds_toArray, List.set_cons_zero, List.set_cons_succ]
      refine held_take (v := ?v112) 3 rfl (by kernel_rfl) (by kernel_rfl) (by kernel_rfl) (fun _ _ _ h => h) (by rfl) ?y112 (by assumption) ?_
      case y112 => (intro w hSw; unfold PairS at hSw; go_simp; (try with_reducible rfl); (try omega))
      simp only [List.setIfInBounds_toArray, List.set_cons_zero, List.set_cons_succ]
      refine held_take (v := ?v115) 4 rfl (by kernel_rfl) (by kernel_rfl) (by kernel_rfl) (fun _ _ _ h => h) (by rfl) ?y115 (by assumption) ?_
      case y115 => (intro w hSw; unfold PairS at hSw; go_simp; (try with_reducible rfl); (try omega))
      simp only [List.setIfInBounds_toArray, List.set_cons_zero, List.set_cons_succ]
      refine held_take (v := ?v118) 5 rfl (by kernel_rfl) (by kernel_rfl) (by kernel_rfl) (fun _ _ _ h => h) (by rfl) ?y118 (by assumption) ?_
      case y118 => (intro w hSw; unfold PairS at hSw; go_simp; (try with_reducible rfl); (try omega))
      simp only [List.setIfInBounds_toArray, List.set_cons_zero, List.set_cons_succ]
      refine held_take (v := ?v121) 6 rfl (by kernel_rfl) (by kernel_rfl) (by kernel_rfl) (fun _ _ _ h => h) (by rfl) ?y121 (by assumption) ?_
      case y121 => (intro w hSw; unfold PairS at hSw; go_simp; (try with_reducible rfl); (try omega))
      simp only [List.setIfInBounds_toArray, List.set_cons_zero, List.set_cons_succ]
      refine held_take (v := ?v124) 7 rfl (by kernel_rfl) (by kernel_rfl) (by kernel_rfl) (fun _ _ _ h => h) (by rfl) ?y124 (by assumption) ?_
      case y124 => (intro w hSw; unfold PairS at hSw; go_simp; (try with_reducible rfl); (try omega))
      simp only [List.setIfInBounds_toArray, List.set_cons_zero, List.set_cons_succ]
      refine held_take (v := ?v127) 8 rfl (by kernel_rfl) (by kernel_rfl) (by kernel_rfl) (fun _ _ _ h => h) (by rfl) ?y127 (by assumption) ?_
      case y127 => (intro w hSw; unfold PairS at hSw; go_simp; (try with_reducible rfl); (try omega))
      simp only [List.setIfInBounds_toArray, List.set_cons_zero, List.set_cons_succ]
      refine held_take (v := ?v130) 9 rfl (by kernel_rfl) (by kernel_rfl) (by kernel_rfl) (fun _ _ _ h => h) (by rfl) ?y130 (by assumption) ?_
      case y130 => (intro w hSw; unfold PairS at hSw; go_simp; (try with_reducible rfl); (try omega))
      simp only [List.setIfInBounds_toArray, List.set_cons_zero, List.set_cons_succ]
      refine held_one 10 rfl (by kernel_rfl) (by rfl) (fun K hK => ?_)
      go_simp
      refine (HP.out _).mono ?_
      rintro e w' ⟨rfl, rfl⟩
      refine hK.out _ _ hHeld (fun hHeld => ?_)
      clear hK K
      refine held_take (v := ?v139) 11 rfl (by kernel_rfl) (by kernel_rfl) (by kernel_rfl) (fun _ _ _ h => h) (by rfl) ?y139 (by assumption) ?_
      case y139 => (intro w hSw; unfold PairS at hSw; go_simp; (try with_reducible rfl); (try omega))
      simp only [List.setIfInBounds_toArray, List.set_cons_zero, List.set_cons_succ]
      refine held_none 12 rfl (by kernel_rfl) (by rfl) (fun K hK => ?_)
      go_simp
      refine hK.out _ _ (by
        have h1 : ArrT 22 (wr.setCell ⟨w.heap.size + 1 + 1, k, none⟩ (.int .i64 (N : Int))).drew w.heap.size a := (HR.out (.int .i64 (N : Int))).2.1
        exact ⟨by rw [h1.cell (2 * k) (by omega), HX.out], by rw [h1.cell (2 * k + 1) (by omega), HY.out]⟩) (fun _ => ?_)
      clear hK K
      refine wpAnyH_done (by kernel_rfl) ?_ _
      refine NoPanic.normal ?_
      go_wp2
      go_roundw
      case rel => exact ⟨k + 1, by omega, by go_num, HS.out, (HR.out _).1, (HR.out _).2.1, (HR.out _).2.2.drew⟩
      case measure => simp [intOf]; omega
    · have hk8 : k = 8 := by omega
      subst hk8
      rw [gfill_full _ HG.out] at hA
      have HA := Lib.hid hA
      have HB := Lib.hid hB
      have HBB := Lib.hid hb
      have HL : Hid ((natsI (grpN a)).length = 8) := by rw [natsI_length]; exact HG.out
      clear hA hB hC hb
      generalize hL : natsI (grpN a) = L at *
      have HLL := Lib.hid hL
      clear hL
      go_wp2_with (first | (refine wpList_load_intT rfl (.tmp 3) rfl (w.heap.size + 1 + 1) L (by rw [HL.out]; exact ints8.isRow) rfl HA.out ?_) | (refine wpList_store_intT rfl (.tmp 2) (.tmp 21) rfl (w.heap.size + 1) L (by rw [HL.out]; exact ints8.isRow) _ rfl rfl HB.out HL.out.symm ?_))
      exact bodyPost_ret (results_intT Tryd.results11 _ _ (w.heap.size + 1) L (by rw [HL.out]; exact ints8.isRow) rfl (intT_setRow HB.out _)) rfl ⟨by rw [HLL.out], below_setRow HBB.out (by omega) _⟩
end Go.Proofs.YteomoipbjkafgaaDoor
