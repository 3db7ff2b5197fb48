/- Groups, Of, longest, join, Show, Multi and Plain of package colon; the document's Multi and Plain. Proved: what each returns. -/
import Derived.Test.YtlbgmpjeckigjaaDoorFmt1
import Derived.Test.YtlbgmpjeckigjaaDoorReg
import Derived.Test.YtlbgmpjeckigjaaDoorExe
namespace Go.Proofs.YtlbgmpjeckigjaaDoor
open Go Go.RowKit

theorem arr16 : IsArr 22 16 := ⟨by kernel_rfl, Tryd.underlying22, by kernel_rfl⟩
theorem ints8 : IsInts 60 8 := ⟨by kernel_rfl, Tryd.underlying60, by kernel_rfl⟩
theorem row9 : IsRow 78 9 := ⟨by kernel_rfl, _, Tryd.underlying78, rfl⟩
theorem zero8 : (#[.int .i64 0, .int .i64 0, .int .i64 0, .int .i64 0, .int .i64 0, .int .i64 0, .int .i64 0, .int .i64 0] : Array Value) = (intVals [0, 0, 0, 0, 0, 0, 0, 0]).toArray := rfl
theorem zero9 : (#[.int .i64 0, .int .i64 0, .int .i64 0, .int .i64 0, .int .i64 0, .int .i64 0, .int .i64 0, .int .i64 0, .int .i64 0] : Array Value) = (intVals rowI0).toArray := rfl
theorem zero16' : (#[.int .u8 0, .int .u8 0, .int .u8 0, .int .u8 0, .int .u8 0, .int .u8 0, .int .u8 0, .int .u8 0, .int .u8 0, .int .u8 0, .int .u8 0, .int .u8 0, .int .u8 0, .int .u8 0, .int .u8 0, .int .u8 0] : Array Value) = (byteVals (List.replicate 16 0)).toArray := rfl

/-! An address's groups. -/
def grpN (a : List UInt8) : List Nat := (List.range 8).map fun i => (a.getD (2 * i) 0).toNat * 256 + (a.getD (2 * i + 1) 0).toNat
def natsI (g : List Nat) : List Int := g.map Int.ofNat
theorem grpN_length (a : List UInt8) : (grpN a).length = 8 := by simp [grpN]
theorem natsI_length (g : List Nat) : (natsI g).length = g.length := by simp [natsI]
theorem grpN_le (a : List UInt8) : ∀ n ∈ grpN a, n ≤ 65535 := by
  intro n hn
  obtain ⟨i, _, rfl⟩ := List.mem_map.1 hn
  have h1 := UInt8.toNat_lt (a.getD (2 * i) 0)
  have h2 := UInt8.toNat_lt (a.getD (2 * i + 1) 0)
  omega
/-- What the array holds behind k rounds. -/
def gfill (g : List Nat) (k : Nat) : List Int := natsI (g.take k) ++ List.replicate (8 - k) 0
theorem gfill_length (g : List Nat) (k : Nat) (hk : k ≤ 8) (hl : g.length = 8) : (gfill g k).length = 8 := by
  simp [gfill, natsI]; omega
theorem gfill_set (g : List Nat) (k : Nat) (hk : k < 8) (hl : g.length = 8) (x : Nat) (hx : x = g.getD k 0) : (gfill g k).set k (x : Int) = gfill g (k + 1) := by
  unfold gfill natsI
  have e1 : ((g.take k).map Int.ofNat).length = k := by simp; omega
  have e2 : g.take (k + 1) = g.take k ++ [x] := by
    rw [List.take_add_one, hx]
    simp [List.getD, show k < g.length by omega]
  rw [List.set_append, if_neg (by rw [e1]; omega), show 8 - k = (8 - (k + 1)) + 1 by omega, List.replicate_succ, e1, Nat.sub_self, List.set_cons_zero, e2, List.map_append, List.append_assoc]
  rfl
theorem gfill_full (g : List Nat) (hl : g.length = 8) : gfill g 8 = natsI g := by
  unfold gfill
  rw [List.take_of_length_le (by omega)]
  simp
theorem grpN_at (a : List UInt8) (k : Nat) (hk : k < 8) : (grpN a).getD k 0 = (a.getD (2 * k) 0).toNat * 256 + (a.getD (2 * k + 1) 0).toNat := by
  simp [grpN, List.getD, hk]
/-- Two bytes beside each other. -/
def PairS (g i : Nat) (X Y : UInt8) (W : World) : Prop := W.cell? ⟨g, i, none⟩ = some (.int .u8 (X.toNat : Int)) ∧ W.cell? ⟨g, i + 1, none⟩ = some (.int .u8 (Y.toNat : Int))
set_option maxRecDepth 100000 in
set_option maxHeartbeats 4000000 in
theorem groups_any (a : List UInt8) (w : World) (ha : a.length = 16) :
    Calls Tryd.prog 46 #[arrV a] w fun r w' => r = .returned (intV (natsI (grpN a))) ∧ Below w.heap.size w w' := by
  generalize hW : (((w.alloc (.cells (byteVals a).toArray 22)).alloc (.cells (intVals [0, 0, 0, 0, 0, 0, 0, 0]).toArray 60)).alloc (.cells (intVals [0, 0, 0, 0, 0, 0, 0, 0]).toArray 60)) = W
  have z0 : ArrT 22 W w.heap.size a := by rw [← hW]; exact ((arrT_new w a).allocO _).allocO _
  have z1 : IntT 60 W (w.heap.size + 1) [0, 0, 0, 0, 0, 0, 0, 0] := by
    have := (intT_new (t := 60) (w.alloc (.cells (byteVals a).toArray 22)) [0, 0, 0, 0, 0, 0, 0, 0]).allocO (.cells (intVals [0, 0, 0, 0, 0, 0, 0, 0]).toArray 60)
    rw [World.size_alloc, hW] at this
    exact this
  have z2 : IntT 60 W (w.heap.size + 1 + 1) [0, 0, 0, 0, 0, 0, 0, 0] := by
    have := intT_new (t := 60) ((w.alloc (.cells (byteVals a).toArray 22)).alloc (.cells (intVals [0, 0, 0, 0, 0, 0, 0, 0]).toArray 60)) [0, 0, 0, 0, 0, 0, 0, 0]
    rw [World.size_alloc, World.size_alloc, hW] at this
    exact this
  have zb : Below w.heap.size w W := by rw [← hW]; exact (((Below.refl _ _).alloc (Nat.le_refl _) _).alloc (by simp) _).alloc (by simp; omega) _
  have Z := Lib.hid (And.intro z0 (And.intro z1 (And.intro z2 zb)))
  rw [← hW, ← zero8] at Z
  clear hW z0 z1 z2 zb
  clear W
  rw [show arrV a = .agg (byteVals a).toArray from rfl]
  have HG := Lib.hid (grpN_length a)
  have HAt := Lib.hid (grpN_at a)
  go_enter Tryd.func46, Tryd.ntmps46
  go_wp2
  go_loopw [5] (fun i wr => ∃ k : Nat, k ≤ 8 ∧ i = .int .i64 (k : Int) ∧ IntT 60 wr (w.heap.size + 1 + 1) (gfill (grpN a) k) ∧ IntT 60 wr (w.heap.size + 1) [0, 0, 0, 0, 0, 0, 0, 0] ∧ ArrT 22 wr w.heap.size a ∧ Below w.heap.size w wr) (fun i _ => 8 - (intOf i).toNat)
  case atStart => exact ⟨0, by omega, rfl, Z.out.2.2.1, Z.out.2.1, Z.out.1, Z.out.2.2.2⟩
  case round =>
    obtain ⟨k, hk, rfl, hA, hB, hC, hb⟩ := hrel
    clear Z
    by_cases hlt : k < 8
    · have c1 := hC.cell (2 * k) (by omega)
      have c2 := hC.cell (2 * k + 1) (by omega)
      have hcell := hA.cell k (by rw [gfill_length _ k hk HG.out]; omega)
      have hfr := hA.frozen k
      have HP := Lib.hid (fun W => pair_any (a.getD (2 * k) 0) (a.getD (2 * k + 1) 0) W)
      have hst := hA.store k (((a.getD (2 * k) 0).toNat * 256 + (a.getD (2 * k + 1) 0).toNat : Nat) : Int)
      rw [gfill_set (grpN a) k hlt HG.out _ (HAt.out k hlt).symm] at hst
      have HS := Lib.hid hst
      have HR : Hid (∀ v, IntT 60 (wr.setCell ⟨w.heap.size + 1 + 1, k, none⟩ v) (w.heap.size + 1) [0, 0, 0, 0, 0, 0, 0, 0] ∧ ArrT 22 (wr.setCell ⟨w.heap.size + 1 + 1, k, none⟩ v) w.heap.size a ∧ Below w.heap.size w (wr.setCell ⟨w.heap.size + 1 + 1, k, none⟩ v)) := fun v => ⟨hB.setOther (by omega) _ _, hC.setOther (by omega) _ _, hb.setCell (by simp; omega) _⟩
      rw [show byteAt a (2 * k) = ((a.getD (2 * k) 0).toNat : Int) from rfl] at c1
      rw [show byteAt a (2 * k + 1) = ((a.getD (2 * k + 1) 0).toNat : Int) from rfl] at c2
      clear hA hB hC hb hst
      have k2 : ((2 : Int) * (k : Int)).toNat = 2 * k := by omega
      have k3 : ((2 : Int) * (k : Int) + 1).toNat = 2 * k + 1 := by omega
      have k4 : (0 : Int) ≤ 2 * (k : Int) := by omega
      have k5 : (0 : Int) ≤ 2 * (k : Int) + 1 := by omega
      generalize hX : a.getD (2 * k) 0 = X at *
      generalize hY : a.getD (2 * k + 1) 0 = Y at *
      have HX : Hid (byteAt a (2 * k) = (X.toNat : Int)) := by rw [← hX]; rfl
      have HY : Hid (byteAt a (2 * k + 1) = (Y.toNat : Int)) := by rw [← hY]; rfl
      clear hX hY
      generalize X.toNat * 256 + Y.toNat = N at *
      go_wp2_with fail
      refine wp_region_noPanic ?_
      refine wp_region_held_drew (S := PairS w.heap.size (2 * k) X Y) (by kernel_rfl) ⟨c1, c2⟩ (fun hHeld => ?_)
      have kw1 : IntKind.i64.wrap (2 * (k : Int)) = 2 * (k : Int) := by rw [IntKind.wrap_i64]; omega
      have kw2 : IntKind.i64.wrap (2 * (k : Int) + 1) = 2 * (k : Int) + 1 := by rw [IntKind.wrap_i64]; omega
      have k6 : 2 * (k : Int) < 16 := by omega
      have k7 : 2 * (k : Int) + 1 < 16 := by omega
      refine held_take (v := ?v104) 0 rfl (by kernel_rfl) (by kernel_rfl) (by kernel_rfl) (fun _ _ _ h => h) (by rfl) ?y104 (by assumption) ?_
      case y104 => (intro w hSw; unfold PairS at hSw; go_simp; (try with_reducible rfl); (try omega))
      simp only [List.setIfInBounds_toArray, List.set_cons_zero, List.set_cons_succ]
      refine held_take (v := ?v107) 1 rfl (by kernel_rfl) (by kernel_rfl) (by kernel_rfl) (fun _ _ _ h => h) (by rfl) ?y107 (by assumption) ?_
      case y107 => (intro w hSw; unfold PairS at hSw; go_simp; (try with_reducible rfl); (try omega))
      simp only [List.setIfInBounds_toArray, List.set_cons_zero, List.set_cons_succ]
      refine held_take (v := ?v110) 2 rfl (by kernel_rfl) (by kernel_rfl) (by kernel_rfl) (fun _ _ _ h => h) (by rfl) ?y110 (by assumption) ?_
      case y110 => (intro w hSw; unfold PairS at hSw; go_simp; (try with_reducible rfl); (try omega))
      simp only [List.setIfInBounds_toArray, List.set_cons_zero, List.set_cons_succ]
      refine held_take (v := ?v113) 3 rfl (by kernel_rfl) (by kernel_rfl) (by kernel_rfl) (fun _ _ _ h => h) (by rfl) ?y113 (by assumption) ?_
      case y113 => (intro w hSw; unfold PairS at hSw; go_simp; (try with_reducible rfl); (try omega))
      simp only [List.setIfInBounds_toArray, List.set_cons_zero, List.set_cons_succ]
      refine held_take (v := ?v116) 4 rfl (by kernel_rfl) (by kernel_rfl) (by kernel_rfl) (fun _ _ _ h => h) (by rfl) ?y116 (by assumption) ?_
      case y116 => (intro w hSw; unfold PairS at hSw; go_simp; (try with_reducible rfl); (try omega))
      simp only [List.setIfInBounds_toArray, List.set_cons_zero, List.set_cons_succ]
      refine held_take (v := ?v119) 5 rfl (by kernel_rfl) (by kernel_rfl) (by kernel_rfl) (fun _ _ _ h => h) (by rfl) ?y119 (by assumption) ?_
      case y119 => (intro w hSw; unfold PairS at hSw; go_simp; (try with_reducible rfl); (try omega))
      simp only [List.setIfInBounds_toArray, List.set_cons_zero, List.set_cons_succ]
      refine held_take (v := ?v122) 6 rfl (by kernel_rfl) (by kernel_rfl) (by kernel_rfl) (fun _ _ _ h => h) (by rfl) ?y122 (by assumption) ?_
      case y122 => (intro w hSw; unfold PairS at hSw; go_simp; (try with_reducible rfl); (try omega))
      simp only [List.setIfInBounds_toArray, List.set_cons_zero, List.set_cons_succ]
      refine held_take (v := ?v125) 7 rfl (by kernel_rfl) (by kernel_rfl) (by kernel_rfl) (fun _ _ _ h => h) (by rfl) ?y125 (by assumption) ?_
      case y125 => (intro w hSw; unfold PairS at hSw; go_simp; (try with_reducible rfl); (try omega))
      simp only [List.setIfInBounds_toArray, List.set_cons_zero, List.set_cons_succ]
      refine held_take (v := ?v128) 8 rfl (by kernel_rfl) (by kernel_rfl) (by kernel_rfl) (fun _ _ _ h => h) (by rfl) ?y128 (by assumption) ?_
      case y128 => (intro w hSw; unfold PairS at hSw; go_simp; (try with_reducible rfl); (try omega))
      simp only [List.setIfInBounds_toArray, List.set_cons_zero, List.set_cons_succ]
      refine held_take (v := ?v131) 9 rfl (by kernel_rfl) (by kernel_rfl) (by kernel_rfl) (fun _ _ _ h => h) (by rfl) ?y131 (by assumption) ?_
      case y131 => (intro w hSw; unfold PairS at hSw; go_simp; (try with_reducible rfl); (try omega))
      simp only [List.setIfInBounds_toArray, List.set_cons_zero, List.set_cons_succ]
      refine held_one 10 rfl (by kernel_rfl) (by rfl) (fun K hK => ?_)
      go_simp
      refine (HP.out _).mono ?_
      rintro e w' ⟨rfl, rfl⟩
      refine hK.out _ _ hHeld (fun hHeld => ?_)
      clear hK K
      refine held_take (v := ?v140) 11 rfl (by kernel_rfl) (by kernel_rfl) (by kernel_rfl) (fun _ _ _ h => h) (by rfl) ?y140 (by assumption) ?_
      case y140 => (intro w hSw; unfold PairS at hSw; go_simp; (try with_reducible rfl); (try omega))
      simp only [List.setIfInBounds_toArray, List.set_cons_zero, List.set_cons_succ]
      refine held_none 12 rfl (by kernel_rfl) (by rfl) (fun K hK => ?_)
      go_simp
      refine hK.out _ _ (by
        have h1 : ArrT 22 (wr.setCell ⟨w.heap.size + 1 + 1, k, none⟩ (.int .i64 (N : Int))).drew w.heap.size a := (HR.out (.int .i64 (N : Int))).2.1
        exact ⟨by rw [h1.cell (2 * k) (by omega), HX.out], by rw [h1.cell (2 * k + 1) (by omega), HY.out]⟩) (fun _ => ?_)
      clear hK K
      refine wpAnyH_done (by kernel_rfl) ?_ _
      refine NoPanic.normal ?_
      go_wp2
      go_roundw
      case rel => exact ⟨k + 1, by omega, by go_num, HS.out, (HR.out _).1, (HR.out _).2.1, (HR.out _).2.2.drew⟩
      case measure => simp [intOf]; omega
    · have hk8 : k = 8 := by omega
      subst hk8
      rw [gfill_full _ HG.out] at hA
      have HA := Lib.hid hA
      have HB := Lib.hid hB
      have HBB := Lib.hid hb
      have HL : Hid ((natsI (grpN a)).length = 8) := by rw [natsI_length]; exact HG.out
      clear hA hB hC hb
      generalize hL : natsI (grpN a) = L at *
      have HLL := Lib.hid hL
      clear hL
      go_wp2_with (first | (refine wpList_load_intT rfl (.tmp 3) rfl (w.heap.size + 1 + 1) L (by rw [HL.out]; exact ints8.isRow) rfl HA.out ?_) | (refine wpList_store_intT rfl (.tmp 2) (.tmp 21) rfl (w.heap.size + 1) L (by rw [HL.out]; exact ints8.isRow) _ rfl rfl HB.out HL.out.symm ?_))
      exact bodyPost_ret (results_intT Tryd.results46 _ _ (w.heap.size + 1) L (by rw [HL.out]; exact ints8.isRow) rfl (intT_setRow HB.out _)) rfl ⟨by rw [HLL.out], below_setRow HBB.out (by omega) _⟩
def okI (l : List Int) : Bool := l.all fun n => decide (0 ≤ n) && decide (n ≤ 65535)
def two (n : Int) : List UInt8 := [UInt8.ofNat (n / 256).toNat, UInt8.ofNat (n % 256).toNat]
def ofB (l : List Int) : List UInt8 := l.flatMap two
def ofL (l : List Int) : List UInt8 := if okI l then ofB l else List.replicate 16 0
theorem ofB_length (l : List Int) : (ofB l).length = 2 * l.length := by
  induction l with
  | nil => rfl
  | cons n l ih => simp only [ofB, List.flatMap_cons, List.length_append, List.length_cons] at *; rw [ih]; simp [two]; omega
theorem ofL_length (l : List Int) (h : l.length = 8) : (ofL l).length = 16 := by
  unfold ofL
  split
  · rw [ofB_length, h]
  · simp
theorem okI_at {l : List Int} (h : okI l = true) (k : Nat) (hk : k < l.length) : 0 ≤ intAt l k ∧ intAt l k ≤ 65535 := by
  have := List.all_eq_true.1 h _ (List.getElem_mem hk)
  simp only [Bool.and_eq_true, decide_eq_true_eq] at this
  unfold intAt
  simp only [List.getD, List.getElem?_eq_getElem hk, Option.getD_some]
  exact this
theorem take_snocI (l : List Int) (k : Nat) (hk : k < l.length) : l.take (k + 1) = l.take k ++ [intAt l k] := by
  rw [List.take_add_one]
  simp [intAt, List.getD, hk]
theorem okI_more (l : List Int) (k : Nat) (hk : k < l.length) : okI (l.take (k + 1)) = (okI (l.take k) && (decide (0 ≤ intAt l k) && decide (intAt l k ≤ 65535))) := by
  rw [take_snocI l k hk]
  simp [okI]
theorem okI_part {l : List Int} (k : Nat) (h : okI (l.take k) = false) : okI l = false := by
  rw [Bool.eq_false_iff] at h ⊢
  intro ha
  exact h (List.all_eq_true.2 fun x hx => List.all_eq_true.1 ha x (List.mem_of_mem_take hx))
def ofill (l : List Int) (k : Nat) : List UInt8 := ofB (l.take k) ++ List.replicate (16 - 2 * k) 0
theorem ofill_length (l : List Int) (k : Nat) (hk : k ≤ 8) (hl : l.length = 8) : (ofill l k).length = 16 := by
  unfold ofill
  rw [List.length_append, ofB_length, List.length_take, List.length_replicate, hl]
  omega
theorem ofill_set (l : List Int) (k : Nat) (hk : k < 8) (hl : l.length = 8) : ((ofill l k).set (2 * k) (UInt8.ofNat (intAt l k / 256).toNat)).set (2 * k + 1) (UInt8.ofNat (intAt l k % 256).toNat) = ofill l (k + 1) := by
  unfold ofill
  have e1 : (ofB (l.take k)).length = 2 * k := by rw [ofB_length, List.length_take, hl]; omega
  rw [take_snocI l k (by omega), show ofB (l.take k ++ [intAt l k]) = ofB (l.take k) ++ two (intAt l k) by simp [ofB]]
  rw [show 16 - 2 * k = (16 - 2 * (k + 1)) + 1 + 1 by omega, List.replicate_succ, List.replicate_succ]
  rw [List.set_append, if_neg (by rw [e1]; omega), e1, Nat.sub_self, List.set_cons_zero, List.set_append, if_neg (by rw [e1]; omega), e1, show 2 * k + 1 - 2 * k = 1 by omega, List.set_cons_succ, List.set_cons_zero, List.append_assoc]
  rfl
theorem ofill_full (l : List Int) (hl : l.length = 8) : ofill l 8 = ofB l := by
  unfold ofill
  rw [List.take_of_length_le (by omega)]
  simp
set_option maxRecDepth 100000 in
set_option maxHeartbeats 4000000 in
theorem of_any (l : List Int) (w : World) (hl : l.length = 8) (hr : ∀ k, k < 8 → -9223372036854775808 ≤ intAt l k ∧ intAt l k ≤ 9223372036854775807) :
    Calls Tryd.prog 68 #[intV l] w fun r w' => r = .returned (.tuple #[arrV (ofL l), .bool (okI l)]) ∧ Below w.heap.size w w' := by
  generalize hW : (((w.alloc (.cells (intVals l).toArray 60)).alloc (.cells (byteVals (List.replicate 16 0)).toArray 22)).alloc (.cells (byteVals (List.replicate 16 0)).toArray 22)) = W
  have z0 : IntT 60 W w.heap.size l := by rw [← hW]; exact ((intT_new w l).allocO _).allocO _
  have z1 : ArrT 22 W (w.heap.size + 1) (List.replicate 16 0) := by
    have := (arrT_new (t := 22) (w.alloc (.cells (intVals l).toArray 60)) (List.replicate 16 0)).allocO (.cells (byteVals (List.replicate 16 0)).toArray 22)
    rw [World.size_alloc, hW] at this
    exact this
  have z2 : ArrT 22 W (w.heap.size + 1 + 1) (List.replicate 16 0) := by
    have := arrT_new (t := 22) ((w.alloc (.cells (intVals l).toArray 60)).alloc (.cells (byteVals (List.replicate 16 0)).toArray 22)) (List.replicate 16 0)
    rw [World.size_alloc, World.size_alloc, hW] at this
    exact this
  have zb : Below w.heap.size w W := by rw [← hW]; exact (((Below.refl _ _).alloc (Nat.le_refl _) _).alloc (by simp) _).alloc (by simp; omega) _
  have Z := Lib.hid (And.intro z0 (And.intro z1 (And.intro z2 zb)))
  rw [← hW, ← zero16'] at Z
  clear hW z0 z1 z2 zb
  clear W
  have HL := Lib.hid hl
  have HR := Lib.hid hr
  have HIX := Lib.hid (fun (W : World) (k : Nat) (hk : k < l.length) => index_intV ints8.row W l k hk hl)
  rw [show intV l = .agg (intVals l).toArray from rfl]
  clear hr hl
  go_enter Tryd.func68, Tryd.ntmps68
  go_wp2_with (refine wpList_load_intT rfl (.tmp 1) rfl w.heap.size l (by rw [HL.out]; exact ints8.isRow) rfl Z.out.1 ?_)
  go_loopw [8] (fun i wr => ∃ k : Nat, k ≤ 8 ∧ i = .int .i64 (k : Int) ∧ okI (l.take k) = true ∧ ArrT 22 wr (w.heap.size + 1 + 1) (ofill l k) ∧ ArrT 22 wr (w.heap.size + 1) (List.replicate 16 0) ∧ Below w.heap.size w wr) (fun i _ => 8 - (intOf i).toNat)
  case atStart => exact ⟨0, by omega, rfl, rfl, Z.out.2.2.1, Z.out.2.1, Z.out.2.2.2⟩
  case round =>
    obtain ⟨k, hk, rfl, hok, hA, hB, hb⟩ := hrel
    clear Z
    by_cases hlt : k < 8
    · have hix := fun W => HIX.out W k (by rw [HL.out]; exact hlt)
      have hn := HR.out k hlt
      have hmore := okI_more l k (by rw [HL.out]; exact hlt)
      rw [hok, Bool.true_and] at hmore
      by_cases hin : 0 ≤ intAt l k ∧ intAt l k ≤ 65535
      · have hset := ofill_set l k hlt HL.out
        obtain ⟨n0, n1⟩ := hin
        rw [decide_eq_true n0, decide_eq_true n1] at hmore
        have HM := Lib.hid hmore
        have hlen := ofill_length l k hk HL.out
        have hst0 := hA.store (2 * k) (intAt l k / 256) (UInt8.ofNat (intAt l k / 256).toNat) (by rw [UInt8.toNat_ofNat_of_lt' (show (intAt l k / 256).toNat < 256 by omega)]; omega)
        have hst := hst0.store (2 * k + 1) (intAt l k % 256) (UInt8.ofNat (intAt l k % 256).toNat) (by rw [UInt8.toNat_ofNat_of_lt' (show (intAt l k % 256).toNat < 256 by omega)]; omega)
        rw [hset] at hst
        have c0 := hA.cell (2 * k) (by omega)
        have f0 := hA.frozen (2 * k)
        have c1 := hst0.cell (2 * k + 1) (by rw [List.length_set]; omega)
        have f1 := hst0.frozen (2 * k + 1)
        have HS := Lib.hid hst
        have HQ : Hid (∀ v v2, ArrT 22 ((wr.setCell ⟨w.heap.size + 1 + 1, 2 * k, none⟩ v).setCell ⟨w.heap.size + 1 + 1, 2 * k + 1, none⟩ v2) (w.heap.size + 1) (List.replicate 16 0) ∧ Below w.heap.size w ((wr.setCell ⟨w.heap.size + 1 + 1, 2 * k, none⟩ v).setCell ⟨w.heap.size + 1 + 1, 2 * k + 1, none⟩ v2)) := fun v v2 => ⟨(hB.setOther (by omega) _ _).setOther (by omega) _ _, (hb.setCell (by simp; omega) _).setCell (by simp; omega) _⟩
        have k2 : ((2 : Int) * (k : Int)).toNat = 2 * k := by omega
        have k3 : ((2 : Int) * (k : Int) + 1).toNat = 2 * k + 1 := by omega
        clear hA hB hb hst hst0 hset hlen hmore hok hn
        generalize hN : intAt l k = N at *
        go_wp2
        go_roundw
        case rel => exact ⟨k + 1, by omega, by go_num, HM.out, HS.out, (HQ.out _ _).1, (HQ.out _ _).2⟩
        case measure => simp [intOf]; omega
      · have hno : okI l = false := by
          refine okI_part (k + 1) ?_
          rw [hmore]
          by_cases h0 : 0 ≤ intAt l k
          · rw [decide_eq_true h0, decide_eq_false (fun h => hin ⟨h0, h⟩)]; rfl
          · rw [decide_eq_false h0]; rfl
        have hz : ofL l = List.replicate 16 0 := by unfold ofL; rw [hno]; rfl
        have HNO := Lib.hid (And.intro hno hz)
        have HB := Lib.hid hB
        have HBB := Lib.hid hb
        clear hno hz hmore hok hA hB hb
        generalize intAt l k = N at *
        by_cases h0 : 0 ≤ N
        · have h1 : ¬ N ≤ 65535 := fun h => hin ⟨h0, h⟩
          clear hin
          go_wp2_with (refine wpList_store_arrT rfl (.tmp 2) (.tmp 18) rfl (w.heap.size + 1) (List.replicate 16 0) arr16 (List.replicate 16 0) rfl rfl HB.out rfl ?_)
          exact bodyPost_ret (results_arrT2 Tryd.results68 _ _ (w.heap.size + 1) (List.replicate 16 0) arr16 rfl (arrT_setRow HB.out _)) rfl ⟨by rw [HNO.out.1, HNO.out.2]; rfl, below_setRow HBB.out (by omega) _⟩
        · clear hin
          go_wp2_with (refine wpList_store_arrT rfl (.tmp 2) (.tmp 18) rfl (w.heap.size + 1) (List.replicate 16 0) arr16 (List.replicate 16 0) rfl rfl HB.out rfl ?_)
          exact bodyPost_ret (results_arrT2 Tryd.results68 _ _ (w.heap.size + 1) (List.replicate 16 0) arr16 rfl (arrT_setRow HB.out _)) rfl ⟨by rw [HNO.out.1, HNO.out.2]; rfl, below_setRow HBB.out (by omega) _⟩
    · have hk8 : k = 8 := by omega
      subst hk8
      rw [ofill_full _ HL.out] at hA
      rw [List.take_of_length_le (by rw [HL.out]; exact Nat.le_refl _)] at hok
      have hz : ofL l = ofB l := by unfold ofL; rw [hok]; rfl
      have HOK := Lib.hid (And.intro hok hz)
      have HLB : Hid ((ofB l).length = 16) := by show (ofB l).length = 16; rw [ofB_length, HL.out]
      have HA := Lib.hid hA
      have HB := Lib.hid hB
      have HBB := Lib.hid hb
      clear hok hz hA hB hb
      generalize hL : ofB l = L at *
      clear hL
      go_wp2_with (first | (refine wpList_load_arrT rfl (.tmp 4) rfl (w.heap.size + 1 + 1) L (by rw [HLB.out]; exact arr16) rfl HA.out ?_) | (refine wpList_store_arrT rfl (.tmp 2) (.tmp 32) rfl (w.heap.size + 1) L (by rw [HLB.out]; exact arr16) (List.replicate 16 0) rfl rfl HB.out (by rw [HLB.out]; rfl) ?_))
      exact bodyPost_ret (results_arrT2 Tryd.results68 _ _ (w.heap.size + 1) L (by rw [HLB.out]; exact arr16) rfl (arrT_setRow HB.out _)) rfl ⟨by rw [HOK.out.1, HOK.out.2]; rfl, below_setRow HBB.out (by omega) _⟩
section
/-- v is a slice whose elements are the ints l, in the world w. -/
def IsI (w : World) (v : Value) (l : List Int) : Prop :=
  ∃ a cap, v = .slice a l.length cap ∧ l.length ≤ cap ∧ cap ≤ maxLen ∧
    (0 < l.length → ∃ b off, a = some ⟨b, off, none⟩ ∧ b < w.heap.size ∧ ∀ i, i < l.length → w.cell? ⟨b, off + i, none⟩ = some (.int .i64 (intAt l i)))
theorem IsI.below {w w' : World} {v : Value} {l : List Int} (h : IsI w v l) (hb : Below w.heap.size w w') : IsI w' v l := by
  obtain ⟨a, cap, rfl, h1, h2, h3⟩ := h
  refine ⟨a, cap, rfl, h1, h2, fun hp => ?_⟩
  obtain ⟨b, off, rfl, hlt, hc⟩ := h3 hp
  exact ⟨b, off, rfl, Nat.lt_of_lt_of_le hlt hb.size, fun i hi => (hb.cell (p := ⟨b, off + i, none⟩) hlt).trans (hc i hi)⟩
theorem intAt_drop (l : List Int) (k i : Nat) : intAt (l.drop k) i = intAt l (k + i) := by simp [intAt, List.getD]
theorem intAt_take (l : List Int) (k i : Nat) (h : i < k) : intAt (l.take k) i = intAt l i := by simp [intAt, List.getD, h]
variable {t : TypeId}
theorem IntT.tailI {w : World} {g : Nat} {c : List Int} {n : Nat} (h : IntT t w g c) (hn : c.length = n) (k : Nat) (hk : k ≤ n) (hc : n ≤ 1000) : IsI w (.slice (some (if n = k then ⟨g, 0, none⟩ else ⟨g, k, none⟩)) (n - k) (n - k)) (c.drop k) := by
  subst hn
  refine ⟨_, c.length - k, by rw [List.length_drop], by rw [List.length_drop]; exact Nat.le_refl _, by unfold maxLen; omega, fun hp => ?_⟩
  rw [List.length_drop] at hp
  refine ⟨g, k, by rw [if_neg (by omega)], h.lt, fun i hi => ?_⟩
  rw [List.length_drop] at hi
  rw [intAt_drop]
  exact h.cell (k + i) (by omega)
theorem IntT.headI {w : World} {g : Nat} {c : List Int} {n : Nat} (h : IntT t w g c) (hn : n ≤ c.length) (k : Nat) (hk : k ≤ n) (hc : n ≤ 1000) : IsI w (.slice (some ⟨g, 0, none⟩) k n) (c.take k) := by
  have e : (c.take k).length = k := by simp; omega
  refine ⟨_, n, by rw [e], by omega, by unfold maxLen; omega, fun _ => ⟨g, 0, rfl, h.lt, fun i hi => ?_⟩⟩
  rw [e] at hi
  rw [intAt_take _ _ _ hi, Nat.zero_add]
  exact h.cell i (by omega)
theorem natsI_take (g : List Nat) (k : Nat) : (natsI g).take k = natsI (g.take k) := by simp [natsI]
theorem natsI_drop (g : List Nat) (k : Nat) : (natsI g).drop k = natsI (g.drop k) := by simp [natsI]
theorem natsI_at (g : List Nat) (k : Nat) : intAt (natsI g) k = (g.getD k 0 : Nat) := by
  unfold intAt natsI
  by_cases h : k < g.length
  · simp [List.getD, h]
  · simp [List.getD, h]
theorem zOf_at (g : List Nat) (k : Nat) (hk : k < g.length) : (zOf g).getD k false = decide (g.getD k 0 = 0) := by
  simp [zOf, List.getD, hk]
set_option maxRecDepth 100000 in
set_option maxHeartbeats 4000000 in
theorem longest_any (g : List Nat) (w : World) (hg : g.length = 8) :
    Calls Tryd.prog 47 #[intV (natsI g)] w fun r w' => r = .returned (.tuple #[.int .i64 ((lgF (zOf g) 8).at' : Int), .int .i64 ((lgF (zOf g) 8).size : Int)]) ∧ Below w.heap.size w w' := by
  have hnl : (natsI g).length = 8 := by rw [natsI_length, hg]
  have z0 : IntT 60 (w.alloc (.cells (intVals (natsI g)).toArray 60)) w.heap.size (natsI g) := intT_new w _
  have zb : Below w.heap.size w (w.alloc (.cells (intVals (natsI g)).toArray 60)) := (Below.refl _ _).alloc (Nat.le_refl _) _
  have Z := Lib.hid (And.intro z0 zb)
  have HL := Lib.hid hnl
  have HIX := Lib.hid (fun (W : World) (k : Nat) (hk : k < 8) => index_intV ints8.row W (natsI g) k (by rw [hnl]; exact hk) hnl)
  have HAT := Lib.hid (natsI_at g)
  have HZ := Lib.hid (fun k (hk : k < 8) => zOf_at g k (by omega))
  have HLE := Lib.hid (lgF_le (zOf g))
  have HST : Hid (∀ k, lgF (zOf g) (k + 1) = lgStep k (lgF (zOf g) k) ((zOf g).getD k false)) := fun k => rfl
  rw [show intV (natsI g) = .agg (intVals (natsI g)).toArray from rfl]
  clear z0 zb hnl
  go_enter Tryd.func47, Tryd.ntmps47
  go_wp2_with (refine wpList_load_intT rfl (.tmp 1) rfl w.heap.size (natsI g) (by rw [HL.out]; exact ints8.isRow) rfl Z.out.1 ?_)
  go_loop [4, 5, 6, 10] (fun a s r i => ∃ k : Nat, k ≤ 8 ∧ i = .int .i64 (k : Int) ∧ a = .int .i64 ((lgF (zOf g) k).at' : Int) ∧ s = .int .i64 ((lgF (zOf g) k).size : Int) ∧ r = .int .i64 ((lgF (zOf g) k).run : Int)) (fun _ _ _ i => 8 - (intOf i).toNat)
  case atStart => exact ⟨0, by omega, rfl, rfl, rfl, rfl⟩
  case round =>
    obtain ⟨k, hk, rfl, rfl, rfl, rfl⟩ := hrel
    by_cases hlt : k < 8
    · have hix := fun W => HIX.out W k hlt
      rw [HAT.out k] at hix
      have hle := HLE.out k
      have hst := HST.out k
      rw [HZ.out k hlt] at hst
      generalize lgF (zOf g) k = S at *
      obtain ⟨A, Z', R⟩ := S
      simp only at hle hst
      generalize g.getD k 0 = N at *
      by_cases hN : N = 0
      · subst hN
        by_cases hs : Z' < R + 1
        · have e : lgF (zOf g) (k + 1) = ⟨k + 1 - (R + 1), R + 1, R + 1⟩ := by rw [hst]; simp [lgStep, hs]
          have HE := Lib.hid e
          clear e hst
          go_wp2
          go_round
          case rel => exact ⟨k + 1, by omega, by go_num, by rw [HE.out]; go_num, by rw [HE.out]; go_num, by rw [HE.out]; go_num⟩
          case measure => simp [intOf]; omega
        · have e : lgF (zOf g) (k + 1) = ⟨A, Z', R + 1⟩ := by rw [hst]; simp [lgStep, hs]
          have HE := Lib.hid e
          clear e hst
          go_wp2
          go_round
          case rel => exact ⟨k + 1, by omega, by go_num, by rw [HE.out], by rw [HE.out], by rw [HE.out]; go_num⟩
          case measure => simp [intOf]; omega
      · have e : lgF (zOf g) (k + 1) = ⟨A, Z', 0⟩ := by rw [hst]; simp [lgStep, hN]
        have HE := Lib.hid e
        have hN2 : ¬ (N : Int) = 0 := by omega
        clear e hst
        go_wp2
        go_round
        case rel => exact ⟨k + 1, by omega, by go_num, by rw [HE.out], by rw [HE.out], by rw [HE.out]; rfl⟩
        case measure => simp [intOf]; omega
    · have hk8 : k = 8 := by omega
      subst hk8
      go_wp2
      go_ret2
      exact ⟨rfl, Z.out.2⟩
theorem colJ_one (g : List Nat) (h : 0 < g.length) : colJ (g.take 1) = hexG (g.getD 0 0) := by
  rcases g with _ | ⟨n, g⟩
  · simp at h
  · rfl
theorem colJ_more (g : List Nat) (k : Nat) (hk : k < g.length) (h0 : 0 < k) : colJ (g.take (k + 1)) = colJ (g.take k) ++ 58 :: hexG (g.getD k 0) := by
  have e : g.take (k + 1) = g.take k ++ [g.getD k 0] := by
    rw [List.take_add_one]
    simp [List.getD, hk]
  unfold colJ
  rw [e, List.map_append, List.map_cons, List.map_nil, joinB_snoc _ _ _ (by
    intro h
    have := congrArg List.length h
    simp only [List.length_map, List.length_take, List.length_nil] at this
    omega)]
theorem colJ_len (g : List Nat) (h : g.length ≤ 8) : (colJ g).length ≤ 40 := by
  have := (colJ_length g).1
  omega
theorem IsI.cells {w : World} {a : Option Addr} {l : List Int} {n cap : Nat} (h : IsI w (.slice a n cap) l) :
    n = l.length ∧ l.length ≤ cap ∧ cap ≤ maxLen ∧ ∀ k, k < l.length → ∃ b off, a = some ⟨b, off, none⟩ ∧ b < w.heap.size ∧ w.cell? ⟨b, off + k, none⟩ = some (.int .i64 (intAt l k)) := by
  obtain ⟨a2, cap2, he, h1, h2, h3⟩ := h
  simp only [Value.slice.injEq] at he
  obtain ⟨rfl, rfl, rfl⟩ := he
  refine ⟨rfl, h1, h2, fun k hk => ?_⟩
  obtain ⟨b, off, rfl, hlt, hc⟩ := h3 (by omega)
  exact ⟨b, off, rfl, hlt, hc k hk⟩
set_option maxRecDepth 100000 in
set_option maxHeartbeats 4000000 in
theorem join_any (a : Option Addr) (n cap : Nat) (g : List Nat) (w : World) (hE : Env w) (hI : IsI w (.slice a n cap) (natsI g)) (hg : g.length ≤ 8) (hle : ∀ n ∈ g, n ≤ 65535) :
    Calls Tryd.prog 48 #[.slice a n cap] w fun r w' => r = .returned (.string ⟨(colJ g).toArray⟩) ∧ Below w.heap.size w w' := by
  obtain ⟨rfl, h1, h2, h3⟩ := hI.cells
  rw [natsI_length] at *
  have HC := Lib.hid h3
  have HLE : Hid (∀ k, k < g.length → g.getD k 0 ≤ 65535) := fun k hk => hle _ (by simp [List.getD, hk])
  have HLN : Hid (∀ k, (colJ (g.take k)).length ≤ 40) := fun k => colJ_len _ (by simp; omega)
  have HGN : Hid (∀ k, (hexG k).length ≤ 4) := hexG_length
  have HE := Lib.hid hE
  have H1 := Lib.hid (colJ_one g)
  have HM := Lib.hid (colJ_more g)
  clear h3 hI hle hE
  go_enter Tryd.func48, Tryd.ntmps48
  go_wp2
  go_loopw [3, 8] (fun s i wr => ∃ k : Nat, k ≤ g.length ∧ i = .int .i64 (k : Int) ∧ s = .string ⟨(colJ (g.take k)).toArray⟩ ∧ Below w.heap.size w wr) (fun _ i _ => g.length - (intOf i).toNat)
  case atStart => exact ⟨0, by omega, rfl, rfl, Below.refl _ _⟩
  case round =>
    obtain ⟨k, hk, rfl, rfl, hb⟩ := hrel
    by_cases hlt : k < g.length
    · obtain ⟨b, off, rfl, hal, hcell⟩ := HC.out k hlt
      have hcell2 : wr.cell? ⟨b, off + k, none⟩ = some (.int .i64 ((g.getD k 0 : Nat) : Int)) := by
        rw [hb.cell (p := ⟨b, off + k, none⟩) hal, hcell, natsI_at]
      have HF := Lib.hid (fmt16_any (g.getD k 0) (HLE.out k hlt) wr (HE.out.below hb (Nat.le_refl _)))
      have l1 := HLN.out k
      have l2 := HGN.out (g.getD k 0)
      have HB := Lib.hid hb
      by_cases h0 : k = 0
      · have hT0 : colJ (g.take k) = [] := by rw [h0]; rfl
        have e : colJ (g.take (k + 1)) = hexG (g.getD k 0) := by rw [h0]; exact H1.out (by omega)
        have HX := Lib.hid e
        have hk0 : ¬ (0 : Int) < (k : Int) := by omega
        clear e hb hcell
        generalize g.getD k 0 = N at *
        rw [hT0] at l1 ⊢
        clear hT0 h0
        go_wp2_with (go_at_call 63; refine HF.out.mono ?_; rintro e w1 ⟨rfl, bb⟩)
        go_roundw
        case rel => exact ⟨k + 1, by omega, by go_num, congrArg Value.string (by rw [HX.out]; exact str_append [] (hexG N)), below_up HB.out bb HB.out.size⟩
        case measure => simp [intOf]; omega
      · have e := HM.out k hlt (by omega)
        have HX := Lib.hid e
        have hk0 : (0 : Int) < (k : Int) := by omega
        clear e hb hcell
        generalize g.getD k 0 = N at *
        generalize hT : colJ (g.take k) = T at *
        clear hT
        go_wp2_with (go_at_call 63; refine HF.out.mono ?_; rintro e w1 ⟨rfl, bb⟩)
        go_roundw
        case rel => exact ⟨k + 1, by omega, by go_num, congrArg Value.string (by rw [HX.out, show (⟨#[58]⟩ : ByteArray) = ⟨[58].toArray⟩ from rfl, str_append, str_append]; simp), below_up HB.out bb HB.out.size⟩
        case measure => simp [intOf]; omega
    · have hkn : k = g.length := by omega
      subst hkn
      rw [List.take_of_length_le (Nat.le_refl _)]
      have HB := Lib.hid hb
      clear hb
      go_wp2
      go_ret
      exact ⟨rfl, HB.out⟩
end
/-- The text of an address. -/
def showA (a : List UInt8) : List UInt8 := showC (grpN a)
/-- What is held while a text is shown. -/
def ShowS (w : World) (g : Nat) (L : List Int) (W : World) : Prop := IntT 60 W g L ∧ Env W ∧ Below w.heap.size w W
theorem ShowS.up {w : World} {g : Nat} {L : List Int} {W W' : World} (h : ShowS w g L W) (hb : Below W.heap.size W W') : ShowS w g L W' :=
  ⟨h.1.up hb, h.2.1.up hb, below_up h.2.2 hb h.2.2.size⟩
set_option maxRecDepth 100000 in
set_option maxHeartbeats 4000000 in
theorem show_any (a : List UInt8) (w : World) (hE : Env w) (ha : a.length = 16) :
    Calls Tryd.prog 29 #[arrV a] w fun r w' => r = .returned (.string ⟨(showA a).toArray⟩) ∧ Below w.heap.size w w' := by
  have z0 : ArrT 22 (w.alloc (.cells (byteVals a).toArray 22)) w.heap.size a := arrT_new w a
  have zb : Below w.heap.size w (w.alloc (.cells (byteVals a).toArray 22)) := (Below.refl _ _).alloc (Nat.le_refl _) _
  have Z := Lib.hid (And.intro z0 (And.intro zb (hE.up zb)))
  have HA := Lib.hid ha
  have HG := Lib.hid (fun W => groups_any a W ha)
  have hgl := grpN_length a
  have hgle := grpN_le a
  have HSH := Lib.hid (showC_lg (grpN a) hgl)
  have HSA : Hid (showA a = showC (grpN a)) := rfl
  rw [show arrV a = .agg (byteVals a).toArray from rfl]
  clear z0 zb hE
  have HLG := Lib.hid (fun W => longest_any (grpN a) W hgl)
  have hat := (lgF_le (zOf (grpN a)) 8).1
  generalize lgF (zOf (grpN a)) 8 = S at *
  obtain ⟨T, Z', R⟩ := S
  simp only at hat HLG
  have HSH2 : Hid (showA a = if Z' < 2 then colJ (grpN a) else colJ ((grpN a).take T) ++ 58 :: 58 :: colJ ((grpN a).drop (T + Z'))) := by
    show _ = _
    rw [HSA.out, HSH.out]
  clear HSH HSA
  generalize showA a = V at *
  generalize grpN a = g at *
  have hnl : (natsI g).length = 8 := by rw [natsI_length, hgl]
  have HNL := Lib.hid hnl
  have HGL := Lib.hid hgl
  have HGLE := Lib.hid hgle
  clear hnl hgl hgle
  go_enter Tryd.func29, Tryd.ntmps29
  go_wp2_with (first | (refine wpList_load_arrT rfl (.tmp 1) rfl w.heap.size a (by rw [HA.out]; exact arr16) rfl Z.out.1 ?_) | (go_at_call 46; refine (HG.out _).mono ?_; rintro e w1 ⟨rfl, b1⟩; refine Hid.out ?_))
  refine Lib.hid ?_
  have s1 : ShowS w w1.heap.size (natsI g) (w1.alloc (.cells (intVals (natsI g)).toArray 60)) := by
    have hb1 := below_up Z.out.2.1 b1 Z.out.2.1.size
    exact ⟨intT_new w1 _, (Z.out.2.2.up b1).up ((Below.refl _ _).alloc (Nat.le_refl _) _), hb1.alloc hb1.size _⟩
  have S1 := Lib.hid s1
  clear s1 b1 Z HG
  have HSL := Lib.hid (fun W => slice_all ints8.row size_int W w1.heap.size)
  by_cases hz : Z' < 2
  · have hv := HSH2.out
    rw [if_pos hz] at hv
    have HV := Lib.hid hv
    have hz2 : (Z' : Int) < 2 := by omega
    have hsl := HSL.out
    clear hv HSH2
    go_wp2_with (first | (refine wpList_store_newI rfl (.tmp 3) (.tmp 7) rfl (natsI g) (by rw [HNL.out]; exact ints8.isRow) _ rfl rfl (by rw [HNL.out]; rfl) ?_) | (refine wpList_load_intT rfl (.tmp 3) rfl w1.heap.size (natsI g) (by rw [HNL.out]; exact ints8.isRow) rfl S1.out.1 ?_) | (go_at_call 47; refine (HLG.out _).mono ?_; rintro e w2 ⟨rfl, b2⟩) | (go_at_call 48; refine (join_any _ _ _ g _ (S1.out.up b2).2.1 (by have h := (S1.out.up b2).1.headI (n := 8) (by rw [HNL.out]; exact Nat.le_refl _) 8 (by omega) (by omega); rw [List.take_of_length_le (by rw [HNL.out]; exact Nat.le_refl _)] at h; exact h) (by rw [HGL.out]; exact Nat.le_refl _) HGLE.out).mono ?_; rintro e w3 ⟨rfl, b3⟩))
    go_ret
    exact ⟨by rw [HV.out]; rfl, ((S1.out.up b2).up b3).2.2⟩
  · have hv := HSH2.out
    rw [if_neg hz] at hv
    have HV := Lib.hid hv
    have hz2 : ¬ (Z' : Int) < 2 := by omega
    clear hv HSH2
    go_wp2_with (first | (refine wpList_store_newI rfl (.tmp 3) (.tmp 7) rfl (natsI g) (by rw [HNL.out]; exact ints8.isRow) _ rfl rfl (by rw [HNL.out]; rfl) ?_) | (refine wpList_load_intT rfl (.tmp 3) rfl w1.heap.size (natsI g) (by rw [HNL.out]; exact ints8.isRow) rfl S1.out.1 ?_) | (go_at_call 47; refine (HLG.out _).mono ?_; rintro e w2 ⟨rfl, b2⟩) | fail)
    have S2 := S1.out.up b2
    clear b2 HLG S1
    have hs1 := fun W => slice_to ints8.row size_int W w1.heap.size T (by omega)
    have hw : IntKind.i64.wrap ((T : Int) + (Z' : Int)) = ((T + Z' : Nat) : Int) := by rw [IntKind.wrap_i64]; omega
    have hs2 := fun W => slice_from ints8.row size_int W w1.heap.size (T + Z') hat
    obtain ⟨E, hEE⟩ : ∃ E, T + Z' = E := ⟨_, rfl⟩
    rw [hEE] at hw hs2 HV hat
    obtain ⟨AD, hAD⟩ : ∃ AD : Addr, (if 8 = E then (⟨w1.heap.size, 0, none⟩ : Addr) else ⟨w1.heap.size, E, none⟩) = AD := ⟨_, rfl⟩
    rw [hAD] at hs2
    have HAD := Lib.hid hAD
    clear hAD
    have hadd : (T : Int) + (Z' : Int) = (E : Int) := by omega
    have hwE : IntKind.i64.wrap (E : Int) = (E : Int) := by rw [IntKind.wrap_i64]; omega
    have l1 : (colJ (g.take T)).length ≤ 40 := colJ_len _ (by rw [List.length_take, HGL.out]; omega)
    have l2 : (colJ (g.drop E)).length ≤ 40 := colJ_len _ (by rw [List.length_drop, HGL.out]; omega)
    refine wp_region_noPanic ?_
    refine wp_region_held_drew (S := ShowS w w1.heap.size (natsI g)) (by kernel_rfl) ⟨S2.1, ⟨S2.2.1.max, S2.2.1.maxLt, S2.2.1.tz, S2.2.1.tzLt⟩, S2.2.2.drew⟩ (fun hHeld => ?_)
    refine held_take (v := ?v570) 0 rfl (by kernel_rfl) (by kernel_rfl) (by kernel_rfl) (fun _ _ _ h => h) (by rfl) ?y570 (by assumption) ?_
    case y570 => (intro w hSw; unfold ShowS at hSw; go_simp; (try with_reducible rfl); (try omega))
    simp only [List.setIfInBounds_toArray, List.set_cons_zero, List.set_cons_succ]
    refine held_take (v := ?v573) 1 rfl (by kernel_rfl) (by kernel_rfl) (by kernel_rfl) (fun _ _ _ h => h) (by rfl) ?y573 (by assumption) ?_
    case y573 => (intro w hSw; unfold ShowS at hSw; go_simp; (try with_reducible rfl); (try omega))
    simp only [List.setIfInBounds_toArray, List.set_cons_zero, List.set_cons_succ]
    refine held_take (v := ?v576) 4 rfl (by kernel_rfl) (by kernel_rfl) (by kernel_rfl) (fun _ _ _ h => h) (by rfl) ?y576 (by assumption) ?_
    case y576 => (intro w hSw; unfold ShowS at hSw; go_simp; (try with_reducible rfl); (try omega))
    simp only [List.setIfInBounds_toArray, List.set_cons_zero, List.set_cons_succ]
    refine held_take (v := ?v579) 5 rfl (by kernel_rfl) (by kernel_rfl) (by kernel_rfl) (fun _ _ _ h => h) (by rfl) ?y579 (by assumption) ?_
    case y579 => (intro w hSw; unfold ShowS at hSw; go_simp; (try with_reducible rfl); (try omega))
    simp only [List.setIfInBounds_toArray, List.set_cons_zero, List.set_cons_succ]
    refine held_take (v := ?v582) 6 rfl (by kernel_rfl) (by kernel_rfl) (by kernel_rfl) (fun _ _ _ h => h) (by rfl) ?y582 (by assumption) ?_
    case y582 => (intro w hSw; unfold ShowS at hSw; go_simp; (try with_reducible rfl); (try omega))
    simp only [List.setIfInBounds_toArray, List.set_cons_zero, List.set_cons_succ]
    refine held_take (v := ?v585) 7 rfl (by kernel_rfl) (by kernel_rfl) (by kernel_rfl) (fun _ _ _ h => h) (by rfl) ?y585 (by assumption) ?_
    case y585 => (intro w hSw; unfold ShowS at hSw; go_simp; (try with_reducible rfl); (try omega))
    simp only [List.setIfInBounds_toArray, List.set_cons_zero, List.set_cons_succ]
    refine held_one 2 rfl (by kernel_rfl) (by rfl) (fun K hK => ?_)
    go_simp
    refine (join_any _ _ _ (g.take T) _ hHeld.2.1 (by
      have h := hHeld.1.headI (n := 8) (by rw [HNL.out]; exact Nat.le_refl _) T (by omega) (by omega)
      rw [natsI_take] at h
      exact h) (by rw [List.length_take, HGL.out]; omega) (fun n hn => HGLE.out n (List.mem_of_mem_take hn))).mono ?_
    rintro e w3 ⟨rfl, b3⟩
    refine hK.out _ _ (hHeld.up b3) (fun hHeld3 => ?_)
    clear hK K hHeld b3
    refine held_take (v := .string ⟨(colJ (g.take T) ++ [58, 58]).toArray⟩) 3 rfl (by kernel_rfl) (by kernel_rfl) (by kernel_rfl) (fun _ _ _ h => h) (by rfl) (fun W _ => exec_cat (.tmp 19) (.const (.string ⟨#[58, 58]⟩)) _ rfl (colJ (g.take T)) [58, 58] _ rfl rfl rfl (by simp; omega)) (by assumption) ?_
    simp only [List.setIfInBounds_toArray, List.set_cons_zero, List.set_cons_succ]
    refine held_one 8 rfl (by kernel_rfl) (by rfl) (fun K hK => ?_)
    go_simp
    refine (join_any _ _ _ (g.drop E) _ hHeld3.2.1 (by
      have h := hHeld3.1.tailI HNL.out E (by omega) (by omega)
      rw [natsI_drop, HAD.out] at h
      exact h) (by rw [List.length_drop, HGL.out]; omega) (fun n hn => HGLE.out n (List.mem_of_mem_drop hn))).mono ?_
    rintro e w4 ⟨rfl, b4⟩
    refine hK.out _ _ (hHeld3.up b4) (fun hHeld4 => ?_)
    clear hK K hHeld3 b4
    refine held_take (v := .string ⟨V.toArray⟩) 9 rfl (by kernel_rfl) (by kernel_rfl) (by kernel_rfl) (fun _ _ _ h => h) (by rfl) (fun W _ => exec_cat (.tmp 20) (.tmp 25) _ rfl (colJ (g.take T) ++ [58, 58]) (colJ (g.drop E)) V rfl rfl (by rw [HV.out]; simp) (by rw [HV.out]; simp; omega)) (by assumption) ?_
    simp only [List.setIfInBounds_toArray, List.set_cons_zero, List.set_cons_succ]
    refine held_take (v := ?v610) 10 rfl (by kernel_rfl) (by kernel_rfl) (by kernel_rfl) (fun _ _ _ h => h) (by rfl) ?y610 (by assumption) ?_
    case y610 => (intro w hSw; unfold ShowS at hSw; go_simp; (try with_reducible rfl); (try omega))
    simp only [List.setIfInBounds_toArray, List.set_cons_zero, List.set_cons_succ]
    refine wpAnyH_done (by kernel_rfl) ?_ _
    refine NoPanic.normal ?_
    go_wp2
    go_ret
    exact ⟨rfl, hHeld4.2.2⟩
theorem neq_arrV {t : TypeId} {n : Nat} (ht : IsArr t n) (x y : Operand) (l m : List UInt8) (hl : l.length = n) (hm : m.length = n) (W : World) :
    (do eqGuard .neq t x y (arrV l) (arrV m); binOp .neq t (arrV l) (arrV m) : Sem Value).run Tryd.prog W = .ok (.bool (!decide (l = m))) W := by
  have h := eq_arrV ht 9998 l m hl hm W
  have hg := ht.guard
  unfold arrV at *
  go_simp
theorem exec_neq_arr {t : TypeId} {n : Nat} {ρ : Operand → Value} {o : Oper} {W : World} (ht : IsArr t n) (x y : Operand) (ty : TypeId) (ho : o.op = .binOp .neq t x y ty) (l m : List UInt8) (hl : l.length = n) (hm : m.length = n) (hx : ρ x = arrV l) (hy : ρ y = arrV m) :
    (execOp ρ o).run Tryd.prog W = .ok (.value (.bool (!decide (l = m)))) W := by
  have := neq_arrV ht x y l m hl hm W
  unfold execOp
  simp only [ho, hx, hy, Sem.run_bind] at this ⊢
  rw [this]
  rfl
theorem wpList_neq_arrGB {ops : Array Oper} {rest : List Oper} {o : Oper} {a : Act} {w : World} {Q : Exit → Act → World → Prop} {t : TypeId} {n : Nat} (hw : Region.wanted o (yielded ops a.tmps) = true) (ht : IsArr t n) (x y : Operand) (ty : TypeId) (ho : o.op = .binOp .neq t x y ty) (l m : List UInt8) (hl : l.length = n) (hm : m.length = n) (b : Bool) (hb : (!decide (l = m)) = b) (hx : a.eval x = arrV l) (hy : a.eval y = arrV m)
    (hR : wpList Tryd.prog ops Q rest (a.put o.dst (.bool b)) w) : wpList Tryd.prog ops Q (o :: rest) a w := by
  subst hb
  exact wpList_wanted hw fun K hK => by
    unfold Oper.wp
    rw [exec_neq_arr ht x y ty ho l m hl hm hx hy]
    exact hK _ _ hR
def one16 : List UInt8 := [0, 0, 0, 0, 0, 0, 0, 0, 0, 0, 0, 0, 0, 0, 0, 1]
def multi7 (l : List UInt8) : Bool := decide (byteAt l 0 = 255)
def plain7 (l : List UInt8) : Bool := !multi7 l && !decide (l = List.replicate 16 0) && !decide (l = one16)
end Go.Proofs.YtlbgmpjeckigjaaDoor
