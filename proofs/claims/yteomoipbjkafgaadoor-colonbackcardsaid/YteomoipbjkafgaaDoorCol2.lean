/- Of of package colon. Proved: what it returns. -/
import Derived.Test.YteomoipbjkafgaaDoorCol1
namespace Go.Proofs.YteomoipbjkafgaaDoor
open Go Go.RowKit

def okI (l : List Int) : Bool := l.all fun n => decide (0 ≤ n) && decide (n ≤ 65535)
def two (n : Int) : List UInt8 := [UInt8.ofNat (n / 256).toNat, UInt8.ofNat (n % 256).toNat]
def ofB (l : List Int) : List UInt8 := l.flatMap two
def ofL (l : List Int) : List UInt8 := if okI l then ofB l else List.replicate 16 0
theorem ofB_length (l : List Int) : (ofB l).length = 2 * l.length := by
  induction l with
  | nil => rfl
  | cons n l ih => simp only [ofB, List.flatMap_cons, List.length_append, List.length_cons] at *; rw [ih]; simp [two]; omega
theorem ofL_length (l : List Int) (h : l.length = 8) : (ofL l).length = 16 := by
  unfold ofL
  split
  · rw [ofB_length, h]
  · simp
theorem okI_at {l : List Int} (h : okI l = true) (k : Nat) (hk : k < l.length) : 0 ≤ intAt l k ∧ intAt l k ≤ 65535 := by
  have := List.all_eq_true.1 h _ (List.getElem_mem hk)
  simp only [Bool.and_eq_true, decide_eq_true_eq] at this
  unfold intAt
  simp only [List.getD, List.getElem?_eq_getElem hk, Option.getD_some]
  exact this
theorem take_snocI (l : List Int) (k : Nat) (hk : k < l.length) : l.take (k + 1) = l.take k ++ [intAt l k] := by
  rw [List.take_add_one]
  simp [intAt, List.getD, hk]
theorem okI_more (l : List Int) (k : Nat) (hk : k < l.length) : okI (l.take (k + 1)) = (okI (l.take k) && (decide (0 ≤ intAt l k) && decide (intAt l k ≤ 65535))) := by
  rw [take_snocI l k hk]
  simp [okI]
theorem okI_part {l : List Int} (k : Nat) (h : okI (l.take k) = false) : okI l = false := by
  rw [Bool.eq_false_iff] at h ⊢
  intro ha
  exact h (List.all_eq_true.2 fun x hx => List.all_eq_true.1 ha x (List.mem_of_mem_take hx))
def ofill (l : List Int) (k : Nat) : List UInt8 := ofB (l.take k) ++ List.replicate (16 - 2 * k) 0
theorem ofill_length (l : List Int) (k : Nat) (hk : k ≤ 8) (hl : l.length = 8) : (ofill l k).length = 16 := by
  unfold ofill
  rw [List.length_append, ofB_length, List.length_take, List.length_replicate, hl]
  omega
theorem ofill_set (l : List Int) (k : Nat) (hk : k < 8) (hl : l.length = 8) : ((ofill l k).set (2 * k) (UInt8.ofNat (intAt l k / 256).toNat)).set (2 * k + 1) (UInt8.ofNat (intAt l k % 256).toNat) = ofill l (k + 1) := by
  unfold ofill
  have e1 : (ofB (l.take k)).length = 2 * k := by rw [ofB_length, List.length_take, hl]; omega
  rw [take_snocI l k (by omega), show ofB (l.take k ++ [intAt l k]) = ofB (l.take k) ++ two (intAt l k) by simp [ofB]]
  rw [show 16 - 2 * k = (16 - 2 * (k + 1)) + 1 + 1 by omega, List.replicate_succ, List.replicate_succ]
  rw [List.set_append, if_neg (by rw [e1]; omega), e1, Nat.sub_self, List.set_cons_zero, List.set_append, if_neg (by rw [e1]; omega), e1, show 2 * k + 1 - 2 * k = 1 by omega, List.set_cons_succ, List.set_cons_zero, List.append_assoc]
  rfl
theorem ofill_full (l : List Int) (hl : l.length = 8) : ofill l 8 = ofB l := by
  unfold ofill
  rw [List.take_of_length_le (by omega)]
  simp
set_option maxRecDepth 100000 in
set_option maxHeartbeats 4000000 in
theorem of_any (l : List Int) (w : World) (hl : l.length = 8) (hr : ∀ k, k < 8 → -9223372036854775808 ≤ intAt l k ∧ intAt l k ≤ 9223372036854775807) :
    Calls Tryd.prog 19 #[intV l] w fun r w' => r = .returned (.tuple #[arrV (ofL l), .bool (okI l)]) ∧ Below w.heap.size w w' := by
  generalize hW : (((w.alloc (.cells (intVals l).toArray 25)).alloc (.cells (byteVals (List.replicate 16 0)).toArray 22)).alloc (.cells (byteVals (List.replicate 16 0)).toArray 22)) = W
  have z0 : IntT 25 W w.heap.size l := by rw [← hW]; exact ((intT_new w l).allocO _).allocO _
  have z1 : ArrT 22 W (w.heap.size + 1) (List.replicate 16 0) := by
    have := (arrT_new (t := 22) (w.alloc (.cells (intVals l).toArray 25)) (List.replicate 16 0)).allocO (.cells (byteVals (List.replicate 16 0)).toArray 22)
    rw [World.size_alloc, hW] at this
    exact this
  have z2 : ArrT 22 W (w.heap.size + 1 + 1) (List.replicate 16 0) := by
    have := arrT_new (t := 22) ((w.alloc (.cells (intVals l).toArray 25)).alloc (.cells (byteVals (List.replicate 16 0)).toArray 22)) (List.replicate 16 0)
    rw [World.size_alloc, World.size_alloc, hW] at this
    exact this
  have zb : Below w.heap.size w W := by rw [← hW]; exact (((Below.refl _ _).alloc (Nat.le_refl _) _).alloc (by simp) _).alloc (by simp; omega) _
  have Z := Lib.hid (And.intro z0 (And.intro z1 (And.intro z2 zb)))
  rw [← hW, ← zero16'] at Z
  clear hW z0 z1 z2 zb
  clear W
  have HL := Lib.hid hl
  have HR := Lib.hid hr
  have HIX := Lib.hid (fun (W : World) (k : Nat) (hk : k < l.length) => index_intV ints8.row W l k hk hl)
  rw [show intV l = .agg (intVals l).toArray from rfl]
  clear hr hl
  go_enter Tryd.func19, Tryd.ntmps19
  go_wp2_with (refine wpList_load_intT rfl (.tmp 1) rfl w.heap.size l (by rw [HL.out]; exact ints8.isRow) rfl Z.out.1 ?_)
  go_loopw [8] (fun i wr => ∃ k : Nat, k ≤ 8 ∧ i = .int .i64 (k : Int) ∧ okI (l.take k) = true ∧ ArrT 22 wr (w.heap.size + 1 + 1) (ofill l k) ∧ ArrT 22 wr (w.heap.size + 1) (List.replicate 16 0) ∧ Below w.heap.size w wr) (fun i _ => 8 - (intOf i).toNat)
  case atStart => exact ⟨0, by omega, rfl, rfl, Z.out.2.2.1, Z.out.2.1, Z.out.2.2.2⟩
  case round =>
    obtain ⟨k, hk, rfl, hok, hA, hB, hb⟩ := hrel
    clear Z
    by_cases hlt : k < 8
    · have hix := fun W => HIX.out W k (by rw [HL.out]; exact hlt)
      have hn := HR.out k hlt
      have hmore := okI_more l k (by rw [HL.out]; exact hlt)
      rw [hok, Bool.true_and] at hmore
      by_cases hin : 0 ≤ intAt l k ∧ intAt l k ≤ 65535
      · have hset := ofill_set l k hlt HL.out
        obtain ⟨n0, n1⟩ := hin
        rw [decide_eq_true n0, decide_eq_true n1] at hmore
        have HM := Lib.hid hmore
        have hlen := ofill_length l k hk HL.out
        have hst0 := hA.store (2 * k) (intAt l k / 256) (UInt8.ofNat (intAt l k / 256).toNat) (by rw [UInt8.toNat_ofNat_of_lt' (show (intAt l k / 256).toNat < 256 by omega)]; omega)
        have hst := hst0.store (2 * k + 1) (intAt l k % 256) (UInt8.ofNat (intAt l k % 256).toNat) (by rw [UInt8.toNat_ofNat_of_lt' (show (intAt l k % 256).toNat < 256 by omega)]; omega)
        rw [hset] at hst
        have c0 := hA.cell (2 * k) (by omega)
        have f0 := hA.frozen (2 * k)
        have c1 := hst0.cell (2 * k + 1) (by rw [List.length_set]; omega)
        have f1 := hst0.frozen (2 * k + 1)
        have HS := Lib.hid hst
        have HQ : Hid (∀ v v2, ArrT 22 ((wr.setCell ⟨w.heap.size + 1 + 1, 2 * k, none⟩ v).setCell ⟨w.heap.size + 1 + 1, 2 * k + 1, none⟩ v2) (w.heap.size + 1) (List.replicate 16 0) ∧ Below w.heap.size w ((wr.setCell ⟨w.heap.size + 1 + 1, 2 * k, none⟩ v).setCell ⟨w.heap.size + 1 + 1, 2 * k + 1, none⟩ v2)) := fun v v2 => ⟨(hB.setOther (by omega) _ _).setOther (by omega) _ _, (hb.setCell (by simp; omega) _).setCell (by simp; omega) _⟩
        have k2 : ((2 : Int) * (k : Int)).toNat = 2 * k := by omega
        have k3 : ((2 : Int) * (k : Int) + 1).toNat = 2 * k + 1 := by omega
        clear hA hB hb hst hst0 hset hlen hmore hok hn
        generalize hN : intAt l k = N at *
        go_wp2
        go_roundw
        case rel => exact ⟨k + 1, by omega, by go_num, HM.out, HS.out, (HQ.out _ _).1, (HQ.out _ _).2⟩
        case measure => simp [intOf]; omega
      · have hno : okI l = false := by
          refine okI_part (k + 1) ?_
          rw [hmore]
          by_cases h0 : 0 ≤ intAt l k
          · rw [decide_eq_true h0, decide_eq_false (fun h => hin ⟨h0, h⟩)]; rfl
          · rw [decide_eq_false h0]; rfl
        have hz : ofL l = List.replicate 16 0 := by unfold ofL; rw [hno]; rfl
        have HNO := Lib.hid (And.intro hno hz)
        have HB := Lib.hid hB
        have HBB := Lib.hid hb
        clear hno hz hmore hok hA hB hb
        generalize intAt l k = N at *
        by_cases h0 : 0 ≤ N
        · have h1 : ¬ N ≤ 65535 := fun h => hin ⟨h0, h⟩
          clear hin
          go_wp2_with (refine wpList_store_arrT rfl (.tmp 2) (.tmp 18) rfl (w.heap.size + 1) (List.replicate 16 0) arr16 (List.replicate 16 0) rfl rfl HB.out rfl ?_)
          exact bodyPost_ret (results_arrT2 Tryd.results19 _ _ (w.heap.size + 1) (List.replicate 16 0) arr16 rfl (arrT_setRow HB.out _)) rfl ⟨by rw [HNO.out.1, HNO.out.2]; rfl, below_setRow HBB.out (by omega) _⟩
        · clear hin
          go_wp2_with (refine wpList_store_arrT rfl (.tmp 2) (.tmp 18) rfl (w.heap.size + 1) (List.replicate 16 0) arr16 (List.replicate 16 0) rfl rfl HB.out rfl ?_)
          exact bodyPost_ret (results_arrT2 Tryd.results19 _ _ (w.heap.size + 1) (List.replicate 16 0) arr16 rfl (arrT_setRow HB.out _)) rfl ⟨by rw [HNO.out.1, HNO.out.2]; rfl, below_setRow HBB.out (by omega) _⟩
    · have hk8 : k = 8 := by omega
      subst hk8
      rw [ofill_full _ HL.out] at hA
      rw [List.take_of_length_le (by rw [HL.out]; exact Nat.le_refl _)] at hok
      have hz : ofL l = ofB l := by unfold ofL; rw [hok]; rfl
      have HOK := Lib.hid (And.intro hok hz)
      have HLB : Hid ((ofB l).length = 16) := by show (ofB l).length = 16; rw [ofB_length, HL.out]
      have HA := Lib.hid hA
      have HB := Lib.hid hB
      have HBB := Lib.hid hb
      clear hok hz hA hB hb
      generalize hL : ofB l = L at *
      clear hL
      go_wp2_with (first | (refine wpList_load_arrT rfl (.tmp 4) rfl (w.heap.size + 1 + 1) L (by rw [HLB.out]; exact arr16) rfl HA.out ?_) | (refine wpList_store_arrT rfl (.tmp 2) (.tmp 32) rfl (w.heap.size + 1) L (by rw [HLB.out]; exact arr16) (List.replicate 16 0) rfl rfl HB.out (by rw [HLB.out]; rfl) ?_))
      exact bodyPost_ret (results_arrT2 Tryd.results19 _ _ (w.heap.size + 1) L (by rw [HLB.out]; exact arr16) rfl (arrT_setRow HB.out _)) rfl ⟨by rw [HOK.out.1, HOK.out.2]; rfl, below_setRow HBB.out (by omega) _⟩
end Go.Proofs.YteomoipbjkafgaaDoor
