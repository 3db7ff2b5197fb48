/- The small functions of package prefix. -/
import Derived.Test.YtecefdocemkliaaPre2
import Derived.Test.YtecefdocemkliaaArrI
import Derived.Test.YtecefdocemkliaaReg
import Derived.Lib.Hide
namespace Go.Proofs.Ytecefdocemkliaa
open Go Go.RowKit

theorem within_any (n m : Int) (w : World) : Calls Try.prog 41 #[.int .i64 n, .int .i64 m] w fun e w' => e = .returned (.int .i64 (max 0 (min n m))) ∧ w' = w := by
  go_enter Try.func41, Try.ntmps41
  go_wp2
  all_goals (go_ret; refine ⟨?_, rfl⟩; first | rfl | (refine congrArg Ending.returned (congrArg (Value.int .i64) (?_ : (_ : Int) = _)); omega))
theorem plongest_any (b : Bool) (w : World) : Calls Try.prog 42 #[.bool b] w fun e w' => e = .returned (.int .i64 (mostP b)) ∧ w' = w := by
  cases b <;> (go_enter Try.func42, Try.ntmps42; go_wp2; go_ret; exact ⟨rfl, rfl⟩)
theorem shl_mask : ∀ k : Fin 9, (255 * 2 ^ (8 - k.val) % 256 : Int) = ((256 - 2 ^ (8 - k.val) : Nat) : Int) := by decide +kernel
theorem mask_any (n i g : Nat) (hn : n ≤ 128) (hi : i < 16) (w : World) (hg : w.cell? ⟨g, 0, none⟩ = some (.int .i64 (n : Int))) :
    Calls Try.prog 49 #[.int .i64 (i : Int), .pointer (some ⟨g, 0, none⟩)] w fun e w' => e = .returned (.int .u8 ((256 - 2 ^ (8 - min 8 (n - 8 * i)) : Nat) : Int)) ∧ w' = w := by
  have hW := Lib.hid (fun m => within_any m 8)
  go_enter Try.func49, Try.ntmps49
  go_wp2_with (go_at_call 41; refine (hW.out _ _).mono ?_; rintro e w' ⟨rfl, rfl⟩)
  go_ret
  refine ⟨?_, rfl⟩
  have e1 : (8 - max 0 (min ((n : Int) - 8 * (i : Int)) 8)).toNat = 8 - min 8 (n - 8 * i) := by omega
  have e2 : ((255 * 2 ^ (8 - max 0 (min ((n : Int) - 8 * (i : Int)) 8)).toNat % 256 : Int)) = ((256 - 2 ^ (8 - min 8 (n - 8 * i)) : Nat) : Int) := by
    rw [e1]
    exact shl_mask ⟨min 8 (n - 8 * i), by omega⟩
  show Ending.returned (.int .u8 (255 * 2 ^ (8 - max 0 (min ((n : Int) - 8 * (i : Int)) 8)).toNat % 256)) = _
  rw [e2]
/-- What is kept of a byte, by a mask. -/
theorem and_mask : ∀ (k : Fin 9) (x : Fin 256), bits BinOp.and IntKind.u8 (x.val : Int) ((256 - 2 ^ (8 - k.val) : Nat) : Int) = ((x.val / 2 ^ (8 - k.val) * 2 ^ (8 - k.val) : Nat) : Int) := by decide +kernel
theorem maskB_and (x : UInt8) (k : Nat) (hk : k ≤ 8) : bits BinOp.and IntKind.u8 (x.toNat : Int) ((256 - 2 ^ (8 - k) : Nat) : Int) = ((maskB x k).toNat : Int) := by
  rw [maskB_toNat]
  exact and_mask ⟨k, by omega⟩ ⟨x.toNat, UInt8.toNat_lt x⟩
/-- An address whose first bytes are masked. -/
def mfill (l : List UInt8) (n k : Nat) : List UInt8 := (maskL l n).take k ++ l.drop k
theorem mfill_length (l : List UInt8) (n k : Nat) (hl : l.length = 16) (hk : k ≤ 16) : (mfill l n k).length = 16 := by
  unfold mfill
  rw [List.length_append, List.length_take, List.length_drop, maskL_length]
  omega
theorem mfill_full (l : List UInt8) (n : Nat) (hl : l.length = 16) : mfill l n 16 = maskL l n := by
  unfold mfill
  rw [List.take_of_length_le (by rw [maskL_length]; omega), List.drop_of_length_le (by omega), List.append_nil]
theorem mfill_at (l : List UInt8) (n k : Nat) (hk : k < 16) : (mfill l n k).getD k 0 = l.getD k 0 := by
  unfold mfill
  rw [List.getD, List.getD, List.getElem?_append_right (by rw [List.length_take, maskL_length]; omega), List.length_take, maskL_length, List.getElem?_drop, show k + (k - min k 16) = k by omega]
theorem maskL_at (l : List UInt8) (n k : Nat) (hk : k < 16) : (maskL l n)[k]? = some (maskB (l.getD k 0) (min 8 (n - 8 * k))) := by
  unfold maskL
  rw [List.getElem?_map, List.getElem?_range hk]
  rfl
theorem mfill_set (l : List UInt8) (n k : Nat) (hl : l.length = 16) (hk : k < 16) : (mfill l n k).set k (maskB (l.getD k 0) (min 8 (n - 8 * k))) = mfill l n (k + 1) := by
  apply List.ext_getElem?
  intro j
  unfold mfill
  rw [List.getElem?_set, List.getElem?_append, List.getElem?_append, List.length_append, List.length_take, List.length_take, List.length_drop, maskL_length, hl]
  by_cases h : k = j
  · subst h
    rw [if_pos rfl, if_pos (by omega), if_pos (by omega), List.getElem?_take, if_pos (by omega), maskL_at l n k hk]
  · rw [if_neg h]
    by_cases h2 : j < k
    · rw [if_pos (by omega), if_pos (by omega), List.getElem?_take, List.getElem?_take, if_pos h2, if_pos (by omega)]
    · rw [if_neg (by omega), if_neg (by omega), List.getElem?_drop, List.getElem?_drop]
      congr 1
      omega
/-- What is held in head. -/
def HeadZ (w : World) (n : Nat) (l : List UInt8) (W : World) : Prop := ArrT 30 W w.heap.size l ∧ W.heap[w.heap.size + 1]? = some (.cells #[.int .i64 (n : Int)] 3 (0, 0)) ∧ ArrT 30 W (w.heap.size + 1 + 1) (List.replicate 16 0) ∧ Below w.heap.size w W
theorem HeadZ.drew {w : World} {n : Nat} {l : List UInt8} {W : World} (h : HeadZ w n l W) : HeadZ w n l W.drew := ⟨h.1, h.2.1, h.2.2.1, h.2.2.2.drew⟩
theorem zero16P : (#[.int .u8 0, .int .u8 0, .int .u8 0, .int .u8 0, .int .u8 0, .int .u8 0, .int .u8 0, .int .u8 0, .int .u8 0, .int .u8 0, .int .u8 0, .int .u8 0, .int .u8 0, .int .u8 0, .int .u8 0, .int .u8 0] : Array Value) = (byteVals (List.replicate 16 0)).toArray := rfl
set_option maxRecDepth 100000 in
set_option maxHeartbeats 4000000 in
theorem head_any (l : List UInt8) (n : Nat) (w : World) (hl : l.length = 16) (hn : n ≤ 128) :
    Calls Try.prog 43 #[arrV l, .int .i64 (n : Int)] w fun r w' => r = .returned (arrV (maskL l n)) ∧ Below w.heap.size w w' := by
  generalize hW : (((w.alloc (.cells (byteVals l).toArray 30)).alloc (.cells #[.int .i64 (n : Int)] 3)).alloc (.cells (byteVals (List.replicate 16 0)).toArray 30)) = W
  have z : HeadZ w n l W := by
    refine ⟨?_, ?_, ?_, ?_⟩
    · rw [← hW]; exact ((arrT_new w l).allocO _).allocO _
    · rw [← hW]
      have := heap_alloc_new (w.alloc (.cells (byteVals l).toArray 30)) (.cells #[.int .i64 (n : Int)] 3)
      rw [World.size_alloc] at this
      exact (Below.heap_alloc _ _ _ (by simp)).trans this
    · have := arrT_new (t := 30) ((w.alloc (.cells (byteVals l).toArray 30)).alloc (.cells #[.int .i64 (n : Int)] 3)) (List.replicate 16 0)
      rw [World.size_alloc, World.size_alloc, hW] at this
      exact this
    · rw [← hW]; exact (((Below.refl _ _).alloc (Nat.le_refl _) _).alloc (by simp) _).alloc (by simp; omega) _
  have Z := Lib.hid z
  rw [← hW, ← zero16P] at Z
  clear hW z
  clear W
  rw [show arrV l = .agg (byteVals l).toArray from rfl]
  have HN := Lib.hid hn
  have HL := Lib.hid hl
  clear hl hn
  go_enter Try.func43, Try.ntmps43
  go_wp2
  go_loopw [8] (fun i wr => ∃ k : Nat, k ≤ 16 ∧ i = .int .i64 (k : Int) ∧ HeadZ w n (mfill l n k) wr) (fun i _ => 16 - (intOf i).toNat)
  case atStart => exact ⟨0, by omega, rfl, Z.out⟩
  case round =>
    obtain ⟨k, hk, rfl, hz⟩ := hrel
    clear Z
    by_cases hlt : k < 16
    · have hlt2 : (k : Int) < 16 := by omega
      have c1 := hz.1.cell k (by rw [mfill_length l n k HL.out hk]; omega)
      have f1 := hz.1.frozen k
      have HM := Lib.hid (fun W h => mask_any n k (w.heap.size + 1) HN.out hlt W h)
      have c2 : wr.cell? ⟨w.heap.size + 1, 0, none⟩ = some (.int .i64 (n : Int)) := by rw [cell_of_row wr _ 0 _ _ _ hz.2.1]; rfl
      rw [show byteAt (mfill l n k) k = ((l.getD k 0).toNat : Int) by unfold byteAt; rw [mfill_at l n k hlt]] at c1
      have hst := hz.1.store k ((maskB (l.getD k 0) (min 8 (n - 8 * k))).toNat : Int) _ rfl
      rw [mfill_set l n k HL.out hlt] at hst
      have hst2 : HeadZ w n (mfill l n (k + 1)) (wr.setCell ⟨w.heap.size, k, none⟩ (.int .u8 ((maskB (l.getD k 0) (min 8 (n - 8 * k))).toNat : Int))) :=
        ⟨hst, (Below.heap_setCell wr _ _ _ (fun e => by simp at e)).trans hz.2.1, hz.2.2.1.setOther (by omega) _ _, hz.2.2.2.setCell (by simp) _⟩
      have hand := maskB_and (l.getD k 0) (min 8 (n - 8 * k)) (by omega)
      have HZ := Lib.hid hst2
      clear hz hst hst2
      generalize l.getD k 0 = X at *
      generalize 256 - 2 ^ (8 - min 8 (n - 8 * k)) = M at *
      generalize maskB X (min 8 (n - 8 * k)) = Y at *
      go_wp2_with fail
      go_region_with (go_at_call 49; refine (HM.out _ (show wr.drew.cell? _ = _ from c2)).mono ?_; rintro e w' ⟨rfl, rfl⟩)
      all_goals go_wp2
      all_goals go_roundw
      case rel => exact ⟨k + 1, by omega, by go_num, HZ.out.drew⟩
      case measure => simp [intOf]; omega
      case rel => exact ⟨k + 1, by omega, by go_num, HZ.out.drew⟩
      case measure => simp [intOf]; omega
    · have h16 : k = 16 := by omega
      subst h16
      rw [mfill_full l n HL.out] at hz
      have HM := Lib.hid (maskL_length l n)
      have HZ := Lib.hid hz
      clear hz
      generalize hLL : maskL l n = L at *
      have HLL := Lib.hid hLL
      clear hLL
      go_wp2_with (first | (refine wpList_load_arrT rfl (.tmp 2) rfl w.heap.size L (by rw [HM.out]; exact arr16P) rfl HZ.out.1 ?_) | (refine wpList_store_arrT rfl (.tmp 4) (.tmp 20) rfl (w.heap.size + 1 + 1) L (by rw [HM.out]; exact arr16P) _ rfl rfl HZ.out.2.2.1 (by rw [HM.out]; rfl) ?_))
      exact bodyPost_ret (results_arrT Try.results43 _ _ (w.heap.size + 1 + 1) L (by rw [HM.out]; exact arr16P) rfl (arrT_setRow HZ.out.2.2.1 _)) rfl ⟨by rw [HLL.out], below_setRow HZ.out.2.2.2 (by omega) _⟩
end Go.Proofs.Ytecefdocemkliaa
