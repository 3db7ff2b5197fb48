/- The document's ip6: num, Address, Text. Proved: what each returns. -/
import Derived.Test.YtemocbcibnccpaaSix6
import Derived.Test.YtemocbcibnccpaaStr
import Derived.Test.YtemocbcibnccpaaRef1
import Derived.Test.YtemocbcibnccpaaAwake
namespace Go.Proofs.Ytemocbcibnccpaa
open Go Go.RowKit

set_option maxHeartbeats 1000000 in
theorem rnum6_any (l : List UInt8) (k m : Nat) (w : World) (hs : l.length ≤ 1000000) (hk : k + m ≤ l.length) (h1 : 1 ≤ m) (h4 : m ≤ 4) :
    Calls Try.prog 17 #[.string ⟨l.toArray⟩, .int .i64 (k : Int), .int .i64 (m : Int)] w fun r w' => r = .returned (.int .i64 (numAt l k m : Int)) ∧ w = w' := by
  have HG := Lib.hid (rget_l l k m w hs)
  rw [(getAt l k m hk h1 (by omega)).1, (getAt l k m hk h1 (by omega)).2] at HG
  have hle := numAt_lt l k m h4
  generalize numAt l k m = N at *
  clear hk hs h1 h4
  go_enter Try.func17, Try.ntmps17
  go_wp2_with (go_at_call 27; refine HG.out.mono ?_; rintro e w2 ⟨rfl, rfl⟩)
  go_ret
  exact ⟨ret_int (by go_num), rfl⟩

/-- Block g is an array of just these bytes, that may be written. -/
def ArrIs (w : World) (g : Nat) (c : List UInt8) : Prop := w.heap[g]? = some (.cells (byteVals c).toArray 24 (0, 0))
theorem ArrIs.cell {w : World} {g : Nat} {c : List UInt8} (h : ArrIs w g c) (i : Nat) (hi : i < c.length) : w.cell? ⟨g, i, none⟩ = some (.int .u8 (byteAt c i)) := by
  rw [cell_of_row w g i _ _ _ h]
  simpa using byteVals_getElem? c i hi
theorem ArrIs.frozen {w : World} {g : Nat} {c : List UInt8} (h : ArrIs w g c) (i : Nat) : w.frozen? ⟨g, i, none⟩ = false := frozen_of_row w g i _ _ h
theorem ArrIs.store {w : World} {g : Nat} {c : List UInt8} (h : ArrIs w g c) (i : Nat) (x : Int) (b : UInt8) (hx : x = (b.toNat : Int)) : ArrIs (w.setCell ⟨g, i, none⟩ (.int .u8 x)) g (c.set i b) := by
  subst hx
  unfold ArrIs
  rw [heap_setCell_same w g i _ _ _ h, ← byteVals_set]
  simp
theorem ArrIs.range {w : World} {g : Nat} {c : List UInt8} (h : ArrIs w g c) : w.rangeAt g 0 (byteVals c) := range_of_row h 0 [] _ [] (by simp) rfl
theorem ArrIs.below {w w' : World} {g : Nat} {c : List UInt8} (h : ArrIs w g c) (hb : Below w.heap.size w w') : ArrIs w' g c := (hb.block g (Array.getElem?_eq_some_iff.1 h).1).trans h
/-- What the array holds behind k rounds. -/
def fillL (l : List UInt8) (k : Nat) : List UInt8 := l.take k ++ List.replicate (16 - k) 0
theorem fillL_length (l : List UInt8) (k : Nat) (hk : k ≤ 16) (hl : 16 ≤ l.length) : (fillL l k).length = 16 := by
  simp [fillL]; omega
theorem fillL_set (l : List UInt8) (k : Nat) (hk : k < 16) (hl : 16 ≤ l.length) : (fillL l k).set k (l.getD k 0) = fillL l (k + 1) := by
  unfold fillL
  have e1 : (l.take k).length = k := by simp; omega
  have e2 : l.take (k + 1) = l.take k ++ [l.getD k 0] := by
    rw [List.take_add_one]
    simp [List.getD, show k < l.length by omega]
  rw [List.set_append, if_neg (by rw [e1]; omega), show 16 - k = (16 - (k + 1)) + 1 by omega, List.replicate_succ, e1, Nat.sub_self, List.set_cons_zero, e2, List.append_assoc]
  rfl
theorem fillL_full (l : List UInt8) : fillL l 16 = l.take 16 := by simp [fillL]
theorem zero16 : (#[.int .u8 0, .int .u8 0, .int .u8 0, .int .u8 0, .int .u8 0, .int .u8 0, .int .u8 0, .int .u8 0, .int .u8 0, .int .u8 0, .int .u8 0, .int .u8 0, .int .u8 0, .int .u8 0, .int .u8 0, .int .u8 0] : Array Value) = (byteVals (List.replicate 16 0)).toArray := rfl
set_option maxRecDepth 100000 in
set_option maxHeartbeats 2000000 in
theorem raddr_any (l : List UInt8) (w : World) (h16 : 16 ≤ l.length) :
    Calls Try.prog 18 #[.string ⟨l.toArray⟩] w fun r w' => r = .returned (arrV (l.take 16)) ∧ Below w.heap.size w w' := by
  have hz : (⟨l.toArray⟩ : ByteArray).size = l.length := by simp [ByteArray.size]
  have hl16 : (l.take 16).length = 16 := by simp; omega
  go_enter Try.func18, Try.ntmps18
  have z0 : ArrIs ((w.alloc (.cells (byteVals (List.replicate 16 0)).toArray 24)).alloc (.cells (byteVals (List.replicate 16 0)).toArray 24)) w.heap.size (List.replicate 16 0) := (Below.heap_alloc _ _ _ (by simp)).trans (heap_alloc_new w _)
  have z1 : ArrIs ((w.alloc (.cells (byteVals (List.replicate 16 0)).toArray 24)).alloc (.cells (byteVals (List.replicate 16 0)).toArray 24)) (w.heap.size + 1) (List.replicate 16 0) := by
    have := heap_alloc_new (w.alloc (.cells (byteVals (List.replicate 16 0)).toArray 24)) (.cells (byteVals (List.replicate 16 0)).toArray 24)
    rwa [World.size_alloc] at this
  have zb : Below w.heap.size w ((w.alloc (.cells (byteVals (List.replicate 16 0)).toArray 24)).alloc (.cells (byteVals (List.replicate 16 0)).toArray 24)) := ((Below.refl _ _).alloc (Nat.le_refl _) _).alloc (by simp) _
  rw [← zero16] at z0 z1 zb
  have Z := Lib.hid (And.intro z0 (And.intro z1 zb))
  clear z0 z1 zb
  go_wp2
  go_loopw [4] (fun i wr => ∃ k : Nat, k ≤ 16 ∧ i = .int .i64 (k : Int) ∧ ArrIs wr (w.heap.size + 1) (fillL l k) ∧ ArrIs wr w.heap.size (List.replicate 16 0) ∧ Below w.heap.size w wr) (fun i _ => 16 - (intOf i).toNat)
  case atStart => exact ⟨0, by omega, rfl, Z.out.2.1, Z.out.1, Z.out.2.2⟩
  case round =>
    obtain ⟨k, hk, rfl, hA, hB, hb⟩ := hrel
    clear Z
    by_cases hlt : k < 16
    · have hix : ∀ W, (Instr.index 9 (.string ⟨l.toArray⟩) (.int .i64 (k : Int))).run Try.prog W = .ok (.int .u8 (byteAt l k)) W := fun W => index_str W l k (by omega)
      have hcell := hA.cell k (by rw [fillL_length l k hk h16]; omega)
      have hfr := hA.frozen k
      have hst := hA.store k (byteAt l k) (l.getD k 0) rfl
      rw [fillL_set l k hlt h16] at hst
      have HS := Lib.hid hst
      have HB2 : Hid (∀ v, ArrIs (wr.setCell ⟨w.heap.size + 1, k, none⟩ v) w.heap.size (List.replicate 16 0)) := fun v => (Below.heap_setCell wr _ v w.heap.size (by simp)).trans hB
      have HB := Lib.hid hb
      clear hA hB hb hst
      go_wp2
      go_roundw
      case rel => exact ⟨k + 1, by omega, by go_num, HS.out, HB2.out _, HB.out.setCell (by simp) _⟩
      case measure => simp [intOf]; omega
    · have hk16 : k = 16 := by omega
      subst hk16
      rw [fillL_full] at hA
      have HL := Lib.hid hl16
      have HR := Lib.hid hA.range
      have HG := Lib.hid hB
      have HB := Lib.hid hb
      generalize hL : l.take 16 = L at *
      clear hA hB hb hl16
      go_wp2_with (first | (refine wpList_load_arr rfl (.tmp 3) rfl (w.heap.size + 1) 0 L HL.out rfl HR.out ?_) | (refine wpList_store_arr rfl (.tmp 2) (.tmp 14) rfl w.heap.size L HL.out _ rfl rfl HG.out rfl ?_))
      exact bodyPost_ret (results_arr Try.results18 _ _ w.heap.size L HL.out rfl (setRow_heap _ _ _ _ _ _ HG.out)) rfl ⟨by rw [hL], below_setRow HB.out (Nat.le_refl _) _⟩
theorem conv_one6 (W : World) (x : UInt8) (y : Int) (hy : y = (x.toNat : Int)) (g : Nat) (hg : g = W.heap.size) : (convert 22 9 (.slice (some ⟨g, 0, none⟩) 1 1)).run Try.prog (W.alloc (.cells #[.int .u8 y] 5)) = .ok (.string ⟨[x].toArray⟩) (W.alloc (.cells #[.int .u8 y] 5)) := by
  subst hy hg
  exact (isB_built W [x] _ rfl (by simp)).conv Try.underlying22 Try.underlying5 Try.underlying9
set_option maxRecDepth 100000 in
set_option maxHeartbeats 2000000 in
theorem rtext6_any (l : List UInt8) (w : World) (h16 : l.length = 16) :
    Calls Try.prog 23 #[arrV l] w fun r w' => r = .returned (.string ⟨l.toArray⟩) ∧ Below w.heap.size w w' := by
  have z0 : ArrIs (w.alloc (.cells (byteVals l).toArray 24)) w.heap.size l := heap_alloc_new w _
  have zb : Below w.heap.size w (w.alloc (.cells (byteVals l).toArray 24)) := (Below.refl _ _).alloc (Nat.le_refl _) _
  have Z := Lib.hid (And.intro z0 zb)
  clear z0 zb
  rw [show arrV l = .agg (byteVals l).toArray from rfl]
  go_enter Try.func23, Try.ntmps23
  go_wp2
  go_loopw [3, 4] (fun s i wr => ∃ k : Nat, k ≤ 16 ∧ i = .int .i64 (k : Int) ∧ s = .string ⟨(l.take k).toArray⟩ ∧ ArrIs wr w.heap.size l ∧ Below w.heap.size w wr) (fun _ i _ => 16 - (intOf i).toNat)
  case atStart => exact ⟨0, by omega, rfl, rfl, Z.out.1, Z.out.2⟩
  case round =>
    obtain ⟨k, hk, rfl, rfl, hA, hb⟩ := hrel
    clear Z
    by_cases hlt : k < 16
    · have hcell := hA.cell k (by omega)
      have hcv := conv_one6 wr (l.getD k 0) (byteAt l k) rfl wr.heap.size rfl
      have HA2 : Hid (∀ o, ArrIs (wr.alloc o) w.heap.size l) := fun o => hA.below ((Below.refl _ _).alloc (Nat.le_refl _) _)
      have HB2 : Hid (∀ o, Below w.heap.size w (wr.alloc o)) := fun o => hb.alloc hb.size o
      have HT : Hid ((⟨(l.take k).toArray⟩ : ByteArray) ++ ⟨[l.getD k 0].toArray⟩ = ⟨(l.take (k + 1)).toArray⟩) := by
        show (⟨(l.take k).toArray⟩ : ByteArray) ++ ⟨[l.getD k 0].toArray⟩ = ⟨(l.take (k + 1)).toArray⟩
        rw [str_append, List.take_add_one]
        simp [List.getD, show k < l.length by omega]
      clear hA hb
      generalize l.getD k 0 = xx at hcv HT
      go_wp2
      go_roundw
      case rel => exact ⟨k + 1, by omega, by go_num, congrArg Value.string HT.out, HA2.out _, HB2.out _⟩
      case measure => simp [intOf]; omega
    · have hk16 : k = 16 := by omega
      subst hk16
      rw [List.take_of_length_le (by omega)]
      have HB := Lib.hid hb
      clear hA hb
      go_wp2
      go_ret
      exact ⟨rfl, HB.out⟩
end Go.Proofs.Ytemocbcibnccpaa
