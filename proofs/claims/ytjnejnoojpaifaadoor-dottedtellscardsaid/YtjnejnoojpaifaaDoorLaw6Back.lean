/- DottedBack returns true, whatever it is given, and turns no old memory. -/
import Derived.Test.YtjnejnoojpaifaaDoorAw6
namespace Go.Proofs.YtjnejnoojpaifaaDoor
open Go Go.RowKit

theorem byte_of (n : Int) (h0 : 0 ≤ n) (h1 : n ≤ 255) : ∃ b : UInt8, n = (b.toNat : Int) := ⟨UInt8.ofNat n.toNat, by rw [UInt8.toNat_ofNat_of_lt' (show n.toNat < 256 by omega)]; omega⟩
theorem four_of (n0 n1 n2 n3 : Int) (g0 : 0 ≤ n0) (h0 : n0 ≤ 255) (g1 : 0 ≤ n1) (h1 : n1 ≤ 255) (g2 : 0 ≤ n2) (h2 : n2 ≤ 255) (g3 : 0 ≤ n3) (h3 : n3 ≤ 255) :
    ∃ l : List UInt8, l.length = 4 ∧ Value.agg #[.int .u8 n0, .int .u8 n1, .int .u8 n2, .int .u8 n3] = arrV l := by
  obtain ⟨a, rfl⟩ := byte_of n0 g0 h0
  obtain ⟨b, rfl⟩ := byte_of n1 g1 h1
  obtain ⟨c, rfl⟩ := byte_of n2 g2 h2
  obtain ⟨d, rfl⟩ := byte_of n3 g3 h3
  exact ⟨[a, b, c, d], rfl, rfl⟩
theorem str_eq (s : ByteArray) (l : List UInt8) (h : s.data.toList = l) : (⟨l.toArray⟩ : ByteArray) = s := by
  subst h
  rfl
set_option maxRecDepth 100000 in
set_option maxHeartbeats 4000000 in
theorem dback_list (l : List UInt8) (s : ByteArray) (w : World) (hl : l.length = 4) (htab : Lib.TabIs Tryd.prog w "internal/strconv.uint64pow10" .u64 Lib.pow10Tab) :
    Calls Tryd.prog 5 #[arrV l, .string s] w fun e w' => e = .returned (.bool true) ∧ Below w.heap.size w w' := by
  have zb : Below w.heap.size w (w.alloc (.cells (byteVals l).toArray 22)) := (Below.refl _ _).alloc (Nat.le_refl _) _
  have HZ := Lib.hid (And.intro (arrT_new (t := 22) w l) zb)
  have HA := Lib.hid (awake6_any _ (tab_below htab zb))
  have HT := Lib.hid (fun (w' : World) (hb : Below w.heap.size w w') => tab_below htab hb)
  rw [show arrV l = .agg (byteVals l).toArray from rfl]
  have HL := Lib.hid hl
  clear htab zb
  by_cases hbig : 100 < s.size
  · clear hl
    go_enter Tryd.func5, Tryd.ntmps5
    go_wp2_with (go_at_call 7; refine HA.out.mono ?_; rintro e w1 ⟨rfl, b1⟩)
    go_ret
    exact ⟨rfl, below_up HZ.out.2 b1 HZ.out.2.size⟩
  have hsl := showD_len l
  have hS := Lib.hid (fun W h => show4_any l W hl h)
  have hP := fun W => dparse_any ⟨(showD l).toArray⟩ W (by simp [ByteArray.size]; omega)
  rw [show (⟨(showD l).toArray⟩ : ByteArray).data.toList = showD l by simp, (dotL_told l hl).1, (dotL_told l hl).2] at hP
  have HP := Lib.hid hP
  have HS := Lib.hid (fun W => dparse_any s W (by omega))
  have hM := dotL_length s.data.toList
  have hsh := fun (h : dotB s.data.toList = true) => dotL_shown h
  have hno := fun (h : dotB s.data.toList = false) => dotL_no h
  have HW := Lib.hid (fun W h => show4_any (dotL s.data.toList) W (dotL_length _) h)
  generalize showD l = X at *
  clear hl hsl hP
  go_enter Tryd.func5, Tryd.ntmps5
  go_wp2_with (go_at_call 7; refine HA.out.mono ?_; rintro e w1 ⟨rfl, b1⟩; refine Hid.out ?_)
  refine Lib.hid ?_
  have HZ1 := Lib.hid (And.intro (HZ.out.1.up b1) (below_up HZ.out.2 b1 HZ.out.2.size))
  clear b1 HZ
  go_wp2_with (first | (refine wpList_load_arrT rfl (.tmp 2) rfl w.heap.size l (by rw [HL.out]; exact arr4) rfl HZ1.out.1 ?_) | (go_at_call 8; refine (hS.out _ (HT.out _ HZ1.out.2)).mono ?_; rintro e w2 ⟨rfl, b2⟩; refine Hid.out ?_))
  refine Lib.hid ?_
  have HZ2 := Lib.hid (And.intro (HZ1.out.1.up b2) (below_up HZ1.out.2 b2 HZ1.out.2.size))
  clear b2 HZ1
  go_wp2_with (go_at_call 14; refine (HP.out _).mono ?_; rintro e w3 ⟨rfl, b3⟩; refine Hid.out ?_)
  refine Lib.hid ?_
  have hz3 := HZ2.out.1.up b3
  have hb3 := below_up HZ2.out.2 b3 HZ2.out.2.size
  have HZ3 : Hid (∀ o, ArrT 22 (w3.alloc o) w.heap.size l ∧ Below w.heap.size w (w3.alloc o)) := fun o => ⟨hz3.up ((Below.refl _ _).alloc (Nat.le_refl _) _), hb3.alloc hb3.size _⟩
  clear b3 HZ2 hz3 hb3
  go_wp2_with (first | (refine wpList_store_newT rfl (.tmp 6) (.tmp 20) rfl l (by rw [HL.out]; exact arr4) _ rfl rfl HL.out.symm ?_) | (go_at_call 14; refine (HS.out _).mono ?_; rintro e w4 ⟨rfl, b4⟩; refine Hid.out ?_))
  refine Lib.hid ?_
  have hz4 := (HZ3.out _).1.up b4
  have hy4 := (arrT_new (t := 22) w3 l).up b4
  have hb4 := below_up (HZ3.out _).2 b4 (HZ3.out _).2.size
  have HZ4 : Hid (∀ o, ArrT 22 (w4.alloc o) w.heap.size l ∧ ArrT 22 (w4.alloc o) w3.heap.size l ∧ Below w.heap.size w (w4.alloc o)) := fun o => ⟨hz4.up ((Below.refl _ _).alloc (Nat.le_refl _) _), hy4.up ((Below.refl _ _).alloc (Nat.le_refl _) _), hb4.alloc hb4.size _⟩
  clear b4 HZ3 hz4 hy4 hb4
  generalize dotL s.data.toList = M at *
  cases hB : dotB s.data.toList
  · have hM0 := hno hB
    subst hM0
    clear hsh hno hM HW
    go_wp2_with (first | (refine wpList_store_newT rfl (.tmp 8) (.tmp 25) rfl [0, 0, 0, 0] arr4 _ rfl rfl rfl ?_) | (refine wpList_load_arrT rfl (.tmp 6) rfl w3.heap.size l (by rw [HL.out]; exact arr4) rfl (HZ4.out _).2.1 ?_) | (refine wpList_load_arrT rfl (.tmp 2) rfl w.heap.size l (by rw [HL.out]; exact arr4) rfl (HZ4.out _).1 ?_) | (refine wpList_eql_arrB rfl arr4 (.tmp 27) (.tmp 28) _ rfl l l HL.out HL.out true (by simp) rfl rfl ?_) | (refine wpList_load_arrG rfl (.tmp 8) rfl w4.heap.size [0, 0, 0, 0] arr4 rfl (arrT_new w4 _) ?_) | (refine wpList_eql_arrGB rfl arr4 (.tmp 37) (.tmp 38) _ rfl [0, 0, 0, 0] [0, 0, 0, 0] rfl rfl true (by decide) rfl rfl ?_))
    go_ret
    exact ⟨rfl, (HZ4.out _).2.2⟩
  · have hX := hsh hB
    rw [hX, str_eq s s.data.toList rfl] at HW
    have HM := Lib.hid hM
    clear hsh hno hX hM
    go_wp2_with (first | (refine wpList_store_newT rfl (.tmp 8) (.tmp 25) rfl M (by rw [HM.out]; exact arr4) _ rfl rfl HM.out.symm ?_) | (refine wpList_load_arrT rfl (.tmp 6) rfl w3.heap.size l (by rw [HL.out]; exact arr4) rfl (HZ4.out _).2.1 ?_) | (refine wpList_load_arrT rfl (.tmp 2) rfl w.heap.size l (by rw [HL.out]; exact arr4) rfl (HZ4.out _).1 ?_) | (refine wpList_eql_arrB rfl arr4 (.tmp 27) (.tmp 28) _ rfl l l HL.out HL.out true (by simp) rfl rfl ?_) | (refine wpList_load_arrG rfl (.tmp 8) rfl w4.heap.size M (by rw [HM.out]; exact arr4) rfl (arrT_new w4 _) ?_) | (go_at_call 8; refine (HW.out _ (HT.out _ (HZ4.out _).2.2)).mono ?_; rintro e w5 ⟨rfl, b5⟩))
    go_ret
    exact ⟨by simp, below_up (HZ4.out _).2.2 b5 (HZ4.out _).2.2.size⟩
theorem dback_walk (n0 n1 n2 n3 : Int) (s : ByteArray) (w : World) (g0 : 0 ≤ n0) (h0 : n0 ≤ 255) (g1 : 0 ≤ n1) (h1 : n1 ≤ 255) (g2 : 0 ≤ n2) (h2 : n2 ≤ 255) (g3 : 0 ≤ n3) (h3 : n3 ≤ 255) (_hs : s.size ≤ maxLen) (htab : Lib.TabIs Tryd.prog w "internal/strconv.uint64pow10" .u64 Lib.pow10Tab) :
    Calls Tryd.prog 5 #[.agg #[.int .u8 n0, .int .u8 n1, .int .u8 n2, .int .u8 n3], .string s] w fun e w' => e = .returned (.bool true) ∧ Below w.heap.size w w' := by
  obtain ⟨l, hl, e⟩ := four_of n0 n1 n2 n3 g0 h0 g1 h1 g2 h2 g3 h3
  rw [e]
  exact dback_list l s w hl htab
end Go.Proofs.YtjnejnoojpaifaaDoor
