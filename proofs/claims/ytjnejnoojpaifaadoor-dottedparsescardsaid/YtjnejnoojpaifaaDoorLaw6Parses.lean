/- DottedParses returns true, whatever it is given, and turns no old memory. -/
import Derived.Test.YtjnejnoojpaifaaDoorAw6
import Derived.Test.YtjnejnoojpaifaaDoorDot4
namespace Go.Proofs.YtjnejnoojpaifaaDoor
open Go Go.RowKit

set_option maxRecDepth 100000 in
set_option maxHeartbeats 4000000 in
theorem dparses_walk (s : ByteArray) (w : World) (_hs : s.size ≤ maxLen) (htab : Lib.TabIs Tryd.prog w "internal/strconv.uint64pow10" .u64 Lib.pow10Tab) :
    Calls Tryd.prog 4 #[.string s] w fun e w' => e = .returned (.bool true) ∧ Below w.heap.size w w' := by
  have HA := Lib.hid (awake6_any w htab)
  clear htab _hs
  by_cases hbig : 100 < s.size
  · go_enter Tryd.func4, Tryd.ntmps4
    go_wp2_with (go_at_call 7; refine HA.out.mono ?_; rintro e w1 ⟨rfl, b1⟩)
    go_ret
    exact ⟨rfl, b1⟩
  have U := Lib.hid (fun W => dparse_any s W (by omega))
  have R := Lib.hid (fun W => rdparse_any s W (by omega))
  have hL := dotL_length s.data.toList
  generalize dotL s.data.toList = L at *
  generalize dotB s.data.toList = b at *
  have HL := Lib.hid hL
  clear hL
  go_enter Tryd.func4, Tryd.ntmps4
  go_wp2_with (go_at_call 7; refine HA.out.mono ?_; rintro e w1 ⟨rfl, b1⟩; refine Hid.out ?_)
  refine Lib.hid ?_
  go_wp2_with (go_at_call 14; refine (U.out _).mono ?_; rintro e w2 ⟨rfl, b2⟩; refine Hid.out ?_)
  refine Lib.hid ?_
  have HB2 := Lib.hid (below_up b1 b2 b1.size)
  clear b1 b2
  go_wp2_with (first | (refine wpList_store_newT rfl (.tmp 4) (.tmp 17) rfl L (by rw [HL.out]; exact arr4) _ rfl rfl HL.out.symm ?_) | (go_at_call 15; refine (R.out _).mono ?_; rintro e w3 ⟨rfl, b3⟩; refine Hid.out ?_))
  refine Lib.hid ?_
  have hA3 := (arrT_new (t := 22) w2 L).up b3
  have hB3 := below_up (HB2.out.alloc HB2.out.size _) b3 (HB2.out.alloc HB2.out.size _).size
  have HA4 : Hid (∀ o, ArrT 22 (w3.alloc o) w2.heap.size L ∧ Below w.heap.size w (w3.alloc o)) := fun o => ⟨hA3.up ((Below.refl _ _).alloc (Nat.le_refl _) _), hB3.alloc hB3.size _⟩
  clear hA3 hB3 b3 HB2
  go_wp2_with (first | (refine wpList_store_newT rfl (.tmp 6) (.tmp 22) rfl L (by rw [HL.out]; exact arr4) _ rfl rfl HL.out.symm ?_) | (refine wpList_load_arrT rfl (.tmp 4) rfl w2.heap.size L (by rw [HL.out]; exact arr4) rfl (HA4.out _).1 ?_) | (refine wpList_load_arrT rfl (.tmp 6) rfl w3.heap.size L (by rw [HL.out]; exact arr4) rfl (arrT_new w3 L) ?_) | (refine wpList_eql_arrB rfl arr4 (.tmp 24) (.tmp 25) _ rfl L L HL.out HL.out true (by simp) rfl rfl ?_))
  go_ret
  exact ⟨by simp, (HA4.out _).2⟩
end Go.Proofs.YtjnejnoojpaifaaDoor
