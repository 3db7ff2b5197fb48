/- ColonParses returns true, whatever it is given, and turns no old memory. -/
import Derived.Test.YteomoipbjkafgaaDoorCr5
namespace Go.Proofs.YteomoipbjkafgaaDoor
open Go Go.RowKit

set_option maxRecDepth 100000 in
set_option maxHeartbeats 4000000 in
theorem cparses_row (s : ByteArray) (w : World) (_ws : s.size ≤ maxLen) (hE : Env w) :
    Calls Tryd.prog 4 #[.string s] w fun e w' => e = .returned (.bool true) ∧ Below w.heap.size w w' := by
  have HA := Lib.hid (awake7_any w hE)
  have HE := Lib.hid hE
  clear hE
  by_cases hbig : 100 < s.size
  · have hbig2 : (100 : Int) < (s.size : Int) := by omega
    go_enter Tryd.func4, Tryd.ntmps4
    go_wp2_with (go_at_call 8; refine HA.out.mono ?_; rintro e w1 ⟨rfl, b1⟩)
    go_ret
    exact ⟨rfl, b1⟩
  have hbig2 : ¬ (100 : Int) < (s.size : Int) := by omega
  have HP := Lib.hid (fun W h => parse_any s s.data.toList rfl W h (by omega))
  have HR := Lib.hid (fun W => rparse7_any s s.data.toList rfl W (by omega))
  have HD := Lib.hid (colA_length s.data.toList)
  generalize colA s.data.toList = D at *
  generalize (colV s.data.toList).isSome = b at *
  go_enter Tryd.func4, Tryd.ntmps4
  go_wp2_with (go_at_call 8; refine HA.out.mono ?_; rintro e w1 ⟨rfl, b1⟩; refine Hid.out ?_)
  refine Lib.hid ?_
  have Z1 := Lib.hid (And.intro (HE.out.up b1) b1)
  clear b1 HA HE
  go_wp2_with (first | (go_at_call 17; refine (HP.out _ Z1.out.1).mono ?_; rintro e w2 ⟨rfl, b2⟩; refine Hid.out ?_))
  refine Lib.hid ?_
  have Z2 : Hid (ArrT 22 (w2.alloc (.cells (byteVals D).toArray 22)) w2.heap.size D ∧ Below w.heap.size w (w2.alloc (.cells (byteVals D).toArray 22))) := by
    have hb2 := below_up Z1.out.2 b2 Z1.out.2.size
    exact ⟨arrT_new w2 D, hb2.alloc hb2.size _⟩
  clear b2 Z1 HP
  go_wp2_with (first | (refine wpList_store_newT rfl (.tmp 4) (.tmp 17) rfl D (by rw [HD.out]; exact arr16) _ rfl rfl (by rw [HD.out]; rfl) ?_) | (go_at_call 18; refine (HR.out _).mono ?_; rintro e w3 ⟨rfl, b3⟩; refine Hid.out ?_))
  refine Lib.hid ?_
  have Z3 : Hid (ArrT 22 (w3.alloc (.cells (byteVals D).toArray 22)) w2.heap.size D ∧ ArrT 22 (w3.alloc (.cells (byteVals D).toArray 22)) w3.heap.size D ∧ Below w.heap.size w (w3.alloc (.cells (byteVals D).toArray 22))) := by
    have hb3 := below_up Z2.out.2 b3 Z2.out.2.size
    exact ⟨(Z2.out.1.up b3).allocO _, arrT_new w3 D, hb3.alloc hb3.size _⟩
  clear b3 Z2 HR
  go_wp2_with (first | (refine wpList_store_newT rfl (.tmp 6) (.tmp 22) rfl D (by rw [HD.out]; exact arr16) _ rfl rfl (by rw [HD.out]; rfl) ?_) | (refine wpList_load_arrT rfl (.tmp 4) rfl w2.heap.size D (by rw [HD.out]; exact arr16) rfl Z3.out.1 ?_) | (refine wpList_load_arrT rfl (.tmp 6) rfl w3.heap.size D (by rw [HD.out]; exact arr16) rfl Z3.out.2.1 ?_) | (refine wpList_eql_arrB rfl arr16 (.tmp 24) (.tmp 25) _ rfl D D HD.out HD.out true (by simp) rfl rfl ?_))
  go_ret
  exact ⟨rfl, Z3.out.2.2⟩
end Go.Proofs.YteomoipbjkafgaaDoor
