/- Multi and Plain of package dotted, and of the document. Proved: what each returns. -/
import Derived.Test.YtjnejnoojpaifaaDoorDot1
namespace Go.Proofs.YtjnejnoojpaifaaDoor
open Go Go.RowKit

def multiB (l : List UInt8) : Bool := (decide (224 ≤ byteAt l 0) && decide (byteAt l 0 ≤ 239)) || decide (l = [255, 255, 255, 255])
def plainB (l : List UInt8) : Bool := byteAt l 0 != 0 && byteAt l 0 != 127 && decide (byteAt l 0 ≤ 223)
theorem multi_plain (l : List UInt8) : (multiB l && plainB l) = false := by
  unfold multiB plainB
  by_cases h : byteAt l 0 ≤ 223
  · have h1 : ¬ 224 ≤ byteAt l 0 := by omega
    have h2 : ¬ l = [255, 255, 255, 255] := fun e => by
      subst e
      exact absurd h (by decide)
    simp [h1, h2]
  · simp [h]
set_option maxRecDepth 100000 in
set_option maxHeartbeats 2000000 in
theorem multi_any (l : List UInt8) (w : World) (hl : l.length = 4) :
    Calls Tryd.prog 10 #[arrV l] w fun r w' => r = .returned (.bool (multiB l)) ∧ Below w.heap.size w w' := by
  have z0 : ArrT 22 (w.alloc (.cells (byteVals l).toArray 22)) w.heap.size l := heap_alloc_new w _
  have zb : Below w.heap.size w (w.alloc (.cells (byteVals l).toArray 22)) := (Below.refl _ _).alloc (Nat.le_refl _) _
  have hc0 := z0.cell 0 (by omega)
  have Z := Lib.hid z0
  have ZB := Lib.hid zb
  unfold multiB
  clear z0 zb
  generalize byteAt l 0 = x0 at *
  rw [show arrV l = .agg (byteVals l).toArray from rfl]
  by_cases h1 : 224 ≤ x0
  · by_cases h2 : x0 ≤ 239
    · go_enter Tryd.func10, Tryd.ntmps10
      go_wp2
      go_ret
      exact ⟨by simp [h1, h2], ZB.out⟩
    · go_enter Tryd.func10, Tryd.ntmps10
      go_wp2_with (first | (refine wpList_load_arrG rfl (.tmp 1) rfl w.heap.size l (by rw [hl]; exact arr4) rfl Z.out ?_) | (refine wpList_eql_arrG rfl arr4 (.tmp 12) (.tmp 13) _ rfl l [255, 255, 255, 255] hl rfl rfl rfl ?_))
      go_ret
      exact ⟨by simp [show ¬ x0 ≤ 239 by omega], ZB.out⟩
  · go_enter Tryd.func10, Tryd.ntmps10
    go_wp2_with (first | (refine wpList_load_arrG rfl (.tmp 1) rfl w.heap.size l (by rw [hl]; exact arr4) rfl Z.out ?_) | (refine wpList_eql_arrG rfl arr4 (.tmp 12) (.tmp 13) _ rfl l [255, 255, 255, 255] hl rfl rfl rfl ?_))
    go_ret
    exact ⟨by simp [show ¬ 224 ≤ x0 by omega], ZB.out⟩
set_option maxRecDepth 100000 in
set_option maxHeartbeats 2000000 in
theorem rmulti_any (l : List UInt8) (w : World) (hl : l.length = 4) :
    Calls Tryd.prog 11 #[arrV l] w fun r w' => r = .returned (.bool (multiB l)) ∧ Below w.heap.size w w' := by
  have z0 : ArrT 22 (w.alloc (.cells (byteVals l).toArray 22)) w.heap.size l := heap_alloc_new w _
  have zb : Below w.heap.size w (w.alloc (.cells (byteVals l).toArray 22)) := (Below.refl _ _).alloc (Nat.le_refl _) _
  have hc0 := z0.cell 0 (by omega)
  have Z := Lib.hid z0
  have ZB := Lib.hid zb
  unfold multiB
  clear z0 zb
  generalize byteAt l 0 = x0 at *
  rw [show arrV l = .agg (byteVals l).toArray from rfl]
  by_cases h1 : 224 ≤ x0
  · by_cases h2 : x0 ≤ 239
    · go_enter Tryd.func11, Tryd.ntmps11
      go_wp2
      go_ret
      exact ⟨by simp [h1, h2], ZB.out⟩
    · go_enter Tryd.func11, Tryd.ntmps11
      go_wp2_with (first | (refine wpList_load_arrG rfl (.tmp 1) rfl w.heap.size l (by rw [hl]; exact arr4) rfl Z.out ?_) | (refine wpList_eql_arrG rfl arr4 (.tmp 12) (.tmp 13) _ rfl l [255, 255, 255, 255] hl rfl rfl rfl ?_))
      go_ret
      exact ⟨by simp [show ¬ x0 ≤ 239 by omega], ZB.out⟩
  · go_enter Tryd.func11, Tryd.ntmps11
    go_wp2_with (first | (refine wpList_load_arrG rfl (.tmp 1) rfl w.heap.size l (by rw [hl]; exact arr4) rfl Z.out ?_) | (refine wpList_eql_arrG rfl arr4 (.tmp 12) (.tmp 13) _ rfl l [255, 255, 255, 255] hl rfl rfl rfl ?_))
    go_ret
    exact ⟨by simp [show ¬ 224 ≤ x0 by omega], ZB.out⟩
set_option maxRecDepth 100000 in
set_option maxHeartbeats 2000000 in
theorem plain_any (l : List UInt8) (w : World) (hl : l.length = 4) :
    Calls Tryd.prog 12 #[arrV l] w fun r w' => r = .returned (.bool (plainB l)) ∧ Below w.heap.size w w' := by
  have z0 : ArrT 22 (w.alloc (.cells (byteVals l).toArray 22)) w.heap.size l := heap_alloc_new w _
  have zb : Below w.heap.size w (w.alloc (.cells (byteVals l).toArray 22)) := (Below.refl _ _).alloc (Nat.le_refl _) _
  have hc0 := z0.cell 0 (by omega)
  have ZB := Lib.hid zb
  unfold plainB
  clear z0 zb
  generalize byteAt l 0 = x0 at *
  rw [show arrV l = .agg (byteVals l).toArray from rfl]
  by_cases h1 : x0 = 0
  · subst h1
    go_enter Tryd.func12, Tryd.ntmps12
    go_wp2
    go_ret
    exact ⟨rfl, ZB.out⟩
  · by_cases h2 : x0 = 127
    · subst h2
      go_enter Tryd.func12, Tryd.ntmps12
      go_wp2
      go_ret
      exact ⟨rfl, ZB.out⟩
    · go_enter Tryd.func12, Tryd.ntmps12
      go_wp2
      go_ret
      exact ⟨rfl, ZB.out⟩
set_option maxRecDepth 100000 in
set_option maxHeartbeats 2000000 in
theorem rplain_any (l : List UInt8) (w : World) (hl : l.length = 4) :
    Calls Tryd.prog 13 #[arrV l] w fun r w' => r = .returned (.bool (plainB l)) ∧ Below w.heap.size w w' := by
  have z0 : ArrT 22 (w.alloc (.cells (byteVals l).toArray 22)) w.heap.size l := heap_alloc_new w _
  have zb : Below w.heap.size w (w.alloc (.cells (byteVals l).toArray 22)) := (Below.refl _ _).alloc (Nat.le_refl _) _
  have hc0 := z0.cell 0 (by omega)
  have ZB := Lib.hid zb
  unfold plainB
  clear z0 zb
  generalize byteAt l 0 = x0 at *
  rw [show arrV l = .agg (byteVals l).toArray from rfl]
  by_cases h1 : x0 = 0
  · subst h1
    go_enter Tryd.func13, Tryd.ntmps13
    go_wp2
    go_ret
    exact ⟨rfl, ZB.out⟩
  · by_cases h2 : x0 = 127
    · subst h2
      go_enter Tryd.func13, Tryd.ntmps13
      go_wp2
      go_ret
      exact ⟨rfl, ZB.out⟩
    · go_enter Tryd.func13, Tryd.ntmps13
      go_wp2
      go_ret
      exact ⟨rfl, ZB.out⟩
end Go.Proofs.YtjnejnoojpaifaaDoor
