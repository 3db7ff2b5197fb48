/- Multi and Plain of package colon, and of the document. Proved: what each returns. -/
import Derived.Test.YteomoipbjkafgaaDoorCol4
namespace Go.Proofs.YteomoipbjkafgaaDoor
open Go Go.RowKit

theorem neq_arrV {t : TypeId} {n : Nat} (ht : IsArr t n) (x y : Operand) (l m : List UInt8) (hl : l.length = n) (hm : m.length = n) (W : World) :
    (do eqGuard .neq t x y (arrV l) (arrV m); binOp .neq t (arrV l) (arrV m) : Sem Value).run Tryd.prog W = .ok (.bool (!decide (l = m))) W := by
  have h := eq_arrV ht 9998 l m hl hm W
  have hg := ht.guard
  unfold arrV at *
  go_simp
theorem exec_neq_arr {t : TypeId} {n : Nat} {ρ : Operand → Value} {o : Oper} {W : World} (ht : IsArr t n) (x y : Operand) (ty : TypeId) (ho : o.op = .binOp .neq t x y ty) (l m : List UInt8) (hl : l.length = n) (hm : m.length = n) (hx : ρ x = arrV l) (hy : ρ y = arrV m) :
    (execOp ρ o).run Tryd.prog W = .ok (.value (.bool (!decide (l = m)))) W := by
  have := neq_arrV ht x y l m hl hm W
  unfold execOp
  simp only [ho, hx, hy, Sem.run_bind] at this ⊢
  rw [this]
  rfl
theorem wpList_neq_arrGB {ops : Array Oper} {rest : List Oper} {o : Oper} {a : Act} {w : World} {Q : Exit → Act → World → Prop} {t : TypeId} {n : Nat} (hw : Region.wanted o (yielded ops a.tmps) = true) (ht : IsArr t n) (x y : Operand) (ty : TypeId) (ho : o.op = .binOp .neq t x y ty) (l m : List UInt8) (hl : l.length = n) (hm : m.length = n) (b : Bool) (hb : (!decide (l = m)) = b) (hx : a.eval x = arrV l) (hy : a.eval y = arrV m)
    (hR : wpList Tryd.prog ops Q rest (a.put o.dst (.bool b)) w) : wpList Tryd.prog ops Q (o :: rest) a w := by
  subst hb
  exact wpList_wanted hw fun K hK => by
    unfold Oper.wp
    rw [exec_neq_arr ht x y ty ho l m hl hm hx hy]
    exact hK _ _ hR
def one16 : List UInt8 := [0, 0, 0, 0, 0, 0, 0, 0, 0, 0, 0, 0, 0, 0, 0, 1]
def multi7 (l : List UInt8) : Bool := decide (byteAt l 0 = 255)
def plain7 (l : List UInt8) : Bool := !multi7 l && !decide (l = List.replicate 16 0) && !decide (l = one16)
set_option maxRecDepth 100000 in
set_option maxHeartbeats 1000000 in
theorem cmulti_any (l : List UInt8) (w : World) (hl : l.length = 16) :
    Calls Tryd.prog 13 #[arrV l] w fun r w' => r = .returned (.bool (multi7 l)) ∧ Below w.heap.size w w' := by
  have z0 : ArrT 22 (w.alloc (.cells (byteVals l).toArray 22)) w.heap.size l := arrT_new w l
  have zb : Below w.heap.size w (w.alloc (.cells (byteVals l).toArray 22)) := (Below.refl _ _).alloc (Nat.le_refl _) _
  have hc0 := z0.cell 0 (by omega)
  have ZB := Lib.hid zb
  unfold multi7
  clear z0 zb
  generalize byteAt l 0 = x0 at *
  rw [show arrV l = .agg (byteVals l).toArray from rfl]
  go_enter Tryd.func13, Tryd.ntmps13
  go_wp2
  go_ret
  exact ⟨by simp [Bool.beq_eq_decide_eq], ZB.out⟩
set_option maxRecDepth 100000 in
set_option maxHeartbeats 1000000 in
theorem rcmulti_any (l : List UInt8) (w : World) (hl : l.length = 16) :
    Calls Tryd.prog 14 #[arrV l] w fun r w' => r = .returned (.bool (multi7 l)) ∧ Below w.heap.size w w' := by
  have z0 : ArrT 22 (w.alloc (.cells (byteVals l).toArray 22)) w.heap.size l := arrT_new w l
  have zb : Below w.heap.size w (w.alloc (.cells (byteVals l).toArray 22)) := (Below.refl _ _).alloc (Nat.le_refl _) _
  have hc0 := z0.cell 0 (by omega)
  have ZB := Lib.hid zb
  unfold multi7
  clear z0 zb
  generalize byteAt l 0 = x0 at *
  rw [show arrV l = .agg (byteVals l).toArray from rfl]
  go_enter Tryd.func14, Tryd.ntmps14
  go_wp2
  go_ret
  exact ⟨by simp [Bool.beq_eq_decide_eq], ZB.out⟩
set_option maxRecDepth 100000 in
set_option maxHeartbeats 2000000 in
theorem cplain_any (l : List UInt8) (w : World) (hl : l.length = 16) :
    Calls Tryd.prog 15 #[arrV l] w fun r w' => r = .returned (.bool (plain7 l)) ∧ Below w.heap.size w w' := by
  have z0 : ArrT 22 (w.alloc (.cells (byteVals l).toArray 22)) w.heap.size l := arrT_new w l
  have zb : Below w.heap.size w (w.alloc (.cells (byteVals l).toArray 22)) := (Below.refl _ _).alloc (Nat.le_refl _) _
  have HM := Lib.hid (fun W => cmulti_any l W hl)
  have Z := Lib.hid (And.intro z0 zb)
  have HP : Hid (plain7 l = (!multi7 l && !decide (l = List.replicate 16 0) && !decide (l = one16))) := rfl
  clear z0 zb
  generalize multi7 l = M at *
  rw [show arrV l = .agg (byteVals l).toArray from rfl]
  cases M with
  | true =>
    go_enter Tryd.func15, Tryd.ntmps15
    go_wp2_with (first | (go_at_call 13; refine (HM.out _).mono ?_; rintro e w1 ⟨rfl, b1⟩) | (refine wpList_load_arrT rfl (.tmp 1) rfl w.heap.size l (by rw [hl]; exact arr16) rfl Z.out.1 ?_) | (refine wpList_load_arrG rfl (.tmp 1) rfl w.heap.size l (by rw [hl]; exact arr16) rfl (Z.out.1.up b1) ?_))
    go_ret
    exact ⟨by rw [HP.out]; rfl, below_up Z.out.2 b1 Z.out.2.size⟩
  | false =>
    by_cases hz : l = List.replicate 16 0
    · have HZ := Lib.hid hz
      clear hz
      go_enter Tryd.func15, Tryd.ntmps15
      go_wp2_with (first | (go_at_call 13; refine (HM.out _).mono ?_; rintro e w1 ⟨rfl, b1⟩) | (refine wpList_load_arrT rfl (.tmp 1) rfl w.heap.size l (by rw [hl]; exact arr16) rfl Z.out.1 ?_) | (refine wpList_load_arrG rfl (.tmp 1) rfl w.heap.size l (by rw [hl]; exact arr16) rfl (Z.out.1.up b1) ?_) | (refine wpList_neq_arrGB rfl arr16 (.tmp 7) (.tmp 8) _ rfl l (List.replicate 16 0) hl rfl false (by rw [decide_eq_true HZ.out]; rfl) rfl rfl ?_))
      go_ret
      exact ⟨by rw [HP.out, decide_eq_true HZ.out]; rfl, below_up Z.out.2 b1 Z.out.2.size⟩
    · have HZ := Lib.hid hz
      clear hz
      by_cases ho : l = one16
      · have HO := Lib.hid ho
        clear ho
        go_enter Tryd.func15, Tryd.ntmps15
        go_wp2_with (first | (go_at_call 13; refine (HM.out _).mono ?_; rintro e w1 ⟨rfl, b1⟩) | (refine wpList_load_arrT rfl (.tmp 1) rfl w.heap.size l (by rw [hl]; exact arr16) rfl Z.out.1 ?_) | (refine wpList_load_arrG rfl (.tmp 1) rfl w.heap.size l (by rw [hl]; exact arr16) rfl (Z.out.1.up b1) ?_) | (refine wpList_neq_arrGB rfl arr16 (.tmp 7) (.tmp 8) _ rfl l (List.replicate 16 0) hl rfl true (by rw [decide_eq_false HZ.out]; rfl) rfl rfl ?_) | (refine wpList_neq_arrGB rfl arr16 (.tmp 12) (.tmp 13) _ rfl l one16 hl rfl false (by rw [decide_eq_true HO.out]; rfl) rfl rfl ?_))
        go_ret
        exact ⟨by rw [HP.out, decide_eq_false HZ.out, decide_eq_true HO.out]; rfl, below_up Z.out.2 b1 Z.out.2.size⟩
      · have HO := Lib.hid ho
        clear ho
        go_enter Tryd.func15, Tryd.ntmps15
        go_wp2_with (first | (go_at_call 13; refine (HM.out _).mono ?_; rintro e w1 ⟨rfl, b1⟩) | (refine wpList_load_arrT rfl (.tmp 1) rfl w.heap.size l (by rw [hl]; exact arr16) rfl Z.out.1 ?_) | (refine wpList_load_arrG rfl (.tmp 1) rfl w.heap.size l (by rw [hl]; exact arr16) rfl (Z.out.1.up b1) ?_) | (refine wpList_neq_arrGB rfl arr16 (.tmp 7) (.tmp 8) _ rfl l (List.replicate 16 0) hl rfl true (by rw [decide_eq_false HZ.out]; rfl) rfl rfl ?_) | (refine wpList_neq_arrGB rfl arr16 (.tmp 12) (.tmp 13) _ rfl l one16 hl rfl true (by rw [decide_eq_false HO.out]; rfl) rfl rfl ?_))
        go_ret
        exact ⟨by rw [HP.out, decide_eq_false HZ.out, decide_eq_false HO.out]; rfl, below_up Z.out.2 b1 Z.out.2.size⟩
set_option maxRecDepth 100000 in
set_option maxHeartbeats 2000000 in
theorem rcplain_any (l : List UInt8) (w : World) (hl : l.length = 16) :
    Calls Tryd.prog 16 #[arrV l] w fun r w' => r = .returned (.bool (plain7 l)) ∧ Below w.heap.size w w' := by
  have z0 : ArrT 22 (w.alloc (.cells (byteVals l).toArray 22)) w.heap.size l := arrT_new w l
  have zb : Below w.heap.size w (w.alloc (.cells (byteVals l).toArray 22)) := (Below.refl _ _).alloc (Nat.le_refl _) _
  have hc0 := z0.cell 0 (by omega)
  have Z := Lib.hid (And.intro z0 zb)
  have HP : Hid (plain7 l = (!decide (byteAt l 0 = 255) && !decide (l = List.replicate 16 0) && !decide (l = one16))) := rfl
  clear z0 zb
  generalize byteAt l 0 = x0 at *
  rw [show arrV l = .agg (byteVals l).toArray from rfl]
  by_cases hx : x0 = 255
  · subst hx
    go_enter Tryd.func16, Tryd.ntmps16
    go_wp2_with (first | (refine wpList_load_arrG rfl (.tmp 1) rfl w.heap.size l (by rw [hl]; exact arr16) rfl Z.out.1 ?_))
    go_ret
    exact ⟨by rw [HP.out]; rfl, Z.out.2⟩
  · have HX := Lib.hid (decide_eq_false hx)
    have hne : (x0 != 255) = true := by simp [hx]
    clear hx
    by_cases hz : l = List.replicate 16 0
    · have HZ := Lib.hid hz
      clear hz
      go_enter Tryd.func16, Tryd.ntmps16
      go_wp2_with (first | (refine wpList_load_arrG rfl (.tmp 1) rfl w.heap.size l (by rw [hl]; exact arr16) rfl Z.out.1 ?_) | (refine wpList_neq_arrGB rfl arr16 (.tmp 7) (.tmp 8) _ rfl l (List.replicate 16 0) hl rfl false (by rw [decide_eq_true HZ.out]; rfl) rfl rfl ?_))
      go_ret
      exact ⟨by rw [HP.out, HX.out, decide_eq_true HZ.out]; rfl, Z.out.2⟩
    · have HZ := Lib.hid hz
      clear hz
      by_cases ho : l = one16
      · have HO := Lib.hid ho
        clear ho
        go_enter Tryd.func16, Tryd.ntmps16
        go_wp2_with (first | (refine wpList_load_arrG rfl (.tmp 1) rfl w.heap.size l (by rw [hl]; exact arr16) rfl Z.out.1 ?_) | (refine wpList_neq_arrGB rfl arr16 (.tmp 7) (.tmp 8) _ rfl l (List.replicate 16 0) hl rfl true (by rw [decide_eq_false HZ.out]; rfl) rfl rfl ?_) | (refine wpList_neq_arrGB rfl arr16 (.tmp 12) (.tmp 13) _ rfl l one16 hl rfl false (by rw [decide_eq_true HO.out]; rfl) rfl rfl ?_))
        go_ret
        exact ⟨by rw [HP.out, HX.out, decide_eq_false HZ.out, decide_eq_true HO.out]; rfl, Z.out.2⟩
      · have HO := Lib.hid ho
        clear ho
        go_enter Tryd.func16, Tryd.ntmps16
        go_wp2_with (first | (refine wpList_load_arrG rfl (.tmp 1) rfl w.heap.size l (by rw [hl]; exact arr16) rfl Z.out.1 ?_) | (refine wpList_neq_arrGB rfl arr16 (.tmp 7) (.tmp 8) _ rfl l (List.replicate 16 0) hl rfl true (by rw [decide_eq_false HZ.out]; rfl) rfl rfl ?_) | (refine wpList_neq_arrGB rfl arr16 (.tmp 12) (.tmp 13) _ rfl l one16 hl rfl true (by rw [decide_eq_false HO.out]; rfl) rfl rfl ?_))
        go_ret
        exact ⟨by rw [HP.out, HX.out, decide_eq_false HZ.out, decide_eq_false HO.out]; rfl, Z.out.2⟩
end Go.Proofs.YteomoipbjkafgaaDoor
