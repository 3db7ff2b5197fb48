/- The document's example holds (awake of stage 9). -/
import Derived.Test.YtecefdocemkliaaAw9
namespace Go.Proofs.Ytecefdocemkliaa
open Go Go.RowKit

/-- What lies there between two calls: two boxes, the table. -/
structure AwZ (w : World) (B : Nat) (g : Nat) (L : List (Pfx × Int)) (N : Nat) (W : World) : Prop where
  p : Bx W B 32 exP.row
  q : Bx W (B + 1) 32 exQ.row
  tab : ∃ X, TabZ W X g false 2 L N ∧ ¬ X B ∧ ¬ X (B + 1) ∧ ∀ k, X k → w.heap.size ≤ k
  below : Below w.heap.size w W
theorem AwZ.up {w : World} {B g : Nat} {L : List (Pfx × Int)} {N : Nat} {W W' : World} (h : AwZ w B g L N W) (hb : Below W.heap.size W W') : AwZ w B g L N W' := by
  obtain ⟨X, h1, h2⟩ := h.tab
  exact ⟨h.p.up hb, h.q.up hb, ⟨X, h1.up hb, h2⟩, below_up h.below hb h.below.size⟩
theorem AwZ.put {w : World} {B g : Nat} {L : List (Pfx × Int)} {N : Nat} {W : World} (h : AwZ w B g L N W) (p : Pfx) (x : Int) (hp : p.addr.length = 16) (hN : N ≤ 900000) :
    Calls Try.prog 8 #[.pointer (some ⟨g, 0, none⟩), p.val, .int .i64 x] W fun e W' => e = .returned (.int .i64 (putE false 2 L p)) ∧ AwZ w B g (putLst false 2 L p x) (N + 150) W' := by
  obtain ⟨X, h1, h2, h3, h4⟩ := h.tab
  refine (putZ p x W h1 hp hN).mono ?_
  rintro e W' ⟨rfl, X', t1, u1⟩
  have hB := h.q.lt
  refine ⟨rfl, h.p.upd u1 h2, h.q.upd u1 h3, ⟨X', t1, fun hx => ?_, fun hx => ?_, fun k hx => ?_⟩, h.below.trans (u1.below w.heap.size h.below.size h4)⟩
  · rcases u1.sub _ hx with h | h
    · exact h2 h
    · omega
  · rcases u1.sub _ hx with h | h
    · exact h3 h
    · omega
  · have hs := h.below.size
    rcases u1.sub _ hx with h | h
    · exact h4 k h
    · omega
theorem AwZ.look {w : World} {B g : Nat} {L : List (Pfx × Int)} {N : Nat} {W : World} (h : AwZ w B g L N W) (a : List UInt8) (ha : a.length = 16) :
    Calls Try.prog 13 #[.pointer (some ⟨g, 0, none⟩), arrV a] W fun e W' => e = .returned (.tuple #[itV ((lookT a L).getD it0).1 ((lookT a L).getD it0).2, .bool (lookT a L).isSome]) ∧ Below W.heap.size W W' := by
  obtain ⟨X, h1, _⟩ := h.tab
  exact lookZ a W h1 ha
set_option maxRecDepth 100000 in
set_option maxHeartbeats 8000000 in
theorem awake9 (w : World) : Calls Try.prog 5 #[] w fun e w' => e = .returned (.bool true) ∧ Below w.heap.size w w' := by
  have HN := Lib.hid (newZ false 2 w (by omega) (by omega))
  have HNN := Lib.hid (fun W => new_none true 0 W (.inl (by omega)))
  have FP : Hid (exP.addr.length = 16) := rfl
  have FQ : Hid (exQ.addr.length = 16) := rfl
  have FZ : Hid (zeroP.addr.length = 16) := rfl
  go_enter Try.func5, Try.ntmps5
  go_wp2_with (go_at_call 6; refine HN.out.mono ?_; rintro e w1 ⟨g, X, rfl, t1, b1, x1⟩; refine Hid.out ?_)
  refine Lib.hid ?_
  have hz : AwZ w w1.heap.size g [] 1 ((w1.alloc (.cells exP.row.toArray 32)).alloc (.cells exQ.row.toArray 32)) := by
    have hT := twoB_new w1 32 32 exP.row exQ.row
    exact ⟨hT.1, hT.2.1, ⟨X, t1.up hT.2.2, fun h => by have := t1.blocks _ h; omega, fun h => by have := t1.blocks _ h; omega, x1⟩, below_up b1 hT.2.2 b1.size⟩
  have HZ := Lib.hid hz
  clear HN t1 b1 x1 hz
  go_wp2_with (first
    | (refine wpList_build1 rfl 30 0 _ rfl (.int .u8 10) (byteVals exP.addr) rfl (by kernel_rfl) ?_)
    | (refine wpList_build2 rfl 32 1 2 (.tmp 14) _ rfl (arrV exP.addr) (.int .i64 8) exP.row rfl rfl (by kernel_rfl) ?_)
    | (refine wpList_store_fresh rfl 32 (.tmp 2) (.tmp 15) rfl exP.row _ w1.heap.size rfl rfl rfl (pf_infoC FP.out) rfl (row_one exP) ?_)
    | (refine wpList_build2 rfl 30 0 1 _ _ rfl (.int .u8 10) (.int .u8 1) (byteVals exQ.addr) rfl rfl (by kernel_rfl) ?_)
    | (refine wpList_build2 rfl 32 1 2 (.tmp 16) _ rfl (arrV exQ.addr) (.int .i64 16) exQ.row rfl rfl (by kernel_rfl) ?_)
    | (refine wpList_store_fresh rfl 32 (.tmp 3) (.tmp 17) rfl exQ.row _ (w1.heap.size + 1) rfl (by simp) rfl (pf_infoC FQ.out) rfl (row_one exQ) ?_; refine Hid.out ?_))
  refine Lib.hid ?_
  have z2 := HZ.out
  clear HZ
  generalize (w1.alloc (.cells exP.row.toArray 32)).alloc (.cells exQ.row.toArray 32) = W2 at *
  generalize w1.heap.size = B at *
  have R2 := Lib.hid (rangeAll z2.p)
  have HP1 := Lib.hid (z2.put exP 1 FP.out (by omega))
  rw [ex_put1.1, ex_put1.2] at HP1
  go_wp2_with (first
    | (refine plV rfl exP.val (exec_load_any _ (.tmp 2) rfl B 0 exP.row _ rfl R2.out Try.underlying32 rfl (pf_infoC FP.out)) ?_)
    | (go_at_call 8; refine HP1.out.mono ?_; rintro e W3 ⟨rfl, z3⟩; refine Hid.out ?_))
  refine Lib.hid ?_
  clear z2 R2 HP1
  have R3 := Lib.hid (rangeAll z3.q)
  have HP2 := Lib.hid (z3.put exQ 2 FQ.out (by omega))
  rw [ex_put2.1, ex_put2.2] at HP2
  go_wp2_with (first
    | (refine plV rfl exQ.val (exec_load_any _ (.tmp 3) rfl (B + 1) 0 exQ.row _ rfl R3.out Try.underlying32 rfl (pf_infoC FQ.out)) ?_)
    | (go_at_call 8; refine HP2.out.mono ?_; rintro e W4 ⟨rfl, z4⟩; refine Hid.out ?_))
  refine Lib.hid ?_
  clear z3 R3 HP2
  have HP3 := Lib.hid (z4.put zeroP 3 FZ.out (by omega))
  rw [ex_put3.1, ex_put3.2] at HP3
  go_wp2_with (first
    | (refine wpList_build0 rfl 32 rfl zeroP.row (by kernel_rfl) ?_)
    | (go_at_call 8; refine HP3.out.mono ?_; rintro e W5 ⟨rfl, z5⟩; refine Hid.out ?_))
  refine Lib.hid ?_
  clear z4 HP3
  have HL1 := Lib.hid (z5.look (adr4 10 1 2 3) rfl)
  rw [ex_look1] at HL1
  go_wp2_with (first
    | (refine plV rfl (arrV (adr4 10 1 2 3)) (by unfold execOp; simp only [List.map_toArray, List.map_cons, List.map_nil, Sem.run_bind, run_build (P := Try.prog) W5 30 #[(0, .int .u8 10), (1, .int .u8 1), (2, .int .u8 2), (3, .int .u8 3)] (byteVals (adr4 10 1 2 3)).toArray (by kernel_rfl), Act.eval, Result.andThen_ok, Sem.run_pure]; rfl) ?_)
    | (go_at_call 13; refine HL1.out.mono ?_; rintro e W6 ⟨rfl, b6⟩; refine Hid.out ?_))
  refine Lib.hid ?_
  have z6 := z5.up b6
  have hbA : Below W6.heap.size W6 (W6.alloc (.cells (itR exQ 2).toArray 44)) := (Below.refl _ _).alloc (Nat.le_refl _) _
  have z6' := z6.up hbA
  have hxA := Bx.new W6 44 (itR exQ 2)
  clear z5 HL1 b6 hbA
  rw [show itV exQ 2 = .agg (itR exQ 2).toArray from rfl]
  go_wp2_with (refine wpList_store_fresh rfl 44 (.tmp 7) (.tmp 31) rfl (itR exQ 2) _ W6.heap.size rfl rfl rfl (it_infoC FQ.out 2) rfl (it_one _ _) ?_; refine Hid.out ?_)
  refine Lib.hid ?_
  generalize W6.alloc (.cells (itR exQ 2).toArray 44) = W7 at *
  generalize W6.heap.size = C7 at *
  have HL2 := Lib.hid (z6'.look (adr4 10 2 0 0) rfl)
  rw [ex_look2] at HL2
  go_wp2_with (first
    | (refine wpList_build2 rfl 30 0 1 _ _ rfl (.int .u8 10) (.int .u8 2) (byteVals (adr4 10 2 0 0)) rfl rfl (by kernel_rfl) ?_)
    | (go_at_call 13; refine HL2.out.mono ?_; rintro e W8 ⟨rfl, b8⟩; refine Hid.out ?_))
  refine Lib.hid ?_
  have z8 := z6'.up b8
  have hx8 := hxA.up b8
  have hbB : Below W8.heap.size W8 (W8.alloc (.cells (itR exP 1).toArray 44)) := (Below.refl _ _).alloc (Nat.le_refl _) _
  have z8' := z8.up hbB
  have hx8' := hx8.up hbB
  have hyB := Bx.new W8 44 (itR exP 1)
  clear z6 z6' hxA HL2 b8 hbB z8 hx8
  rw [show itV exP 1 = .agg (itR exP 1).toArray from rfl]
  go_wp2_with (refine wpList_store_fresh rfl 44 (.tmp 9) (.tmp 37) rfl (itR exP 1) _ W8.heap.size rfl rfl rfl (it_infoC FP.out 1) rfl (it_one _ _) ?_; refine Hid.out ?_)
  refine Lib.hid ?_
  generalize W8.alloc (.cells (itR exP 1).toArray 44) = W9 at *
  generalize W8.heap.size = C9 at *
  have HL3 := Lib.hid (z8'.look (adr4 11 0 0 0) rfl)
  rw [ex_look3] at HL3
  go_wp2_with (first
    | (refine wpList_build1 rfl 30 0 _ rfl (.int .u8 11) (byteVals (adr4 11 0 0 0)) rfl (by kernel_rfl) ?_)
    | (go_at_call 13; refine HL3.out.mono ?_; rintro e W10 ⟨rfl, b10⟩; refine Hid.out ?_))
  refine Lib.hid ?_
  have z10 := z8'.up b10
  have hx10 := hx8'.up b10
  have hy10 := hyB.up b10
  have hbC : Below W10.heap.size W10 (W10.alloc (.cells (itR zeroP 0).toArray 44)) := (Below.refl _ _).alloc (Nat.le_refl _) _
  have z11 := z10.up hbC
  have hx11 := hx10.up hbC
  have hy11 := hy10.up hbC
  clear z8' hx8' hyB HL3 b10 hbC z10 hx10 hy10
  rw [show itV it0.1 it0.2 = .agg (itR zeroP 0).toArray from rfl]
  go_wp2_with (refine wpList_store_fresh rfl 44 (.tmp 11) (.tmp 43) rfl (itR zeroP 0) _ W10.heap.size rfl rfl rfl (it_infoC FZ.out 0) rfl (it_one _ _) ?_; refine Hid.out ?_)
  refine Lib.hid ?_
  generalize W10.alloc (.cells (itR zeroP 0).toArray 44) = W11 at *
  have R1 := Lib.hid (rangeAll hx11)
  have R2 := Lib.hid (rangeAll z11.q)
  have R3 := Lib.hid (hy11.range 0 exP.row it_pre)
  have R4 := Lib.hid (rangeAll z11.p)
  have HLEN : Hid (Calls Try.prog 15 #[.pointer (some ⟨g, 0, none⟩)] W11 fun e w' => e = .returned (.int .i64 2) ∧ w' = W11) := by
    obtain ⟨X, t, _⟩ := z11.tab
    exact lenZ W11 t
  have HALL : Hid (Calls Try.prog 19 #[.pointer (some ⟨g, 0, none⟩)] W11 fun e w' => ∃ a c, e = .returned (.slice a 2 c) ∧ Below W11.heap.size W11 w') := by
    obtain ⟨X, t, _⟩ := z11.tab
    refine Calls.mono (allZ W11 t (by omega)) ?_
    rintro e w' ⟨v, rfl, h1, h2⟩
    obtain ⟨g', cap', rfl, _⟩ := h1.form (by simp)
    exact ⟨_, _, rfl, h2⟩
  have HZ := Lib.hid z11
  clear z11 hx11 hy11
  go_wp2_with (first
    | (refine plV rfl (itV exQ 2) (exec_load_any _ (.tmp 7) rfl C7 0 (itR exQ 2) _ rfl R1.out Try.underlying44 rfl (it_infoC FQ.out 2)) ?_)
    | (refine plV rfl exQ.val (exec_load_any _ (.tmp 3) rfl (B + 1) 0 exQ.row _ rfl R2.out Try.underlying32 rfl (pf_infoC FQ.out)) ?_)
    | (refine plV rfl (itV exQ 2) (exec_build2 _ 0 1 (.tmp 57) _ rfl exQ.val (.int .i64 2) (itR exQ 2) rfl rfl (built_it2 exQ FQ.out 2)) ?_)
    | (refine plV rfl (.bool true) (exec_eql_it 56 58 _ rfl exQ exQ 2 2 FQ.out FQ.out rfl rfl) ?_)
    | (refine plV rfl exP.val (exec_load_any _ (.tmp 65) rfl C9 0 exP.row _ rfl R3.out Try.underlying32 rfl (pf_infoC FP.out)) ?_)
    | (refine plV rfl exP.val (exec_load_any _ (.tmp 2) rfl B 0 exP.row _ rfl R4.out Try.underlying32 rfl (pf_infoC FP.out)) ?_)
    | (refine plV rfl (.bool true) (exec_eql_pfx 66 67 _ rfl exP exP FP.out FP.out rfl rfl) ?_)
    | (go_at_call 15; refine HLEN.out.mono ?_; rintro e w' ⟨rfl, rfl⟩)
    | (go_at_call 19; refine HALL.out.mono ?_; rintro e W12 ⟨va, vc, rfl, b12⟩)
    | (go_at_call 6; refine (HNN.out _).mono ?_; rintro e w' ⟨rfl, rfl⟩))
  go_ret
  exact ⟨rfl, (HZ.out.up b12).below⟩
end Go.Proofs.Ytecefdocemkliaa
