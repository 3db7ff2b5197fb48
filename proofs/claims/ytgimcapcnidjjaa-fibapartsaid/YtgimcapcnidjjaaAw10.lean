/- The live example of chapter 10: it comes out as told. -/
import Derived.Test.YtgimcapcnidjjaaFib4
namespace Go.Proofs.Ytgimcapcnidjjaa
open Go Go.RowKit

def LW (l4 l6 : List (Pfx × Int)) : Bool → List (Pfx × Int) := fun s => if s then l6 else l4
theorem LW_nil : (fun _ => [] : Bool → List (Pfx × Int)) = LW [] [] := by funext s; cases s <;> rfl
def ex6 : Pfx := ⟨true, [0, 0, 0, 0, 0, 0, 0, 0, 0, 0, 0, 0, 0, 0, 0, 0], 0⟩
theorem fex_put1 : fputE true 5 (LW [] []) exP = 0 ∧ fputL true 5 (LW [] []) exP 2 = LW [(exP, 2)] [] := by
  constructor
  · kernel_rfl
  · funext s; cases s <;> kernel_rfl
theorem fex_put2 : fputE true 5 (LW [(exP, 2)] []) exQ = 0 ∧ fputL true 5 (LW [(exP, 2)] []) exQ 3 = LW [(exP, 2), (exQ, 3)] [] := by
  constructor
  · kernel_rfl
  · funext s; cases s <;> kernel_rfl
theorem fex_put3 : fputE true 5 (LW [(exP, 2), (exQ, 3)] []) zeroP = 0 ∧ fputL true 5 (LW [(exP, 2), (exQ, 3)] []) zeroP 1 = LW [(zeroP, 1), (exP, 2), (exQ, 3)] [] := by
  constructor
  · kernel_rfl
  · funext s; cases s <;> kernel_rfl
theorem fex_put4 : fputE true 5 (LW [(zeroP, 1), (exP, 2), (exQ, 3)] []) ex6 = 0 ∧ fputL true 5 (LW [(zeroP, 1), (exP, 2), (exQ, 3)] []) ex6 1 = LW [(zeroP, 1), (exP, 2), (exQ, 3)] [(ex6, 1)] := by
  constructor
  · kernel_rfl
  · funext s; cases s <;> kernel_rfl
theorem fex_above : abvL exQ (LW [(zeroP, 1), (exP, 2), (exQ, 3)] [(ex6, 1)] exQ.six) = [(exP, 2), (zeroP, 1)] := by kernel_rfl
theorem fex_below : belL exP (LW [(zeroP, 1), (exP, 2), (exQ, 3)] [(ex6, 1)] exP.six) = [(exP, 2), (exQ, 3)] := by kernel_rfl
theorem fex_uses : (useL 1 (kindL (LW [(zeroP, 1), (exP, 2), (exQ, 3)] [(ex6, 1)]))).length = 2 := by kernel_rfl
theorem fex_all : (kindL (LW [(zeroP, 1), (exP, 2), (exQ, 3)] [(ex6, 1)])).length = 4 := by kernel_rfl
theorem fex_look : lookT (adr4 9 0 0 0) (LW [(zeroP, 1), (exP, 2), (exQ, 3)] [(ex6, 1)] true) = some (ex6, 1) := by kernel_rfl
/-- What lies there: both prefixes, the tables. -/
structure AwF (w : World) (B : Nat) (pt : Value) (L : Bool → List (Pfx × Int)) (N : Nat) (W : World) : Prop where
  p : Bx W B 25 exP.row
  q : Bx W (B + 1) 25 exQ.row
  tab : ∃ X, FibQ W X pt true 5 L N ∧ ¬ X B ∧ ¬ X (B + 1) ∧ ∀ k, X k → w.heap.size ≤ k
  below : Below w.heap.size w W
theorem AwF.up {w : World} {B : Nat} {pt : Value} {L : Bool → List (Pfx × Int)} {N : Nat} {W W' : World} (h : AwF w B pt L N W) (hb : Below W.heap.size W W') : AwF w B pt L N W' := by
  obtain ⟨X, h1, h2⟩ := h.tab
  exact ⟨h.p.up hb, h.q.up hb, ⟨X, h1.up hb, h2⟩, below_up h.below hb h.below.size⟩
theorem AwF.put {w : World} {B : Nat} {pt : Value} {L : Bool → List (Pfx × Int)} {N : Nat} {W : World} (h : AwF w B pt L N W) (p : Pfx) (x : Int) (hp : p.addr.length = 16) (hN : N ≤ 900000) :
    Calls Try.prog 9 #[pt, p.val, .int .i64 x] W fun e W' => e = .returned (.int .i64 (fputE true 5 L p)) ∧ AwF w B pt (fputL true 5 L p x) (N + 150) W' := by
  obtain ⟨X, h1, h2, h3, h4⟩ := h.tab
  refine (fput p x W h1 hp hN).mono ?_
  rintro e W' ⟨rfl, X', t1, u1⟩
  have hB := h.q.lt
  have hs := h.below.size
  refine ⟨rfl, h.p.upd u1 h2, h.q.upd u1 h3, ⟨X', t1, fun hx => ?_, fun hx => ?_, fun k hx => ?_⟩, h.below.trans (u1.below w.heap.size h.below.size h4)⟩
  · rcases u1.sub _ hx with h | h
    · exact h2 h
    · omega
  · rcases u1.sub _ hx with h | h
    · exact h3 h
    · omega
  · rcases u1.sub _ hx with h | h
    · exact h4 k h
    · omega
set_option maxRecDepth 100000 in
set_option maxHeartbeats 8000000 in
theorem awake10 (w : World) : Calls Try.prog 6 #[] w fun e w' => e = .returned (.bool true) ∧ Below w.heap.size w w' := by
  have HN := Lib.hid (fnew 5 w (by omega) (by omega))
  rw [LW_nil] at HN
  have HNN := Lib.hid (fun W => fnew_none 0 W (.inl (by omega)))
  have FP : Hid (exP.addr.length = 16) := rfl
  have FQ : Hid (exQ.addr.length = 16) := rfl
  have FZ : Hid (zeroP.addr.length = 16) := rfl
  have F6 : Hid (ex6.addr.length = 16) := rfl
  go_enter Try.func6, Try.ntmps6
  go_wp2_with (go_at_call 7; refine HN.out.mono ?_; rintro e w1 ⟨g, X, rfl, t1, b1, x1⟩; refine Hid.out ?_)
  refine Lib.hid ?_
  have hz : AwF w w1.heap.size (.pointer (some ⟨g, 0, none⟩)) (LW [] []) 1 ((w1.alloc (.cells exP.row.toArray 25)).alloc (.cells exQ.row.toArray 25)) := by
    have hT := twoB_new w1 25 25 exP.row exQ.row
    exact ⟨hT.1, hT.2.1, ⟨X, t1.up hT.2.2, fun h => by have := t1.low _ h; omega, fun h => by have := t1.low _ h; omega, x1⟩, below_up b1 hT.2.2 b1.size⟩
  have HZ := Lib.hid hz
  clear HN t1 b1 x1 hz
  go_wp2_with (first
    | (refine wpList_build1 rfl 23 0 _ rfl (.int .u8 10) (byteVals exP.addr) rfl (by kernel_rfl) ?_)
    | (refine wpList_build2 rfl 25 1 2 (.tmp 12) _ rfl (arrV exP.addr) (.int .i64 8) exP.row rfl rfl (by kernel_rfl) ?_)
    | (refine wpList_store_fresh rfl 25 (.tmp 2) (.tmp 13) rfl exP.row _ w1.heap.size rfl rfl rfl (pf_infoC FP.out) rfl (row_one exP) ?_)
    | (refine wpList_build2 rfl 23 0 1 _ _ rfl (.int .u8 10) (.int .u8 1) (byteVals exQ.addr) rfl rfl (by kernel_rfl) ?_)
    | (refine wpList_build2 rfl 25 1 2 (.tmp 14) _ rfl (arrV exQ.addr) (.int .i64 16) exQ.row rfl rfl (by kernel_rfl) ?_)
    | (refine wpList_store_fresh rfl 25 (.tmp 3) (.tmp 15) rfl exQ.row _ (w1.heap.size + 1) rfl (by simp) rfl (pf_infoC FQ.out) rfl (row_one exQ) ?_; refine Hid.out ?_))
  refine Lib.hid ?_
  have z2 := HZ.out
  clear HZ
  generalize (w1.alloc (.cells exP.row.toArray 25)).alloc (.cells exQ.row.toArray 25) = W2 at *
  generalize w1.heap.size = B at *
  have R2 := Lib.hid (rangeAll z2.p)
  have HP1 := Lib.hid (z2.put exP 2 FP.out (by omega))
  rw [fex_put1.1, fex_put1.2] at HP1
  go_wp2_with (first
    | (refine plV rfl exP.val (exec_load_any _ (.tmp 2) rfl B 0 exP.row _ rfl R2.out Try.underlying25 rfl (pf_infoC FP.out)) ?_)
    | (go_at_call 9; refine HP1.out.mono ?_; rintro e W3 ⟨rfl, z3⟩; refine Hid.out ?_))
  refine Lib.hid ?_
  clear z2 R2 HP1
  have R3 := Lib.hid (rangeAll z3.q)
  have HP2 := Lib.hid (z3.put exQ 3 FQ.out (by omega))
  rw [fex_put2.1, fex_put2.2] at HP2
  go_wp2_with (first
    | (refine plV rfl exQ.val (exec_load_any _ (.tmp 3) rfl (B + 1) 0 exQ.row _ rfl R3.out Try.underlying25 rfl (pf_infoC FQ.out)) ?_)
    | (go_at_call 9; refine HP2.out.mono ?_; rintro e W4 ⟨rfl, z4⟩; refine Hid.out ?_))
  refine Lib.hid ?_
  clear z3 R3 HP2
  have HP3 := Lib.hid (z4.put zeroP 1 FZ.out (by omega))
  rw [fex_put3.1, fex_put3.2] at HP3
  go_wp2_with (first
    | (refine wpList_build0 rfl 25 rfl zeroP.row (by kernel_rfl) ?_)
    | (go_at_call 9; refine HP3.out.mono ?_; rintro e W5 ⟨rfl, z5⟩; refine Hid.out ?_))
  refine Lib.hid ?_
  clear z4 HP3
  have HP4 := Lib.hid (z5.put ex6 1 F6.out (by omega))
  rw [fex_put4.1, fex_put4.2] at HP4
  go_wp2_with (first
    | (refine wpList_build1 rfl 25 0 _ rfl (.bool true) ex6.row rfl (by kernel_rfl) ?_)
    | (go_at_call 9; refine HP4.out.mono ?_; rintro e W6 ⟨rfl, z6⟩; refine Hid.out ?_))
  refine Lib.hid ?_
  clear z5 HP4
  have R6 := Lib.hid (rangeAll z6.q)
  have HAB : Hid (Calls Try.prog 22 #[.pointer (some ⟨g, 0, none⟩), exQ.val] W6 fun e w' => ∃ va vc, e = .returned (.slice va 2 vc) ∧ IsC itF 19 w' (.slice va 2 vc) [(exP, 2), (zeroP, 1)] ∧ Below W6.heap.size W6 w') := by
    obtain ⟨X, t, _⟩ := z6.tab
    have := fabove exQ t (by omega) FQ.out
    rw [fex_above] at this
    exact this
  go_wp2_with (first
    | (refine plV rfl exQ.val (exec_load_any _ (.tmp 3) rfl (B + 1) 0 exQ.row _ rfl R6.out Try.underlying25 rfl (pf_infoC FQ.out)) ?_)
    | (go_at_call 22; refine HAB.out.mono ?_; rintro e W7 ⟨va, vc, rfl, l7, b7⟩; refine Hid.out ?_))
  refine Lib.hid ?_
  have z7 := z6.up b7
  obtain ⟨_, hvc, hvm, _⟩ := l7.shape
  unfold maxLen at hvm
  clear z6 R6 HAB b7
  have HLK : Hid (Calls Try.prog 13 #[.pointer (some ⟨g, 0, none⟩), .bool true, arrV (adr4 9 0 0 0)] W7 fun e w' => e = .returned (.tuple #[itV ex6 1, .bool true]) ∧ Below W7.heap.size W7 w') := by
    obtain ⟨X, t, _⟩ := z7.tab
    have := flook true (adr4 9 0 0 0) W7 t rfl
    rw [fex_look] at this
    exact this
  go_wp2_with (first
    | (refine wpList_build1 rfl 23 0 _ rfl (.int .u8 9) (byteVals (adr4 9 0 0 0)) rfl (by kernel_rfl) ?_)
    | (go_at_call 13; refine HLK.out.mono ?_; rintro e W8 ⟨rfl, b8⟩; refine Hid.out ?_))
  refine Lib.hid ?_
  have hbA : Below W8.heap.size W8 (W8.alloc (.cells (itR ex6 1).toArray 44)) := (Below.refl _ _).alloc (Nat.le_refl _) _
  have z9 := (z7.up b8).up hbA
  have l9 := (l7.below b8).below hbA
  have x9 := Bx.new W8 44 (itR ex6 1)
  clear z7 l7 HLK b8 hbA
  rw [show itV ex6 1 = .agg (itR ex6 1).toArray from rfl]
  go_wp2_with (refine wpList_store_fresh rfl 44 (.tmp 9) (.tmp 35) rfl (itR ex6 1) _ W8.heap.size rfl rfl rfl (it_infoC F6.out 1) rfl (it_one _ _) ?_; refine Hid.out ?_)
  refine Lib.hid ?_
  generalize W8.alloc (.cells (itR ex6 1).toArray 44) = W9 at *
  generalize W8.heap.size = C at *
  obtain ⟨b, k, rfl, hbl, r0⟩ := isC_at l9 0 (exP, 2) rfl
  obtain ⟨b', k', e', _, r1⟩ := isC_at l9 1 (zeroP, 1) rfl
  cases e'
  have v0 : W9.cell? ⟨b, k + 18, none⟩ = some (.int .i64 2) := by
    have := r0 18 _ (it_v FP.out)
    rwa [Nat.zero_mul, Nat.add_zero] at this
  have v1 : W9.cell? ⟨b, k + 19 + 18, none⟩ = some (.int .i64 1) := by
    have := r1 18 _ (it_v FZ.out)
    rwa [Nat.one_mul] at this
  have R9 := Lib.hid (rangeAll z9.p)
  have HBE : Hid (Calls Try.prog 24 #[.pointer (some ⟨g, 0, none⟩), exP.val] W9 fun e w' => ∃ va vc, e = .returned (.slice va 2 vc) ∧ Below W9.heap.size W9 w') := by
    obtain ⟨X, t, _⟩ := z9.tab
    have := fbelow exP t (by omega) FP.out
    rw [fex_below] at this
    refine this.mono ?_
    rintro e w' ⟨va, vc, rfl, _, hb⟩
    exact ⟨va, vc, rfl, hb⟩
  have HZ9 := Lib.hid z9
  have HX9 := Lib.hid x9
  clear r0 r1 z9 x9 l9
  go_wp2_with (first
    | (refine plV rfl exP.val (exec_load_any _ (.tmp 2) rfl B 0 exP.row _ rfl R9.out Try.underlying25 rfl (pf_infoC FP.out)) ?_)
    | (go_at_call 24; refine HBE.out.mono ?_; rintro e W10 ⟨ua, uc, rfl, b10⟩; refine Hid.out ?_))
  refine Lib.hid ?_
  have z10 := HZ9.out.up b10
  have x10 := HX9.out.up b10
  have HUS : Hid (Calls Try.prog 17 #[.pointer (some ⟨g, 0, none⟩), .int .i64 1] W10 fun e w' => e = .returned (.int .i64 2) ∧ Below W10.heap.size W10 w') := by
    obtain ⟨X, t, _⟩ := z10.tab
    have := fuses 1 t (by omega)
    rw [fex_uses] at this
    exact this
  clear v0 v1 R9 HBE HZ9 HX9 b10
  go_wp2_with (go_at_call 17; refine HUS.out.mono ?_; rintro e W11 ⟨rfl, b11⟩; refine Hid.out ?_)
  refine Lib.hid ?_
  have z11 := z10.up b11
  have x11 := x10.up b11
  have c18 : W11.cell? ⟨C, 18, none⟩ = some (.int .i64 1) := by rw [x11.cell]; rfl
  have HAL : Hid (Calls Try.prog 20 #[.pointer (some ⟨g, 0, none⟩)] W11 fun e w' => ∃ va vc, e = .returned (.slice va 4 vc) ∧ Below W11.heap.size W11 w') := by
    obtain ⟨X, t, _⟩ := z11.tab
    have := fall t (by omega)
    rw [fex_all] at this
    refine this.mono ?_
    rintro e w' ⟨va, vc, rfl, _, hb⟩
    exact ⟨va, vc, rfl, hb⟩
  have HZ11 := Lib.hid z11
  clear HUS z10 x10 b11 z11 x11
  go_wp2_with (first
    | (go_at_call 20; refine HAL.out.mono ?_; rintro e W12 ⟨xa, xc, rfl, b12⟩)
    | (go_at_call 7; refine (HNN.out _).mono ?_; rintro e w' ⟨rfl, rfl⟩))
  go_ret
  exact ⟨rfl, (HZ11.out.up b12).below⟩
end Go.Proofs.Ytgimcapcnidjjaa
