/- Package pool: Sum. -/
import Derived.Test.YtoliijajhikhgaaDoorPo9
import Derived.Defers
import Derived.Recover
namespace Go.Proofs.YtoliijajhikhgaaDoor
open Go Go.RowKit Go.Shelf
attribute [local go_sem] Oper.semAt_some

set_option maxRecDepth 100000 in
theorem catch_idle (p q : Addr) (w : World) :
    CallsD Tryd.prog 32 #[.pointer (some p), .pointer (some q)] .returning w fun e u' w' => e = .returned (.tuple #[]) ∧ u' = .returning ∧ w' = w := by
  refine callsD_of_wpS Tryd.func32 rfl fun c₀ cs hu => ?_
  apply wpS_seq
  apply wpS_region
  simp [wpOpsS, go_sem, recoverD, hu, Tryd.ntmps32, Exit.thenS]
  refine wpS_cond (t := false) (by simp [Act.eval, Array.replicate]) ?_
  simp only [Bool.false_eq_true, if_false]
  refine wpS_of_wp (wp_skip ?_)
  cases c₀
  simp_all [bodyPostS, results, Tryd.results32]
set_option maxRecDepth 100000 in
theorem catch_panicking (g : Nat) (x y : Value) (u : TypeId) (pv : Value) (older : List PanicEntry) (w : World) (h1 : Bx w g 3 [x]) (h2 : Bx w (g + 1) 4 [y]) :
    CallsD Tryd.prog 32 #[.pointer (some ⟨g, 0, none⟩), .pointer (some ⟨g + 1, 0, none⟩)] (.panicking ({ v := .iface u pv, recovered := false } :: older)) w fun e u' w' =>
      e = .returned (.tuple #[]) ∧ u' = .panicking ({ v := .iface u pv, recovered := true } :: older) ∧ w' = (w.setCell ⟨g, 0, none⟩ (.int .i64 0)).setCell ⟨g + 1, 0, none⟩ (.bool false) := by
  have hc1 : w.cell? ⟨g, 0, none⟩ = some x := h1.cell 0
  have hf1 := h1.frozen 0
  have hb := h2.setOther (k := g) (by omega) 0 (.int .i64 0)
  have hc2 : (w.setCell ⟨g, 0, none⟩ (.int .i64 0)).cell? ⟨g + 1, 0, none⟩ = some y := hb.cell 0
  have hf2 := hb.frozen 0
  refine callsD_of_wpS Tryd.func32 rfl fun c₀ cs hu => ?_
  apply wpS_seq
  apply wpS_region
  simp [wpOpsS, go_sem, recoverD, hu, Tryd.ntmps32, Exit.thenS]
  refine wpS_cond (t := true) (by simp [Act.eval, Array.replicate]) ?_
  simp only [if_true]
  apply wpS_region
  simp [wpOpsS, go_sem, hc1, hf1, hc2, hf2, bodyPostS, results, Tryd.results32]
/-- Sum's two boxes -/
structure SumB (w W : World) (n : Int) (b : Bool) : Prop where
  n : Bx W w.heap.size 3 [.int .i64 n]
  b : Bx W (w.heap.size + 1) 4 [.bool b]
  low : Below w.heap.size w W
section
variable {w W W' : World} {n : Int} {b : Bool}
theorem SumB.up (h : SumB w W n b) (hb : Below W.heap.size W W') : SumB w W' n b := ⟨h.n.up hb, h.b.up hb, below_up h.low hb h.low.size⟩
theorem SumB.put (h : SumB w W n b) (m : Int) : SumB w (W.setCell ⟨w.heap.size, 0, none⟩ (.int .i64 m)) m b := ⟨h.n.set 0 _, h.b.setOther (by omega) 0 _, h.low.setCell (p := ⟨w.heap.size, 0, none⟩) (Nat.le_refl _) _⟩
theorem SumB.tell (h : SumB w W n b) (c : Bool) : SumB w (W.setCell ⟨w.heap.size + 1, 0, none⟩ (.bool c)) n c := ⟨h.n.setOther (by omega) 0 _, h.b.set 0 _, h.low.setCell (p := ⟨w.heap.size + 1, 0, none⟩) (Nat.le_succ _) _⟩
end
theorem sumB_new (w : World) : SumB w ((w.alloc (.cells #[.int .i64 0] 3)).alloc (.cells #[.bool false] 4)) 0 false := by
  have h := twoB_new w 3 4 [.int .i64 0] [.bool false]
  exact ⟨h.1, h.2.1, h.2.2⟩
def SumH (g : Nat) (n : Int) (W : World) : Prop := W.cell? ⟨g, 0, none⟩ = some (.int .i64 n)
set_option maxRecDepth 100000 in
theorem as_int (W : World) (u : Value) : (Instr.typeAssert (.iface 3 u) 20 3 false).run Tryd.prog W = .ok u W := by kernel_rfl
set_option maxRecDepth 100000 in
theorem as_int_bad (W : World) (u : Value) : ∃ t pv cs ty, (Instr.typeAssert (.iface 9 u) 20 3 false).run Tryd.prog W = .halt (.panic (.iface t pv)) (W.alloc (.cells cs ty)) := ⟨_, _, _, _, rfl⟩
/-- What is known where an assertion has failed. -/
def SumQ (w : World) (D : List Deferred) : Exit → Act → World → Prop
  | .panic c, a, W => (∃ t pv, c = [{ v := .iface t pv, recovered := false }]) ∧ a.defers = D ∧ a.tmps.getD 4 undef = .pointer (some ⟨w.heap.size, 0, none⟩) ∧ a.tmps.getD 5 undef = .pointer (some ⟨w.heap.size + 1, 0, none⟩) ∧ ∃ n, SumB w W n false
  | _, _, _ => False
theorem SumQ.unput {w : World} {D : List Deferred} {c : List PanicEntry} {a : Act} {d : Nat} {v : Value} {W : World} (h : SumQ w D (.panic c) (a.put (some d) v) W) (h4 : d ≠ 4) (h5 : d ≠ 5) : SumQ w D (.panic c) a W := by
  obtain ⟨h1, h2, h3, h6, h7⟩ := h
  refine ⟨h1, h2, ?_, ?_, h7⟩
  · rw [← h3]; simp [Act.put, h4]
  · rw [← h6]; simp [Act.put, h5]
section
variable {base pt : Nat} {room : Int} {T : List (Value × Int)} {vt vk : Value} {ks : List Nat}
set_option maxRecDepth 100000 in
set_option maxHeartbeats 8000000 in
theorem psum_yes (l : List Int) (v : Value) (w : World) (h : PoolM w base pt room T vt vk ks) (hl : IsC intR 1 w v l) (hll : l.length ≤ 100) (hal : ∀ x ∈ l, ∃ n, atT T x = (.iface 3 (.int .i64 7), n)) :
    Calls Tryd.prog 22 #[.pointer (some ⟨pt, 0, none⟩), v] w fun e w' => e = .returned (.tuple #[.int .i64 (7 * (l.length : Int)), .bool true]) ∧ Below w.heap.size w w' := by
  obtain ⟨a1, k1, rfl⟩ := isc_slice hl
  have hmf : ∀ (fn : Fn) (first cap : Array Value) (w : World), (Instr.makeFunc fn first cap).run Tryd.prog w = .ok (.func fn first cap) w := fun _ _ _ _ => rfl
  have HS0 := Lib.hid (sumB_new w)
  have HP := Lib.hid h
  have HL := Lib.hid hl
  have HAL := Lib.hid hal
  clear h hl hal
  go_enter_defers Tryd.func22, Tryd.ntmps22
  go_wp2_with fail
  go_loopw [13] (fun r wr => ∃ j : Nat, j ≤ l.length ∧ r = .int .i64 (j : Int) ∧ Hid (SumB w wr (7 * (j : Int)) false)) (fun r _ => l.length - (intOf r).toNat)
  case atStart => exact ⟨0, Nat.zero_le _, rfl, HS0⟩
  case round =>
    obtain ⟨j, hj, rfl, HS⟩ := hrel
    by_cases hlt : j < l.length
    · have hlti : (j : Int) < (l.length : Int) := by omega
      have h0j : ¬ (j : Int) < 0 := by omega
      obtain ⟨x, hx⟩ : ∃ x, l[j]? = some x := ⟨_, List.getElem?_eq_getElem hlt⟩
      obtain ⟨_, _, _, h4⟩ := (HL.out.below HS.out.low).shape
      obtain ⟨gb, ob, rfl, hgb, hrb⟩ := h4 (by omega)
      have cx : wr.cell? ⟨gb, ob + j, none⟩ = some (.int .i64 x) := by
        have := flat_range (f := intR) (c := 1) (fun _ _ => rfl) hrb j x hx 0 _ rfl
        simpa using this
      obtain ⟨n, hn⟩ := HAL.out x (List.mem_of_getElem? hx)
      have HSD := Lib.hid (HS.out.up (Below.refl _ _).drew)
      have HA := Lib.hid (pat_any x wr.drew (HP.out.up HSD.out.low))
      rw [hn, show (thR (.iface 3 (.int .i64 7), n)).toArray = #[.iface 3 (.int .i64 7), .int .i64 n] from rfl] at HA
      have hS0 : SumH w.heap.size (7 * (j : Int)) wr.drew := HSD.out.n.cell 0
      clear hn h4 hrb hgb hx
      go_wp2_with fail
      refine wp_region_noPanic ?_
      refine wp_region_late (SumH w.heap.size (7 * (j : Int))) 7 (by kernel_rfl) hS0 (fun hHeld => ?_)
      generalize wr.drew = wd at *
      refine late_take (v := ?v0) 0 [7, 0] rfl (by kernel_rfl) (by kernel_rfl) (by kernel_rfl) (fun _ _ _ h => h) (by kernel_rfl) (by kernel_rfl) (by decide) (by kernel_rfl) rfl rfl (by rfl) ?y0 (by assumption) ?_
      case y0 => (intro w hSw; unfold SumH at hSw; go_simp; (try with_reducible rfl); (try omega))
      simp only [List.setIfInBounds_toArray, List.set_cons_zero, List.set_cons_succ]
      refine late_take (v := ?v1) 1 [7, 1] rfl (by kernel_rfl) (by kernel_rfl) (by kernel_rfl) (fun _ _ _ h => h) (by kernel_rfl) (by kernel_rfl) (by decide) (by kernel_rfl) rfl rfl (by rfl) ?y1 (by assumption) ?_
      case y1 => (intro w hSw; unfold SumH at hSw; go_simp; (try with_reducible rfl); (try omega))
      simp only [List.setIfInBounds_toArray, List.set_cons_zero, List.set_cons_succ]
      refine late_take (v := ?v2) 2 [7, 2] rfl (by kernel_rfl) (by kernel_rfl) (by kernel_rfl) (fun _ _ _ h => h) (by kernel_rfl) (by kernel_rfl) (by decide) (by kernel_rfl) rfl rfl (by rfl) ?y2 (by assumption) ?_
      case y2 => (intro w hSw; unfold SumH at hSw; go_simp; (try with_reducible rfl); (try omega))
      simp only [List.setIfInBounds_toArray, List.set_cons_zero, List.set_cons_succ]
      refine late_one 3 rfl (by kernel_rfl) (by rfl) (fun K hK => ?_)
      go_simp
      refine HA.out.mono ?_
      rintro e w2 ⟨rfl, b2⟩
      have HS2 := Lib.hid (HSD.out.up b2)
      have hS2 : SumH w.heap.size (7 * (j : Int)) w2 := HS2.out.n.cell 0
      refine hK.out _ _ (.inr hS2) (fun _ => ?_)
      clear hK K HA hS0 hHeld HSD cx
      refine late_one 4 rfl (by kernel_rfl) (by rfl) (fun K hK => ?_)
      refine wp_of_value (v := .iface 3 (.int .i64 7)) (w' := w2) (by go_simp; simp [field14_0]) ?_
      refine hK.out _ _ (.inr hS2) (fun _ => ?_)
      simp only [List.setIfInBounds_toArray, List.set_cons_zero, List.set_cons_succ]
      clear hK K
      refine late_one 5 rfl (by kernel_rfl) (by rfl) (fun K hK => ?_)
      refine wp_of_value (v := .int .i64 7) (w' := w2) (by go_simp; simp [as_int]) ?_
      refine hK.out _ _ (.inr hS2) (fun _ => ?_)
      simp only [List.setIfInBounds_toArray, List.set_cons_zero, List.set_cons_succ]
      clear hK K
      have kk : IntKind.i64.wrap (7 * (j : Int) + 7) = 7 * ((j + 1 : Nat) : Int) := by simp [IntKind.wrap, IntKind.bits, IntKind.signed]; omega
      have kj : IntKind.i64.wrap ((j : Int) + 1) = ((j + 1 : Nat) : Int) := by simp [IntKind.wrap, IntKind.bits, IntKind.signed]; omega
      have cc : w2.cell? ⟨w.heap.size, 0, none⟩ = some (.int .i64 (7 * (j : Int))) := hS2
      have cf := HS2.out.n.frozen 0
      refine late_one 6 rfl (by kernel_rfl) (by rfl) (fun K hK => ?_)
      refine wp_of_value (v := .int .i64 (7 * ((j + 1 : Nat) : Int))) (w' := w2) (by rw [← kk]; go_simp) ?_
      refine hK.out _ _ (.inr hS2) (fun _ => ?_)
      simp only [List.setIfInBounds_toArray, List.set_cons_zero, List.set_cons_succ]
      clear hK K
      refine late_one 7 rfl (by kernel_rfl) (by rfl) (fun K hK => ?_)
      refine wp_of_skip (w' := w2.setCell ⟨w.heap.size, 0, none⟩ (.int .i64 (7 * ((j + 1 : Nat) : Int)))) (by go_simp) ?_
      refine hK.out _ _ (.inl (by kernel_rfl)) (fun _ => ?_)
      clear hK K
      refine late_done (by kernel_rfl) ?_ _
      refine NoPanic.normal ?_
      have HS3 := Lib.hid (HS2.out.put (7 * ((j + 1 : Nat) : Int)))
      clear HS2 hS2 cc cf
      generalize w2.setCell ⟨w.heap.size, 0, none⟩ (.int .i64 (7 * ((j + 1 : Nat) : Int))) = w3 at *
      go_wp2
      go_roundw
      case rel => exact ⟨j + 1, hlt, by go_num, HS3⟩
      case measure => simp [intOf]; omega
    · obtain rfl : j = l.length := by omega
      have hni : ¬ (l.length : Int) < (l.length : Int) := by omega
      have cc := (HS.out.n.cell 0).trans (show _ = some (.int .i64 (7 * (l.length : Int))) from rfl)
      have cf := HS.out.n.frozen 0
      have H1 := Lib.hid (HS.out.put (7 * (l.length : Int)))
      have c1 := (H1.out.b.cell 0).trans (show _ = some (.bool false) from rfl)
      have f1 := H1.out.b.frozen 0
      have H2 := Lib.hid (H1.out.tell true)
      have r1 := (H2.out.n.cell 0).trans (show _ = some (.int .i64 (7 * (l.length : Int))) from rfl)
      have r2 := (H2.out.b.cell 0).trans (show _ = some (.bool true) from rfl)
      have HB := Lib.hid H2.out.low
      clear HS H1 H2
      go_wp2
      generalize (wr.setCell ⟨w.heap.size, 0, none⟩ (.int .i64 (7 * (l.length : Int)))).setCell ⟨w.heap.size + 1, 0, none⟩ (.bool true) = w4 at *
      refine leaves_cons (f := 32) (args := #[.pointer (some ⟨w.heap.size, 0, none⟩), .pointer (some ⟨w.heap.size + 1, 0, none⟩)]) (by simp) (by simp [go_sem]) ?_
      refine (catch_idle ⟨w.heap.size, 0, none⟩ ⟨w.heap.size + 1, 0, none⟩ _).mono ?_
      rintro e u' w'' ⟨rfl, rfl, rfl⟩
      simp [Leaves, settle, results, Tryd.results22, go_sem, r1, r2]
      exact HB.out
set_option maxRecDepth 100000 in
set_option maxHeartbeats 1000000 in
theorem psum_no (pre post : List Int) (x0 : Int) (u0 : Value) (v : Value) (w : World) (h : PoolM w base pt room T vt vk ks) (hl : IsC intR 1 w v (pre ++ x0 :: post)) (hll : pre.length ≤ 100) (hal : ∀ x ∈ pre, ∃ n, atT T x = (.iface 3 (.int .i64 7), n)) (n0 : Int) (h0 : atT T x0 = (.iface 9 u0, n0)) :
    Calls Tryd.prog 22 #[.pointer (some ⟨pt, 0, none⟩), v] w fun e w' => e = .returned (.tuple #[.int .i64 0, .bool false]) ∧ Below w.heap.size w w' := by
  obtain ⟨a1, k1, rfl⟩ := isc_slice hl
  have hmf : ∀ (fn : Fn) (first cap : Array Value) (w : World), (Instr.makeFunc fn first cap).run Tryd.prog w = .ok (.func fn first cap) w := fun _ _ _ _ => rfl
  have HS0 := Lib.hid (sumB_new w)
  have HP := Lib.hid h
  have HL := Lib.hid hl
  have HAL := Lib.hid hal
  clear h hl hal
  go_enter_defers Tryd.func22, Tryd.ntmps22
  go_wp2_with fail
  go_loopw [13] (fun r wr => ∃ j : Nat, j ≤ pre.length ∧ r = .int .i64 (j : Int) ∧ Hid (SumB w wr (7 * (j : Int)) false)) (fun r _ => (pre ++ x0 :: post).length - (intOf r).toNat)
  case atStart => exact ⟨0, Nat.zero_le _, rfl, HS0⟩
  case round =>
    obtain ⟨j, hj, rfl, HS⟩ := hrel
    by_cases hlt : j < pre.length
    · have hlti : (j : Int) < ((pre ++ x0 :: post).length : Int) := by simp; omega
      have h0j : ¬ (j : Int) < 0 := by omega
      obtain ⟨x, hx'⟩ : ∃ x, pre[j]? = some x := ⟨_, List.getElem?_eq_getElem hlt⟩
      have hx : (pre ++ x0 :: post)[j]? = some x := by rw [List.getElem?_append_left hlt]; exact hx'
      obtain ⟨_, _, _, h4⟩ := (HL.out.below HS.out.low).shape
      obtain ⟨gb, ob, rfl, hgb, hrb⟩ := h4 (by simp; omega)
      have cx : wr.cell? ⟨gb, ob + j, none⟩ = some (.int .i64 x) := by
        have := flat_range (f := intR) (c := 1) (fun _ _ => rfl) hrb j x hx 0 _ rfl
        simpa using this
      obtain ⟨n, hn⟩ := HAL.out x (List.mem_of_getElem? hx')
      have HSD := Lib.hid (HS.out.up (Below.refl _ _).drew)
      have HA := Lib.hid (pat_any x wr.drew (HP.out.up HSD.out.low))
      rw [hn, show (thR (.iface 3 (.int .i64 7), n)).toArray = #[.iface 3 (.int .i64 7), .int .i64 n] from rfl] at HA
      have hS0 : SumH w.heap.size (7 * (j : Int)) wr.drew := HSD.out.n.cell 0
      clear hn h4 hrb hgb hx
      go_wp2_with fail
      refine wp_region_noPanic ?_
      refine wp_region_late (SumH w.heap.size (7 * (j : Int))) 7 (by kernel_rfl) hS0 (fun hHeld => ?_)
      generalize wr.drew = wd at *
      refine late_take (v := ?v0) 0 [7, 0] rfl (by kernel_rfl) (by kernel_rfl) (by kernel_rfl) (fun _ _ _ h => h) (by kernel_rfl) (by kernel_rfl) (by decide) (by kernel_rfl) rfl rfl (by rfl) ?y0 (by assumption) ?_
      case y0 => (intro w hSw; unfold SumH at hSw; go_simp; (try with_reducible rfl); (try omega))
      simp only [List.setIfInBounds_toArray, List.set_cons_zero, List.set_cons_succ]
      refine late_take (v := ?v1) 1 [7, 1] rfl (by kernel_rfl) (by kernel_rfl) (by kernel_rfl) (fun _ _ _ h => h) (by kernel_rfl) (by kernel_rfl) (by decide) (by kernel_rfl) rfl rfl (by rfl) ?y1 (by assumption) ?_
      case y1 => (intro w hSw; unfold SumH at hSw; go_simp; (try with_reducible rfl); (try omega))
      simp only [List.setIfInBounds_toArray, List.set_cons_zero, List.set_cons_succ]
      refine late_take (v := ?v2) 2 [7, 2] rfl (by kernel_rfl) (by kernel_rfl) (by kernel_rfl) (fun _ _ _ h => h) (by kernel_rfl) (by kernel_rfl) (by decide) (by kernel_rfl) rfl rfl (by rfl) ?y2 (by assumption) ?_
      case y2 => (intro w hSw; unfold SumH at hSw; go_simp; (try with_reducible rfl); (try omega))
      simp only [List.setIfInBounds_toArray, List.set_cons_zero, List.set_cons_succ]
      refine late_one 3 rfl (by kernel_rfl) (by rfl) (fun K hK => ?_)
      go_simp
      refine HA.out.mono ?_
      rintro e w2 ⟨rfl, b2⟩
      have HS2 := Lib.hid (HSD.out.up b2)
      have hS2 : SumH w.heap.size (7 * (j : Int)) w2 := HS2.out.n.cell 0
      refine hK.out _ _ (.inr hS2) (fun _ => ?_)
      clear hK K HA hS0 hHeld HSD cx
      refine late_one 4 rfl (by kernel_rfl) (by rfl) (fun K hK => ?_)
      refine wp_of_value (v := .iface 3 (.int .i64 7)) (w' := w2) (by go_simp; simp [field14_0]) ?_
      refine hK.out _ _ (.inr hS2) (fun _ => ?_)
      simp only [List.setIfInBounds_toArray, List.set_cons_zero, List.set_cons_succ]
      clear hK K
      refine late_one 5 rfl (by kernel_rfl) (by rfl) (fun K hK => ?_)
      refine wp_of_value (v := .int .i64 7) (w' := w2) (by go_simp; simp [as_int]) ?_
      refine hK.out _ _ (.inr hS2) (fun _ => ?_)
      simp only [List.setIfInBounds_toArray, List.set_cons_zero, List.set_cons_succ]
      clear hK K
      have kk : IntKind.i64.wrap (7 * (j : Int) + 7) = 7 * ((j + 1 : Nat) : Int) := by simp [IntKind.wrap, IntKind.bits, IntKind.signed]; omega
      have kj : IntKind.i64.wrap ((j : Int) + 1) = ((j + 1 : Nat) : Int) := by simp [IntKind.wrap, IntKind.bits, IntKind.signed]; omega
      have cc : w2.cell? ⟨w.heap.size, 0, none⟩ = some (.int .i64 (7 * (j : Int))) := hS2
      have cf := HS2.out.n.frozen 0
      refine late_one 6 rfl (by kernel_rfl) (by rfl) (fun K hK => ?_)
      refine wp_of_value (v := .int .i64 (7 * ((j + 1 : Nat) : Int))) (w' := w2) (by rw [← kk]; go_simp) ?_
      refine hK.out _ _ (.inr hS2) (fun _ => ?_)
      simp only [List.setIfInBounds_toArray, List.set_cons_zero, List.set_cons_succ]
      clear hK K
      refine late_one 7 rfl (by kernel_rfl) (by rfl) (fun K hK => ?_)
      refine wp_of_skip (w' := w2.setCell ⟨w.heap.size, 0, none⟩ (.int .i64 (7 * ((j + 1 : Nat) : Int)))) (by go_simp) ?_
      refine hK.out _ _ (.inl (by kernel_rfl)) (fun _ => ?_)
      clear hK K
      refine late_done (by kernel_rfl) ?_ _
      refine NoPanic.normal ?_
      have HS3 := Lib.hid (HS2.out.put (7 * ((j + 1 : Nat) : Int)))
      clear HS2 hS2 cc cf
      generalize w2.setCell ⟨w.heap.size, 0, none⟩ (.int .i64 (7 * ((j + 1 : Nat) : Int))) = w3 at *
      go_wp2
      go_roundw
      case rel => exact ⟨j + 1, hlt, by go_num, HS3⟩
      case measure => simp [intOf]; omega
    · obtain rfl : j = pre.length := by omega
      have hlti : (pre.length : Int) < ((pre ++ x0 :: post).length : Int) := by simp; omega
      have h0j : ¬ (pre.length : Int) < 0 := by omega
      have hx : (pre ++ x0 :: post)[pre.length]? = some x0 := by simp
      obtain ⟨_, _, _, h4⟩ := (HL.out.below HS.out.low).shape
      obtain ⟨gb, ob, rfl, hgb, hrb⟩ := h4 (by simp; omega)
      have cx : wr.cell? ⟨gb, ob + pre.length, none⟩ = some (.int .i64 x0) := by
        have := flat_range (f := intR) (c := 1) (fun _ _ => rfl) hrb pre.length x0 hx 0 _ rfl
        simpa using this
      have HSD := Lib.hid (HS.out.up (Below.refl _ _).drew)
      have HA := Lib.hid (pat_any x0 wr.drew (HP.out.up HSD.out.low))
      rw [h0, show (thR (.iface 9 u0, n0)).toArray = #[.iface 9 u0, .int .i64 n0] from rfl] at HA
      have hS0 : SumH w.heap.size (7 * (pre.length : Int)) wr.drew := HSD.out.n.cell 0
      clear h4 hrb hgb hx
      generalize (pre ++ x0 :: post).length = N at *
      go_wp2_with fail
      refine Go.wp_mono (Q := SumQ w [{ target := .fn (.func 32) #[.pointer (some ⟨w.heap.size, 0, none⟩), .pointer (some ⟨w.heap.size + 1, 0, none⟩)], args := #[] }]) ?_ (fun e a W hq => ?_)
      case refine_2 =>
        cases e with
        | panic c =>
          obtain ⟨⟨t, pv, rfl⟩, hd, h4, h5, n, hb⟩ := hq
          show Leaves _ _ _ _ _ _ _
          rw [hd]
          refine leaves_cons (f := 32) (args := #[.pointer (some ⟨w.heap.size, 0, none⟩), .pointer (some ⟨w.heap.size + 1, 0, none⟩)]) (by simp) (by simp [go_sem]) ?_
          refine (catch_panicking w.heap.size _ _ t pv [] _ hb.n hb.b).mono ?_
          rintro e u' w'' ⟨rfl, rfl, rfl⟩
          have H2 := (hb.put 0).tell false
          have r1 := (H2.n.cell 0).trans (show _ = some (.int .i64 0) from rfl)
          have r2 := (H2.b.cell 0).trans (show _ = some (.bool false) from rfl)
          have hl := H2.low
          have h4' : a.tmps[4]?.getD undef = .pointer (some ⟨w.heap.size, 0, none⟩) := by rw [← h4]; simp
          have h5' : a.tmps[5]?.getD undef = .pointer (some ⟨w.heap.size + 1, 0, none⟩) := by rw [← h5]; simp
          simp [Leaves, settle, results, Tryd.results22, go_sem, r1, r2, h4', h5']
          exact hl
        | _ => exact hq.elim
      refine wp_region_late (SumH w.heap.size (7 * (pre.length : Int))) 7 (by kernel_rfl) hS0 (fun hHeld => ?_)
      generalize wr.drew = wd at *
      refine late_take (v := ?z0) 0 [7, 0] rfl (by kernel_rfl) (by kernel_rfl) (by kernel_rfl) (fun _ _ _ h => h.unput (by decide) (by decide)) (by kernel_rfl) (by kernel_rfl) (by decide) (by kernel_rfl) rfl rfl (by rfl) ?q0 (by assumption) ?_
      case q0 => (intro w hSw; unfold SumH at hSw; go_simp; (try with_reducible rfl); (try omega))
      simp only [List.setIfInBounds_toArray, List.set_cons_zero, List.set_cons_succ]
      refine late_take (v := ?z1) 1 [7, 1] rfl (by kernel_rfl) (by kernel_rfl) (by kernel_rfl) (fun _ _ _ h => h.unput (by decide) (by decide)) (by kernel_rfl) (by kernel_rfl) (by decide) (by kernel_rfl) rfl rfl (by rfl) ?q1 (by assumption) ?_
      case q1 => (intro w hSw; unfold SumH at hSw; go_simp; (try with_reducible rfl); (try omega))
      simp only [List.setIfInBounds_toArray, List.set_cons_zero, List.set_cons_succ]
      refine late_take (v := ?z2) 2 [7, 2] rfl (by kernel_rfl) (by kernel_rfl) (by kernel_rfl) (fun _ _ _ h => h.unput (by decide) (by decide)) (by kernel_rfl) (by kernel_rfl) (by decide) (by kernel_rfl) rfl rfl (by rfl) ?q2 (by assumption) ?_
      case q2 => (intro w hSw; unfold SumH at hSw; go_simp; (try with_reducible rfl); (try omega))
      simp only [List.setIfInBounds_toArray, List.set_cons_zero, List.set_cons_succ]
      refine late_one 3 rfl (by kernel_rfl) (by rfl) (fun K hK => ?_)
      go_simp
      refine HA.out.mono ?_
      rintro e w2 ⟨rfl, b2⟩
      have HS2 := Lib.hid (HSD.out.up b2)
      have hS2 : SumH w.heap.size (7 * (pre.length : Int)) w2 := HS2.out.n.cell 0
      refine hK.out _ _ (.inr hS2) (fun _ => ?_)
      clear hK K HA hS0 hHeld HSD cx
      refine late_one 4 rfl (by kernel_rfl) (by rfl) (fun K hK => ?_)
      refine wp_of_value (v := .iface 9 u0) (w' := w2) (by go_simp; simp [field14_0]) ?_
      refine hK.out _ _ (.inr hS2) (fun _ => ?_)
      simp only [List.setIfInBounds_toArray, List.set_cons_zero, List.set_cons_succ]
      clear hK K
      refine late_one 5 rfl (by kernel_rfl) (by rfl) (fun K hK => ?_)
      obtain ⟨t, pv, cs, ty, hbad⟩ := as_int_bad w2 u0
      unfold Oper.wp
      rw [show (execOp _ _).run Tryd.prog w2 = .halt (.panic (.iface t pv)) (w2.alloc (.cells cs ty)) from by go_simp]
      show SumQ w _ (.panic _) _ _
      exact ⟨⟨_, _, rfl⟩, rfl, rfl, rfl, _, HS2.out.up ((Below.refl _ _).alloc (Nat.le_refl _) _)⟩
end
end Go.Proofs.YtoliijajhikhgaaDoor
