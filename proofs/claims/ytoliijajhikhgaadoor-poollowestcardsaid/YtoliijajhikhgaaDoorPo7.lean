/- Package pool: a hop in new memory. -/
import Derived.Test.YtoliijajhikhgaaDoorPo3
import Derived.Test.YtoliijajhikhgaaDoorCatC
namespace Go.Proofs.YtoliijajhikhgaaDoor
open Go Go.RowKit Go.Shelf
attribute [local go_sem] Oper.semAt_some

/-- A hop's cells. -/
def hopR (o : Int) (L : Value) (p b : Int) (R : Value) (pp : Bool) : List Value := [.int .i64 o, L, .int .i64 p, .int .i64 b, R, .bool pp]
theorem hop_info : (Tryd.prog.info? 25).map (·.size) = some 6 := by kernel_rfl
theorem int_infoF : (Tryd.prog.info? 3).map (fun i => (i.zero, i.size, i.bytes)) = some (some (.int .i64 0), 1, 8) := by kernel_rfl
theorem hopR_one (o : Int) {L R : Value} (p b : Int) (pp : Bool) (h1 : L.oneCell' = true) (h2 : R.oneCell' = true) : ∀ v ∈ hopR o L p b R pp, v.oneCell' = true := by
  intro v hv
  simp only [hopR, List.mem_cons, List.not_mem_nil, or_false] at hv
  rcases hv with rfl | rfl | rfl | rfl | rfl | rfl
  · rfl
  · exact h1
  · rfl
  · rfl
  · exact h2
  · rfl
theorem intR_all (l : List Int) : ∀ u ∈ l.flatMap intR, u.oneCell' = true := by
  intro u hu
  obtain ⟨n, _, hn⟩ := List.mem_flatMap.1 hu
  rw [List.mem_singleton.1 hn]
  rfl
theorem isc_slice {α : Type} {f : α → List Value} {c : Nat} {w : World} {v : Value} {l : List α} (h : IsC f c w v l) : ∃ a k, v = .slice a l.length k := by
  obtain ⟨_, a, k, e, _⟩ := h
  exact ⟨a, k, e⟩
/-- 'append([]int(nil), x...)': a row of its own. -/
theorem dup_ints {w : World} {ops : Array Oper} {rest : List Oper} {o : Oper} {a : Act} {Q : Exit → Act → World → Prop} (hgd : o.guard = none) (x : Operand)
    (ho : o.op = .call { callee := .builtin .append, args := #[.const (.slice none 0 0), x], argTypes := #[23, 23] })
    (b : Option Addr) (m k : Nat) (l : List Int) (hx : a.eval x = .slice b m k) (hl : IsC intR 1 w (.slice b m k) l) (hn : l.length ≤ 1000)
    (h : ∀ a' n' c' w', w'.ownsRow w.heap.size 3 1 (.slice a' n' c') l.length (l.flatMap intR) → Below w.heap.size w w' → wpList Tryd.prog ops Q rest (a.put o.dst (.slice a' n' c')) w') : wpList Tryd.prog ops Q (o :: rest) a w := by
  refine append_cs hgd _ _ 23 3 ho (.int .i64 0) 8 Tryd.underlying23 int_infoF rfl (by decide) (by decide) w.heap.size (.slice none 0 0) 0 [] rfl (World.ownsRow_nil _ _ _ _) b m k l hx hl (intR_all l) (by omega) (Nat.le_refl _) ?_
  intro v1 W1 hO hg
  rw [Nat.zero_add, List.nil_append] at hO
  obtain ⟨a', n', c', rfl⟩ := slice_ex hO
  exact h a' n' c' W1 hO ((KpO.grown14 hg).base (fun k e => by cases e) (Nat.le_refl _))
set_option maxRecDepth 100000 in
set_option maxHeartbeats 4000000 in
theorem pown_any (o : Int) (L : Value) (p b : Int) (R : Value) (pp : Bool) (l r : List Int) (w : World) (hL : IsC intR 1 w L l) (hR : IsC intR 1 w R r) (h1 : l.length ≤ 1000) (h2 : r.length ≤ 1000) :
    Calls Tryd.prog 27 #[.agg (hopR o L p b R pp).toArray] w fun e w' => ∃ L' R', e = .returned (.agg (hopR o L' p b R' pp).toArray) ∧ w'.ownsRow w.heap.size 3 1 L' l.length (l.flatMap intR) ∧ w'.ownsRow w.heap.size 3 1 R' r.length (r.flatMap intR) ∧ L'.oneCell' = true ∧ R'.oneCell' = true ∧ Below w.heap.size w w' := by
  obtain ⟨a1, k1, rfl⟩ := isc_slice hL
  obtain ⟨a2, k2, rfl⟩ := isc_slice hR
  have b1 : Below w.heap.size w (w.alloc (.cells (hopR o (.slice a1 l.length k1) p b (.slice a2 r.length k2) pp).toArray 25)) := (Below.refl _ _).alloc (Nat.le_refl _) _
  have b2 : Below w.heap.size w ((w.alloc (.cells (hopR o (.slice a1 l.length k1) p b (.slice a2 r.length k2) pp).toArray 25)).alloc (.cells (hopR 0 (.slice none 0 0) 0 0 (.slice none 0 0) false).toArray 25)) := b1.alloc b1.size _
  have HB := Lib.hid b2
  have HX := Lib.hid ((Bx.new w 25 (hopR o (.slice a1 l.length k1) p b (.slice a2 r.length k2) pp)).al (.cells (hopR 0 (.slice none 0 0) 0 0 (.slice none 0 0) false).toArray 25))
  have hZ := Bx.new (w.alloc (.cells (hopR o (.slice a1 l.length k1) p b (.slice a2 r.length k2) pp).toArray 25)) 25 (hopR 0 (.slice none 0 0) 0 0 (.slice none 0 0) false)
  rw [show (w.alloc (.cells (hopR o (.slice a1 l.length k1) p b (.slice a2 r.length k2) pp).toArray 25)).heap.size = w.heap.size + 1 by simp] at hZ
  have HZ := Lib.hid hZ
  have HIL := Lib.hid (hL.below b2)
  have HIR := Lib.hid hR
  clear hL hR b1 b2 hZ
  have c1 := (HX.out.cell 1).trans (show _ = some (.slice a1 l.length k1) from rfl)
  have ez : (#[.int .i64 0, .slice none 0 0, .int .i64 0, .int .i64 0, .slice none 0 0, .bool false] : Array Value) = (hopR 0 (.slice none 0 0) 0 0 (.slice none 0 0) false).toArray := rfl
  go_enter Tryd.func27, Tryd.ntmps27
  go_wp2_with (at_builtin; refine dup_ints rfl _ rfl a1 l.length k1 l rfl HIL.out h1 ?_; rintro x1 n1 d1 W1 hO1 hb1; refine Hid.out ?_)
  refine Lib.hid ?_
  have HX1 := Lib.hid (HX.out.up hb1)
  have HZ1 := Lib.hid (HZ.out.up hb1)
  have HB1 := Lib.hid (below_up HB.out hb1 HB.out.size)
  have HO1 := Lib.hid (own_mono hO1 HB.out.size)
  clear hO1 hb1 HB HX HZ HIL c1
  have f1 := HX1.out.frozen 1
  have c1 := (HX1.out.cell 1).trans (show _ = some (.slice a1 l.length k1) from rfl)
  have c4 := (HX1.out.cell 4).trans (show _ = some (.slice a2 r.length k2) from rfl)
  have HX2 := Lib.hid (HX1.out.set 1 (.slice x1 n1 d1))
  have HZ2 := Lib.hid (HZ1.out.setOther (k := w.heap.size) (by omega) 1 (.slice x1 n1 d1))
  have HB2 := Lib.hid (HB1.out.setCell (p := ⟨w.heap.size, 1, none⟩) (Nat.le_refl _) (.slice x1 n1 d1))
  have HIR2 := Lib.hid (HIR.out.below HB2.out)
  have HO2 := Lib.hid (own_kp HO1.out (KpO.set (O := fun k => k = w.heap.size) W1 w.heap.size 1 (.slice x1 n1 d1) rfl) (fun k e q => own_ne_bx HO1.out HX1.out (by decide) (by rw [e, q])))
  clear HB1 HX1 HZ1 HO1
  go_wp2_with (at_builtin; refine dup_ints rfl _ rfl a2 r.length k2 r rfl HIR2.out h2 ?_; rintro x2 n2 d2 W3 hO3 hb3; refine Hid.out ?_)
  refine Lib.hid ?_
  have HX3 := Lib.hid (HX2.out.up hb3)
  have HZ3 := Lib.hid (HZ2.out.up hb3)
  have HB3 := Lib.hid (below_up HB2.out hb3 HB2.out.size)
  have HL3 := Lib.hid (own_below HO2.out hb3)
  have HR3 := Lib.hid (own_mono hO3 HB2.out.size)
  clear hO3 hb3 HB2 HX2 HZ2 HIR2 HO2 c1 c4 f1 HIR
  have f1 := HX3.out.frozen 4
  have c1 := (HX3.out.cell 4).trans (show _ = some (.slice a2 r.length k2) from rfl)
  have HX4 := Lib.hid (show Bx _ w.heap.size 25 (hopR o (.slice x1 n1 d1) p b (.slice x2 n2 d2) pp) from HX3.out.set 4 (.slice x2 n2 d2))
  have HZ4 := Lib.hid (HZ3.out.setOther (k := w.heap.size) (by omega) 4 (.slice x2 n2 d2))
  have HB4 := Lib.hid (HB3.out.setCell (p := ⟨w.heap.size, 4, none⟩) (Nat.le_refl _) (.slice x2 n2 d2))
  have HL4 := Lib.hid (own_kp HL3.out (KpO.set (O := fun k => k = w.heap.size) W3 w.heap.size 4 (.slice x2 n2 d2) rfl) (fun k e q => own_ne_bx HL3.out HX3.out (by decide) (by rw [e, q])))
  have HR4 := Lib.hid (own_kp HR3.out (KpO.set (O := fun k => k = w.heap.size) W3 w.heap.size 4 (.slice x2 n2 d2) rfl) (fun k e q => own_ne_bx HR3.out HX3.out (by decide) (by rw [e, q])))
  clear HB3 HX3 HZ3 HL3 HR3
  go_wp2_with (first
    | (refine plV rfl (.agg (hopR o (.slice x1 n1 d1) p b (.slice x2 n2 d2) pp).toArray) (exec_load_any _ (.tmp 1) rfl w.heap.size 0 _ _ rfl (rangeAll HX4.out) Tryd.underlying25 rfl hop_info) ?_)
    | (refine wpList_store_bx rfl 25 (.tmp 2) (.tmp 11) rfl (w.heap.size + 1) (hopR o (.slice x1 n1 d1) p b (.slice x2 n2 d2) pp) _ rfl rfl HZ4.out hop_info rfl (hopR_one o p b pp rfl rfl) ?_; refine Hid.out ?_))
  refine Lib.hid ?_
  go_wp2
  exact bodyPost_ret (results_cell_row Tryd.results27 _ _ (w.heap.size + 1) _ _ _ _ rfl (HZ4.out.row _) Tryd.underlying25 rfl hop_info) rfl ⟨_, _, rfl, own_kp HL4.out (kp_row (O := fun k => k = w.heap.size + 1) _ _ _ rfl) (fun k e q => own_ne_bx HL4.out HZ4.out (by decide) (by rw [e, q])), own_kp HR4.out (kp_row (O := fun k => k = w.heap.size + 1) _ _ _ rfl) (fun k e q => own_ne_bx HR4.out HZ4.out (by decide) (by rw [e, q])), rfl, rfl, below_row HB4.out (Nat.le_succ _) _⟩
end Go.Proofs.YtoliijajhikhgaaDoor
