/- A table of both kinds (package fib) by what it holds: New, Put, Delete, Get, Look. -/
import Derived.Test.YtgimcapcnidjjaaDuo9
import Derived.Test.YtgimcapcnidjjaaM10
namespace Go.Proofs.Ytgimcapcnidjjaa
open Go Go.RowKit

section
variable {P : Program} {o : Oper} {a : Act} {w w' : World} {K : Act → World → Prop} {Q : Exit → Act → World → Prop}
theorem wp_of_skip (hrun : (execOp a.eval o).run P w = .ok .skip w') (h : K (a.put o.dst undef) w') : Oper.wp P o a w K Q := by
  unfold Oper.wp
  rw [hrun]
  exact h
end
/-- The box with both tables, or none. -/
def FibP (W : World) (pt : Value) (p4 p6 : Option Addr) : Prop := (∃ g, pt = .pointer (some ⟨g, 0, none⟩) ∧ Bx W g 70 [.pointer p4, .pointer p6]) ∨ (pt = .pointer none ∧ p4 = none ∧ p6 = none)
theorem FibP.up {W W' : World} {pt : Value} {p4 p6 : Option Addr} (h : FibP W pt p4 p6) (hb : Below W.heap.size W W') : FibP W' pt p4 p6 := by
  rcases h with ⟨g, h1, h2⟩ | h
  · exact .inl ⟨g, h1, h2.up hb⟩
  · exact .inr h
theorem tabs_info : (Try.prog.info? 68).map (·.size) = some 2 := by kernel_rfl
theorem tabs_one (p4 p6 : Option Addr) : ∀ v ∈ ([.pointer p4, .pointer p6] : List Value), v.oneCell' = true := by
  intro v hv
  rcases List.mem_cons.1 hv with rfl | hv
  · rfl
  · rw [List.mem_singleton.1 hv]; rfl
theorem results_tabs (tmps : Array Value) (w : World) (g : Nat) (p4 p6 : Option Addr) (hp : tmps.getD 2 undef = .pointer (some ⟨g, 0, none⟩)) (hg : Bx w g 68 [.pointer p4, .pointer p6]) :
    (results Try.f43 tmps).run Try.prog w = .ok (.agg #[.pointer p4, .pointer p6]) w :=
  results_cell_row Try.results43 tmps w g _ _ _ _ hp hg Try.underlying68 rfl tabs_info
set_option maxRecDepth 100000 in
set_option maxHeartbeats 1000000 in
theorem both_any (W : World) (pt : Value) (p4 p6 : Option Addr) (h : FibP W pt p4 p6) :
    Calls Try.prog 43 #[pt] W fun e W' => e = .returned (.agg #[.pointer p4, .pointer p6]) ∧ Below W.heap.size W W' := by
  have hb : Below W.heap.size W (W.alloc (.cells #[.pointer none, .pointer none] 68)) := (Below.refl _ _).alloc (Nat.le_refl _) _
  have HB := Lib.hid hb
  have HR := Lib.hid (Bx.new W 68 [.pointer none, .pointer none])
  have HT := Lib.hid (tabs_one p4 p6)
  rcases h with ⟨g, rfl, hx⟩ | ⟨rfl, rfl, rfl⟩
  · have R0 := Lib.hid (rangeAll (hx.up hb))
    clear hx hb
    go_enter Try.func43, Try.ntmps43
    go_wp2_with (first
      | (refine wpList_load_any rfl 68 (.tmp 8) rfl g 0 [.pointer p4, .pointer p6] _ rfl R0.out Try.underlying68 rfl tabs_info ?_)
      | (refine wpList_store_bx rfl 68 (.tmp 2) (.tmp 9) rfl W.heap.size [.pointer p4, .pointer p6] [.pointer none, .pointer none] rfl rfl HR.out tabs_info rfl HT.out ?_; refine Hid.out ?_))
    refine Lib.hid ?_
    go_wp2
    exact bodyPost_ret (results_tabs _ _ W.heap.size p4 p6 rfl (HR.out.row _)) rfl ⟨rfl, below_row HB.out (by omega) _⟩
  · clear hb
    go_enter Try.func43, Try.ntmps43
    go_wp2_with (first
      | (refine wpList_build0 rfl 68 rfl [.pointer none, .pointer none] (by kernel_rfl) ?_)
      | (refine wpList_store_bx rfl 68 (.tmp 2) (.tmp 5) rfl W.heap.size [.pointer none, .pointer none] [.pointer none, .pointer none] rfl rfl HR.out tabs_info rfl HT.out ?_; refine Hid.out ?_))
    refine Lib.hid ?_
    go_wp2
    exact bodyPost_ret (results_tabs _ _ W.heap.size _ _ rfl (HR.out.row _)) rfl ⟨rfl, below_row HB.out (by omega) _⟩
set_option maxRecDepth 100000 in
theorem exec_indexT {ρ : Operand → Value} {o : Oper} {W : World} (x y : Operand) (ho : o.op = .index 68 x y) (p4 p6 : Option Addr) (s : Bool) (hx : ρ x = .agg #[.pointer p4, .pointer p6]) (hy : ρ y = .int .i64 (if s then 1 else 0)) :
    (execOp ρ o).run Try.prog W = .ok (.value (.pointer (if s then p6 else p4))) W := by
  cases s
  · go_simp; rfl
  · go_simp; rfl
set_option maxRecDepth 100000 in
set_option maxHeartbeats 1000000 in
theorem of_any (W : World) (pt : Value) (pp : Bool → Option Addr) (s : Bool) (h : FibP W pt (pp false) (pp true)) :
    Calls Try.prog 32 #[pt, .bool s] W fun e W' => e = .returned (.pointer (pp s)) ∧ Below W.heap.size W W' := by
  have HB := Lib.hid (both_any W pt (pp false) (pp true) h)
  generalize hp4 : pp false = p4 at *
  generalize hp6 : pp true = p6 at *
  have HP : Hid (pp s = if s then p6 else p4) := Lib.hid (by cases s <;> simp [hp4, hp6])
  rw [HP.out]
  clear h hp4 hp6 HP
  cases s with
  | false =>
    go_enter Try.func32, Try.ntmps32
    go_wp2_with (first
      | (refine plV rfl (.pointer p4) (exec_indexT (.tmp 10) _ rfl p4 p6 false rfl rfl) ?_)
      | (go_at_call 43; refine HB.out.mono ?_; rintro e w1 ⟨rfl, b1⟩; refine Hid.out ?_))
    refine Lib.hid ?_
    go_wp2_with (first
      | (refine plV rfl (.pointer p4) (exec_indexT (.tmp 10) _ rfl p4 p6 false rfl rfl) ?_))
    go_ret
    exact ⟨rfl, b1⟩
  | true =>
    go_enter Try.func32, Try.ntmps32
    go_wp2_with (first
      | (go_at_call 43; refine HB.out.mono ?_; rintro e w1 ⟨rfl, b1⟩; refine Hid.out ?_))
    refine Lib.hid ?_
    go_wp2_with (first
      | (refine plV rfl (.pointer p6) (exec_indexT (.tmp 7) _ rfl p4 p6 true rfl rfl) ?_))
    go_ret
    exact ⟨rfl, b1⟩
/-! What both tables hold. -/
def updL (L : Bool → List (Pfx × Int)) (s : Bool) (M : List (Pfx × Int)) : Bool → List (Pfx × Int) := fun t => if t = s then M else L t
structure FibC (W : World) (X : Nat → Prop) (pt : Value) (pp : Bool → Option Addr) (Y : Bool → Nat → Prop) (is : Bool) (room : Int) (L : Bool → List (Pfx × Int)) (N : Nat) : Prop where
  box : FibP W pt (pp false) (pp true)
  tab : ∀ s, TabQ W (Y s) (.pointer (pp s)) is (s && is) room (L s) N
  ap : ∀ k s, Y s k → ¬ Y (!s) k
  own : ∀ g, pt = .pointer (some ⟨g, 0, none⟩) → X g ∧ ∀ s, ¬ Y s g
  sub : ∀ s k, Y s k → X k
  low : ∀ k, X k → k < W.heap.size
section
variable {W W' : World} {X X' : Nat → Prop} {pt : Value} {pp : Bool → Option Addr} {Y : Bool → Nat → Prop} {is : Bool} {room : Int} {L : Bool → List (Pfx × Int)} {N : Nat}
theorem FibC.up (h : FibC W X pt pp Y is room L N) (hb : Below W.heap.size W W') : FibC W' X pt pp Y is room L N :=
  ⟨h.box.up hb, fun s => (h.tab s).up hb, h.ap, h.own, h.sub, fun k hk => Nat.lt_of_lt_of_le (h.low k hk) hb.size⟩
theorem FibC.other {Z Z' : Nat → Prop} (h : FibC W X pt pp Y is room L N) (hu : Upd W Z W' Z') (ha : ∀ k, X k → ¬ Z k) : FibC W' X pt pp Y is room L N := by
  refine ⟨?_, fun s => (h.tab s).other hu (fun k hk => ha k (h.sub s k hk)), h.ap, h.own, h.sub, fun k hk => Nat.lt_of_lt_of_le (h.low k hk) hu.size⟩
  rcases h.box with ⟨g, e, hx⟩ | h1
  · exact .inl ⟨g, e, hx.upd hu (ha g (h.own g e).1)⟩
  · exact .inr h1
theorem FibC.step {Y' : Nat → Prop} {M : List (Pfx × Int)} {N' : Nat} (h : FibC W X pt pp Y is room L N) (s : Bool) (t : TabQ W' Y' (.pointer (pp s)) is (s && is) room M N') (hN : N ≤ N') (u : Upd W (Y s) W' Y') :
    FibC W' (fun k => X k ∨ Y' k) pt pp (fun t => if t = s then Y' else Y t) is room (updL L s M) N' ∧ Upd W X W' (fun k => X k ∨ Y' k) := by
  refine ⟨⟨?_, fun t' => ?_, fun k t' hk => ?_, fun g e => ⟨.inl (h.own g e).1, fun t' => ?_⟩, fun t' k hk => ?_, fun k hk => ?_⟩, ⟨u.os, u.tape, u.output, u.size, fun k hk hx => u.block k hk (fun hy => hx (h.sub s k hy)), fun k hk => ?_⟩⟩
  · rcases h.box with ⟨g, e, hx⟩ | h1
    · exact .inl ⟨g, e, hx.upd u ((h.own g e).2 s)⟩
    · exact .inr h1
  · by_cases e : t' = s
    · subst e
      simpa [updL] using t
    · simp only [updL, if_neg e]
      refine ((h.tab t').other u (fun k hk => ?_)).more hN
      have := h.ap k t' hk
      have e2 : (!t') = s := by cases t' <;> cases s <;> simp_all
      rw [e2] at this
      exact this
  · by_cases e : t' = s
    · subst e
      simp only at hk
      rw [if_neg (by simp)]
      rcases u.sub k hk with h1 | h1
      · exact h.ap k _ h1
      · intro hy
        have := h.low k (h.sub _ k hy)
        omega
    · simp only [if_neg e] at hk
      have e2 : (!t') = s := by cases t' <;> cases s <;> simp_all
      rw [e2, if_pos rfl]
      intro hy
      rcases u.sub k hy with h1 | h1
      · have := h.ap k t' hk
        rw [e2] at this
        exact this h1
      · have := h.low k (h.sub _ k hk)
        omega
  · by_cases e2 : t' = s
    · simp only [if_pos e2]
      intro hy
      rcases u.sub g hy with h1 | h1
      · exact (h.own g e).2 s h1
      · have := h.low g (h.own g e).1
        omega
    · simp only [if_neg e2]
      exact (h.own g e).2 t'
  · by_cases e2 : t' = s
    · simp only [if_pos e2] at hk
      exact .inr hk
    · simp only [if_neg e2] at hk
      exact .inl (h.sub t' k hk)
  · rcases hk with hk | hk
    · exact Nat.lt_of_lt_of_le (h.low k hk) u.size
    · exact t.blocks k hk
  · rcases hk with hk | hk
    · exact .inl hk
    · rcases u.sub k hk with h1 | h1
      · exact .inl (h.sub s k h1)
      · exact .inr h1
end
def FibQ (W : World) (X : Nat → Prop) (pt : Value) (is : Bool) (room : Int) (L : Bool → List (Pfx × Int)) (N : Nat) : Prop := ∃ pp Y, FibC W X pt pp Y is room L N
section
variable {W W' : World} {X X' : Nat → Prop} {pt : Value} {is : Bool} {room : Int} {L : Bool → List (Pfx × Int)} {N : Nat}
theorem FibQ.up (h : FibQ W X pt is room L N) (hb : Below W.heap.size W W') : FibQ W' X pt is room L N := by
  obtain ⟨pp, Y, h⟩ := h
  exact ⟨pp, Y, h.up hb⟩
theorem FibQ.other {Z Z' : Nat → Prop} (h : FibQ W X pt is room L N) (hu : Upd W Z W' Z') (ha : ∀ k, X k → ¬ Z k) : FibQ W' X pt is room L N := by
  obtain ⟨pp, Y, h⟩ := h
  exact ⟨pp, Y, h.other hu ha⟩
theorem FibQ.low (h : FibQ W X pt is room L N) : ∀ k, X k → k < W.heap.size := by
  obtain ⟨pp, Y, h⟩ := h
  exact h.low
theorem FibQ.order (h : FibQ W X pt is room L N) (s : Bool) : InOrder cmpP (okP (s && is)) (L s) := by
  obtain ⟨pp, Y, h⟩ := h
  exact (h.tab s).order
theorem FibQ.nil (W : World) (room : Int) (N : Nat) : FibQ W (fun _ => False) (.pointer none) false room (fun _ => []) N :=
  ⟨fun _ => none, fun _ _ => False, .inr ⟨rfl, rfl, rfl⟩, fun _ => .inr ⟨rfl, rfl, rfl, fun _ h => h⟩, fun _ _ h => h.elim, fun _ e => (by cases e), fun _ _ h => h, fun _ h => h.elim⟩
end
/-- The box of a prefix that is held, flat. -/
def HeldX (b : Nat) (p : Pfx) (W : World) : Prop := W.cell? ⟨b, 0, none⟩ = some (.bool p.six) ∧ W.rangeAt b 0 p.row
theorem heldX {W : World} {b : Nat} {p : Pfx} (h : Bx W b 25 p.row) : HeldX b p W := ⟨by rw [h.cell]; rfl, rangeAll h⟩
/-- What Put, Delete answer. -/
def FibZ (W : World) (X : Nat → Prop) (pt : Value) (is : Bool) (room : Int) (L' : Bool → List (Pfx × Int)) (N : Nat) (c : Int) (e : Ending) (W' : World) : Prop := e = .returned (.int .i64 c) ∧ ∃ X', FibQ W' X' pt is room L' N ∧ Upd W X W' X'
def fputE (is : Bool) (room : Int) (L : Bool → List (Pfx × Int)) (p : Pfx) : Int := rputE is (p.six && is) room (L p.six) p
def fputL (is : Bool) (room : Int) (L : Bool → List (Pfx × Int)) (p : Pfx) (x : Int) : Bool → List (Pfx × Int) := updL L p.six (rputL is (p.six && is) room (L p.six) p x)
def fdelE (is : Bool) (L : Bool → List (Pfx × Int)) (p : Pfx) : Int := rdelE is (p.six && is) (L p.six) p
def fdelL (is : Bool) (L : Bool → List (Pfx × Int)) (p : Pfx) : Bool → List (Pfx × Int) := updL L p.six (rdelL is (p.six && is) (L p.six) p)
set_option maxRecDepth 100000 in
set_option maxHeartbeats 4000000 in
theorem fput (p : Pfx) (x : Int) (w : World) {X : Nat → Prop} {pt : Value} {is : Bool} {room : Int} {L : Bool → List (Pfx × Int)} {N : Nat} (h : FibQ w X pt is room L N) (hp : p.addr.length = 16) (hN : N ≤ 900000) :
    Calls Try.prog 9 #[pt, p.val, .int .i64 x] w (FibZ w X pt is room (fputL is room L p x) (N + 150) (fputE is room L p)) := by
  obtain ⟨pp, Y, h⟩ := h
  have hb : Below w.heap.size w (w.alloc (.cells p.row.toArray 25)) := (Below.refl _ _).alloc (Nat.le_refl _) _
  have HX := Lib.hid (Bx.new w 25 p.row)
  have H0 := Lib.hid h
  have HB := Lib.hid hb
  have HP := Lib.hid hp
  have HO := Lib.hid (fun W (hW : Below w.heap.size w W) => of_any W pt pp p.six (h.box.up hW))
  have HQ := Lib.hid (fun W (hW : Below w.heap.size w W) => putQ p x ((h.tab p.six).up hW) hp hN)
  unfold FibZ fputE fputL
  rw [show p.val = .agg p.row.toArray from rfl]
  clear h hb hp hN
  generalize hE : rputE is (p.six && is) room (L p.six) p = E at *
  generalize hM : rputL is (p.six && is) room (L p.six) p x = M at *
  clear hE hM
  generalize hpt : pp p.six = tp at *
  have HPT := Lib.hid hpt
  clear hpt
  go_enter Try.func9, Try.ntmps9
  go_wp2
  refine wp_region_noPanic ?_
  refine wp_region_held_drew (S := HeldX w.heap.size p) (by kernel_rfl) (heldX (HX.out.up (Below.refl _ _).drew)) (fun hHeld => ?_)
  refine held_take (v := ?v217) 0 rfl (by kernel_rfl) (by kernel_rfl) (by kernel_rfl) (fun _ _ _ h => h) (by rfl) ?y217 (by assumption) ?_
  case y217 => (intro w hSw; unfold HeldX at hSw; go_simp; (try with_reducible rfl); (try omega))
  simp only [List.setIfInBounds_toArray, List.set_cons_zero, List.set_cons_succ]
  refine held_take (v := ?v220) 1 rfl (by kernel_rfl) (by kernel_rfl) (by kernel_rfl) (fun _ _ _ h => h) (by rfl) ?y220 (by assumption) ?_
  case y220 => (intro w hSw; unfold HeldX at hSw; go_simp; (try with_reducible rfl); (try omega))
  simp only [List.setIfInBounds_toArray, List.set_cons_zero, List.set_cons_succ]
  refine held_take (v := ?v223) 2 rfl (by kernel_rfl) (by kernel_rfl) (by kernel_rfl) (fun _ _ _ h => h) (by rfl) ?y223 (by assumption) ?_
  case y223 => (intro w hSw; unfold HeldX at hSw; go_simp; (try with_reducible rfl); (try omega))
  simp only [List.setIfInBounds_toArray, List.set_cons_zero, List.set_cons_succ]
  refine held_take (v := p.val) 4 rfl (by kernel_rfl) (by kernel_rfl) (by kernel_rfl) (fun _ _ _ h => h) (by rfl) (fun W hSw => exec_load_any _ (.tmp 4) rfl w.heap.size 0 p.row _ rfl hSw.2 Try.underlying25 rfl (pf_infoC HP.out)) (by assumption) ?_
  simp only [List.setIfInBounds_toArray, List.set_cons_zero, List.set_cons_succ]
  refine held_take (v := ?v228) 5 rfl (by kernel_rfl) (by kernel_rfl) (by kernel_rfl) (fun _ _ _ h => h) (by rfl) ?y228 (by assumption) ?_
  case y228 => (intro w hSw; unfold HeldX at hSw; go_simp; (try with_reducible rfl); (try omega))
  simp only [List.setIfInBounds_toArray, List.set_cons_zero, List.set_cons_succ]
  refine held_one 3 rfl (by kernel_rfl) (by rfl) (fun K hK => ?_)
  go_simp
  refine (HO.out _ HB.out.drew).mono ?_
  rintro e w3 ⟨rfl, b3⟩
  have B3 := below_up HB.out.drew b3 HB.out.drew.size
  have X3 := (HX.out.up (Below.refl _ _).drew).up b3
  have HB3 := Lib.hid B3
  have HX3 := Lib.hid X3
  refine hK.out _ _ (heldX HX3.out) (fun _ => ?_)
  clear hK K b3 B3 X3 HO HX hHeld
  refine held_one 6 rfl (by kernel_rfl) (by rfl) (fun K hK => ?_)
  go_simp
  refine (HQ.out _ HB3.out).mono ?_
  rintro e w4 ⟨rfl, Y', t4, u4⟩
  have X4 := HX3.out.upd u4 (fun hy => absurd (H0.out.low _ (H0.out.sub _ _ hy)) (by omega))
  obtain ⟨f4, v4⟩ := (H0.out.up HB3.out).step p.six (by rw [HPT.out]; exact t4) (by omega) u4
  have HF := Lib.hid (⟨_, _, f4⟩ : FibQ w4 _ pt is room (updL L p.six M) (N + 150))
  have HV := Lib.hid ((Upd.of_below X HB3.out).trans v4)
  refine hK.out _ _ (heldX X4) (fun _ => ?_)
  clear hK K t4 u4 f4 v4 X4
  refine held_take (v := ?v251) 7 rfl (by kernel_rfl) (by kernel_rfl) (by kernel_rfl) (fun _ _ _ h => h) (by rfl) ?y251 (by assumption) ?_
  case y251 => (intro w hSw; unfold HeldX at hSw; go_simp; (try with_reducible rfl); (try omega))
  simp only [List.setIfInBounds_toArray, List.set_cons_zero, List.set_cons_succ]
  refine wpAnyH_done (by kernel_rfl) ?_ _
  refine NoPanic.normal ?_
  go_wp2
  go_ret
  exact ⟨rfl, _, HF.out, HV.out⟩
set_option maxRecDepth 100000 in
set_option maxHeartbeats 4000000 in
theorem fdel (p : Pfx) (w : World) {X : Nat → Prop} {pt : Value} {is : Bool} {room : Int} {L : Bool → List (Pfx × Int)} {N : Nat} (h : FibQ w X pt is room L N) (hp : p.addr.length = 16) (hN : N ≤ 900000) :
    Calls Try.prog 11 #[pt, p.val] w (FibZ w X pt is room (fdelL is L p) (N + 150) (fdelE is L p)) := by
  obtain ⟨pp, Y, h⟩ := h
  have hb : Below w.heap.size w (w.alloc (.cells p.row.toArray 25)) := (Below.refl _ _).alloc (Nat.le_refl _) _
  have HX := Lib.hid (Bx.new w 25 p.row)
  have H0 := Lib.hid h
  have HB := Lib.hid hb
  have HP := Lib.hid hp
  have HO := Lib.hid (fun W (hW : Below w.heap.size w W) => of_any W pt pp p.six (h.box.up hW))
  have HQ := Lib.hid (fun W (hW : Below w.heap.size w W) => delQ p ((h.tab p.six).up hW) hp hN)
  unfold FibZ fdelE fdelL
  rw [show p.val = .agg p.row.toArray from rfl]
  clear h hb hp hN
  generalize hE : rdelE is (p.six && is) (L p.six) p = E at *
  generalize hM : rdelL is (p.six && is) (L p.six) p = M at *
  clear hE hM
  generalize hpt : pp p.six = tp at *
  have HPT := Lib.hid hpt
  clear hpt
  go_enter Try.func11, Try.ntmps11
  go_wp2
  refine wp_region_noPanic ?_
  refine wp_region_held_drew (S := HeldX w.heap.size p) (by kernel_rfl) (heldX (HX.out.up (Below.refl _ _).drew)) (fun hHeld => ?_)
  refine held_take (v := ?v284) 0 rfl (by kernel_rfl) (by kernel_rfl) (by kernel_rfl) (fun _ _ _ h => h) (by rfl) ?y284 (by assumption) ?_
  case y284 => (intro w hSw; unfold HeldX at hSw; go_simp; (try with_reducible rfl); (try omega))
  simp only [List.setIfInBounds_toArray, List.set_cons_zero, List.set_cons_succ]
  refine held_take (v := ?v287) 1 rfl (by kernel_rfl) (by kernel_rfl) (by kernel_rfl) (fun _ _ _ h => h) (by rfl) ?y287 (by assumption) ?_
  case y287 => (intro w hSw; unfold HeldX at hSw; go_simp; (try with_reducible rfl); (try omega))
  simp only [List.setIfInBounds_toArray, List.set_cons_zero, List.set_cons_succ]
  refine held_take (v := ?v290) 2 rfl (by kernel_rfl) (by kernel_rfl) (by kernel_rfl) (fun _ _ _ h => h) (by rfl) ?y290 (by assumption) ?_
  case y290 => (intro w hSw; unfold HeldX at hSw; go_simp; (try with_reducible rfl); (try omega))
  simp only [List.setIfInBounds_toArray, List.set_cons_zero, List.set_cons_succ]
  refine held_take (v := p.val) 4 rfl (by kernel_rfl) (by kernel_rfl) (by kernel_rfl) (fun _ _ _ h => h) (by rfl) (fun W hSw => exec_load_any _ (.tmp 3) rfl w.heap.size 0 p.row _ rfl hSw.2 Try.underlying25 rfl (pf_infoC HP.out)) (by assumption) ?_
  simp only [List.setIfInBounds_toArray, List.set_cons_zero, List.set_cons_succ]
  refine held_one 3 rfl (by kernel_rfl) (by rfl) (fun K hK => ?_)
  go_simp
  refine (HO.out _ HB.out.drew).mono ?_
  rintro e w3 ⟨rfl, b3⟩
  have B3 := below_up HB.out.drew b3 HB.out.drew.size
  have X3 := (HX.out.up (Below.refl _ _).drew).up b3
  have HB3 := Lib.hid B3
  have HX3 := Lib.hid X3
  refine hK.out _ _ (heldX HX3.out) (fun _ => ?_)
  clear hK K b3 B3 X3 HO HX hHeld
  refine held_one 5 rfl (by kernel_rfl) (by rfl) (fun K hK => ?_)
  go_simp
  refine (HQ.out _ HB3.out).mono ?_
  rintro e w4 ⟨rfl, Y', t4, u4⟩
  have X4 := HX3.out.upd u4 (fun hy => absurd (H0.out.low _ (H0.out.sub _ _ hy)) (by omega))
  obtain ⟨f4, v4⟩ := (H0.out.up HB3.out).step p.six (by rw [HPT.out]; exact t4) (by omega) u4
  have HF := Lib.hid (⟨_, _, f4⟩ : FibQ w4 _ pt is room (updL L p.six M) (N + 150))
  have HV := Lib.hid ((Upd.of_below X HB3.out).trans v4)
  refine hK.out _ _ (heldX X4) (fun _ => ?_)
  clear hK K t4 u4 f4 v4 X4
  refine held_take (v := ?v315) 6 rfl (by kernel_rfl) (by kernel_rfl) (by kernel_rfl) (fun _ _ _ h => h) (by rfl) ?y315 (by assumption) ?_
  case y315 => (intro w hSw; unfold HeldX at hSw; go_simp; (try with_reducible rfl); (try omega))
  simp only [List.setIfInBounds_toArray, List.set_cons_zero, List.set_cons_succ]
  refine wpAnyH_done (by kernel_rfl) ?_ _
  refine NoPanic.normal ?_
  go_wp2
  go_ret
  exact ⟨rfl, _, HF.out, HV.out⟩
set_option maxRecDepth 100000 in
set_option maxHeartbeats 4000000 in
theorem fget (p : Pfx) (w : World) {X : Nat → Prop} {pt : Value} {is : Bool} {room : Int} {L : Bool → List (Pfx × Int)} {N : Nat} (h : FibQ w X pt is room L N) (hp : p.addr.length = 16) :
    Calls Try.prog 15 #[pt, p.val] w fun e w' => e = .returned (.tuple #[.int .i64 ((getT cmpP p (L p.six)).getD 0), .bool (getT cmpP p (L p.six)).isSome]) ∧ Below w.heap.size w w' := by
  obtain ⟨pp, Y, h⟩ := h
  have hb : Below w.heap.size w (w.alloc (.cells p.row.toArray 25)) := (Below.refl _ _).alloc (Nat.le_refl _) _
  have HX := Lib.hid (Bx.new w 25 p.row)
  have HB := Lib.hid hb
  have HP := Lib.hid hp
  have HO := Lib.hid (fun W (hW : Below w.heap.size w W) => of_any W pt pp p.six (h.box.up hW))
  have HQ := Lib.hid (fun W (hW : Below w.heap.size w W) => getQ p ((h.tab p.six).up hW) hp)
  rw [show p.val = .agg p.row.toArray from rfl]
  clear h hb hp
  generalize (getT cmpP p (L p.six)).getD 0 = v at *
  generalize (getT cmpP p (L p.six)).isSome = b at *
  generalize pp p.six = tp at *
  go_enter Try.func15, Try.ntmps15
  go_wp2
  refine wp_region_noPanic ?_
  refine wp_region_held_drew (S := HeldX w.heap.size p) (by kernel_rfl) (heldX (HX.out.up (Below.refl _ _).drew)) (fun hHeld => ?_)
  refine held_take (v := ?v343) 0 rfl (by kernel_rfl) (by kernel_rfl) (by kernel_rfl) (fun _ _ _ h => h) (by rfl) ?y343 (by assumption) ?_
  case y343 => (intro w hSw; unfold HeldX at hSw; go_simp; (try with_reducible rfl); (try omega))
  simp only [List.setIfInBounds_toArray, List.set_cons_zero, List.set_cons_succ]
  refine held_take (v := ?v346) 1 rfl (by kernel_rfl) (by kernel_rfl) (by kernel_rfl) (fun _ _ _ h => h) (by rfl) ?y346 (by assumption) ?_
  case y346 => (intro w hSw; unfold HeldX at hSw; go_simp; (try with_reducible rfl); (try omega))
  simp only [List.setIfInBounds_toArray, List.set_cons_zero, List.set_cons_succ]
  refine held_take (v := ?v349) 2 rfl (by kernel_rfl) (by kernel_rfl) (by kernel_rfl) (fun _ _ _ h => h) (by rfl) ?y349 (by assumption) ?_
  case y349 => (intro w hSw; unfold HeldX at hSw; go_simp; (try with_reducible rfl); (try omega))
  simp only [List.setIfInBounds_toArray, List.set_cons_zero, List.set_cons_succ]
  refine held_take (v := p.val) 4 rfl (by kernel_rfl) (by kernel_rfl) (by kernel_rfl) (fun _ _ _ h => h) (by rfl) (fun W hSw => exec_load_any _ (.tmp 3) rfl w.heap.size 0 p.row _ rfl hSw.2 Try.underlying25 rfl (pf_infoC HP.out)) (by assumption) ?_
  simp only [List.setIfInBounds_toArray, List.set_cons_zero, List.set_cons_succ]
  refine held_one 3 rfl (by kernel_rfl) (by rfl) (fun K hK => ?_)
  go_simp
  refine (HO.out _ HB.out.drew).mono ?_
  rintro e w3 ⟨rfl, b3⟩
  have B3 := below_up HB.out.drew b3 HB.out.drew.size
  have X3 := (HX.out.up (Below.refl _ _).drew).up b3
  have HB3 := Lib.hid B3
  have HX3 := Lib.hid X3
  refine hK.out _ _ (heldX HX3.out) (fun _ => ?_)
  clear hK K b3 B3 X3 HO HX hHeld
  refine held_one 5 rfl (by kernel_rfl) (by rfl) (fun K hK => ?_)
  go_simp
  refine (HQ.out _ HB3.out).mono ?_
  rintro e w4 ⟨rfl, b4⟩
  have X4 := HX3.out.up b4
  have HB4 := Lib.hid (below_up HB3.out b4 HB3.out.size)
  refine hK.out _ _ (heldX X4) (fun _ => ?_)
  clear hK K b4 X4
  refine held_take (v := ?v372) 6 rfl (by kernel_rfl) (by kernel_rfl) (by kernel_rfl) (fun _ _ _ h => h) (by rfl) ?y372 (by assumption) ?_
  case y372 => (intro w hSw; unfold HeldX at hSw; go_simp; (try with_reducible rfl); (try omega))
  simp only [List.setIfInBounds_toArray, List.set_cons_zero, List.set_cons_succ]
  refine held_take (v := ?v375) 7 rfl (by kernel_rfl) (by kernel_rfl) (by kernel_rfl) (fun _ _ _ h => h) (by rfl) ?y375 (by assumption) ?_
  case y375 => (intro w hSw; unfold HeldX at hSw; go_simp; (try with_reducible rfl); (try omega))
  simp only [List.setIfInBounds_toArray, List.set_cons_zero, List.set_cons_succ]
  refine held_take (v := ?v378) 8 rfl (by kernel_rfl) (by kernel_rfl) (by kernel_rfl) (fun _ _ _ h => h) (by rfl) ?y378 (by assumption) ?_
  case y378 => (intro w hSw; unfold HeldX at hSw; go_simp; (try with_reducible rfl); (try omega))
  simp only [List.setIfInBounds_toArray, List.set_cons_zero, List.set_cons_succ]
  refine held_take (v := ?v381) 9 rfl (by kernel_rfl) (by kernel_rfl) (by kernel_rfl) (fun _ _ _ h => h) (by rfl) ?y381 (by assumption) ?_
  case y381 => (intro w hSw; unfold HeldX at hSw; go_simp; (try with_reducible rfl); (try omega))
  simp only [List.setIfInBounds_toArray, List.set_cons_zero, List.set_cons_succ]
  refine wpAnyH_done (by kernel_rfl) ?_ _
  refine NoPanic.normal ?_
  go_wp2
  exact bodyPost_ret (v := .tuple #[.int .i64 v, .bool b]) (by simp [results, Try.results15, go_sem]) rfl ⟨rfl, HB4.out⟩
/-- The boxes of Look. -/
def HeldY (b : Nat) (a : List UInt8) (W : World) : Prop := W.rangeAt b 0 (byteVals a)
structure LookC (w : World) (a : List UInt8) (c : List Value) (W : World) : Prop where
  a : Bx W w.heap.size 23 (byteVals a)
  r : Bx W (w.heap.size + 1) 44 c
  below : Below w.heap.size w W
theorem LookC.up {w : World} {a : List UInt8} {c : List Value} {W W' : World} (h : LookC w a c W) (hb : Below W.heap.size W W') : LookC w a c W' := ⟨h.a.up hb, h.r.up hb, below_up h.below hb h.below.size⟩
theorem lookC_new (w : World) (a : List UInt8) : LookC w a (itR zeroP 0) ((w.alloc (.cells (byteVals a).toArray 23)).alloc (.cells (itR zeroP 0).toArray 44)) := by
  have h := twoB_new w 23 44 (byteVals a) (itR zeroP 0)
  exact ⟨h.1, h.2.1, h.2.2⟩
set_option maxRecDepth 100000 in
set_option maxHeartbeats 4000000 in
theorem flook (six : Bool) (a : List UInt8) (w : World) {X : Nat → Prop} {pt : Value} {is : Bool} {room : Int} {L : Bool → List (Pfx × Int)} {N : Nat} (h : FibQ w X pt is room L N) (ha : a.length = 16) :
    Calls Try.prog 13 #[pt, .bool six, arrV a] w fun e w' => e = .returned (.tuple #[itV ((lookT a (L six)).getD it0).1 ((lookT a (L six)).getD it0).2, .bool (lookT a (L six)).isSome]) ∧ Below w.heap.size w w' := by
  obtain ⟨pp, Y, h⟩ := h
  have HX := Lib.hid (lookC_new w a)
  have HA := Lib.hid ha
  have h16 : ((lookT a (L six)).getD it0).1.addr.length = 16 := by
    cases hl : lookT a (L six) with
    | none => rfl
    | some z => exact ((h.tab six).order.2 z (look_mem a _ z hl).1).2.1
  have HI := Lib.hid h16
  have HO := Lib.hid (fun W (hW : Below w.heap.size w W) => of_any W pt pp six (h.box.up hW))
  have HQ := Lib.hid (fun W (hW : Below w.heap.size w W) => lookQ a ((h.tab six).up hW) ha)
  have ez : (#[.bool false, .int .u8 0, .int .u8 0, .int .u8 0, .int .u8 0, .int .u8 0, .int .u8 0, .int .u8 0, .int .u8 0, .int .u8 0, .int .u8 0, .int .u8 0, .int .u8 0, .int .u8 0, .int .u8 0, .int .u8 0, .int .u8 0, .int .i64 0, .int .i64 0] : Array Value) = (itR zeroP 0).toArray := rfl
  rw [show arrV a = .agg (byteVals a).toArray from rfl]
  clear h ha h16
  generalize (lookT a (L six)).getD it0 = x at *
  generalize (lookT a (L six)).isSome = b at *
  generalize pp six = tp at *
  go_enter Try.func13, Try.ntmps13
  go_wp2
  refine wp_region_noPanic ?_
  refine wp_region_held_drew (S := HeldY w.heap.size a) (by kernel_rfl) (rangeAll (HX.out.up (Below.refl _ _).drew).a) (fun hHeld => ?_)
  refine held_take (v := ?v422) 0 rfl (by kernel_rfl) (by kernel_rfl) (by kernel_rfl) (fun _ _ _ h => h) (by rfl) ?y422 (by assumption) ?_
  case y422 => (intro w hSw; unfold HeldY at hSw; go_simp; (try with_reducible rfl); (try omega))
  simp only [List.setIfInBounds_toArray, List.set_cons_zero, List.set_cons_succ]
  refine held_take (v := ?v425) 1 rfl (by kernel_rfl) (by kernel_rfl) (by kernel_rfl) (fun _ _ _ h => h) (by rfl) ?y425 (by assumption) ?_
  case y425 => (intro w hSw; unfold HeldY at hSw; go_simp; (try with_reducible rfl); (try omega))
  simp only [List.setIfInBounds_toArray, List.set_cons_zero, List.set_cons_succ]
  refine held_take (v := arrV a) 3 rfl (by kernel_rfl) (by kernel_rfl) (by kernel_rfl) (fun _ _ _ h => h) (by rfl) (fun W hSw => exec_load_any _ (.tmp 5) rfl w.heap.size 0 (byteVals a) _ rfl hSw Try.underlying23 rfl (by rw [byteVals_length, HA.out]; exact arr16P.info)) (by assumption) ?_
  simp only [List.setIfInBounds_toArray, List.set_cons_zero, List.set_cons_succ]
  refine held_one 2 rfl (by kernel_rfl) (by rfl) (fun K hK => ?_)
  go_simp
  refine (HO.out _ HX.out.below.drew).mono ?_
  rintro e w3 ⟨rfl, b3⟩
  have HX3 := Lib.hid ((HX.out.up (Below.refl _ _).drew).up b3)
  refine hK.out _ _ (rangeAll HX3.out.a) (fun _ => ?_)
  clear hK K b3 HO HX hHeld
  refine held_one 4 rfl (by kernel_rfl) (by rfl) (fun K hK => ?_)
  go_simp
  refine (HQ.out _ HX3.out.below).mono ?_
  rintro e w4 ⟨rfl, b4⟩
  have HX4 := Lib.hid (HX3.out.up b4)
  refine hK.out _ _ (rangeAll HX4.out.a) (fun _ => ?_)
  clear hK K b4 HX3
  refine held_take (v := ?v444) 5 rfl (by kernel_rfl) (by kernel_rfl) (by kernel_rfl) (fun _ _ _ h => h) (by rfl) ?y444 (by assumption) ?_
  case y444 => (intro w hSw; unfold HeldY at hSw; go_simp; (try with_reducible rfl); (try omega))
  simp only [List.setIfInBounds_toArray, List.set_cons_zero, List.set_cons_succ]
  refine held_take (v := ?v447) 6 rfl (by kernel_rfl) (by kernel_rfl) (by kernel_rfl) (fun _ _ _ h => h) (by rfl) ?y447 (by assumption) ?_
  case y447 => (intro w hSw; unfold HeldY at hSw; go_simp; (try with_reducible rfl); (try omega))
  simp only [List.setIfInBounds_toArray, List.set_cons_zero, List.set_cons_succ]
  refine held_none 7 rfl (by kernel_rfl) (by rfl) (fun K hK => ?_)
  refine wp_of_skip (exec_store_bx _ (.tmp 6) (.tmp 13) rfl (w.heap.size + 1) (itR x.1 x.2) (itR zeroP 0) rfl rfl HX4.out.r (it_infoC HI.out x.2) (by rw [it_len HI.out]; rfl) (it_one _ _)) ?_
  have HX5 : Hid (LookC w a (itR x.1 x.2) (w4.setRow (w.heap.size + 1) (itR x.1 x.2).toArray)) := Lib.hid ⟨(setRow_other w4 (w.heap.size + 1) w.heap.size _ (by omega)).trans HX4.out.a, HX4.out.r.row _, below_row HX4.out.below (by omega) _⟩
  refine hK.out _ _ (rangeAll HX5.out.a) (fun _ => ?_)
  clear hK K
  refine held_take (v := ?v455) 8 rfl (by kernel_rfl) (by kernel_rfl) (by kernel_rfl) (fun _ _ _ h => h) (by rfl) ?y455 (by assumption) ?_
  case y455 => (intro w hSw; unfold HeldY at hSw; go_simp; (try with_reducible rfl); (try omega))
  simp only [List.setIfInBounds_toArray, List.set_cons_zero, List.set_cons_succ]
  refine wpAnyH_done (by kernel_rfl) ?_ _
  refine NoPanic.normal ?_
  go_wp2
  exact bodyPost_ret (results_it2 Try.results13 _ _ (w.heap.size + 1) x.1 x.2 HI.out rfl HX5.out.r) rfl ⟨rfl, HX5.out.below⟩
end Go.Proofs.Ytgimcapcnidjjaa
