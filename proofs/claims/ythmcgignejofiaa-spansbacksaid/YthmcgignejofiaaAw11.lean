/- What the laws of stage 11 share: slices and boxes kept from call to call; the document's example (awake of stage 11). -/
import Derived.Test.YthmcgignejofiaaSp5
import Derived.Test.YthmcgignejofiaaSp6
import Derived.Test.YthmcgignejofiaaSp7
import Derived.Test.YthmcgignejofiaaSp8
import Derived.Test.YthmcgignejofiaaRs1
namespace Go.Proofs.Ythmcgignejofiaa
open Go Go.RowKit Go.Shelf

def SlA (ps : List (Value × List Spn)) (W : World) : Prop := ∀ p ∈ ps, IsS W p.1 p.2
def BxA (bs : List (Nat × Spn)) (W : World) : Prop := ∀ q ∈ bs, Bx W q.1 24 (sR q.2)
/-- Slices and boxes as they are, and all that is older. -/
structure Z11 (w : World) (ps : List (Value × List Spn)) (bs : List (Nat × Spn)) (W : World) : Prop where
  sl : SlA ps W
  bx : BxA bs W
  below : Below w.heap.size w W
section
variable {w : World} {ps : List (Value × List Spn)} {bs : List (Nat × Spn)} {W W' : World}
theorem Z11.up (h : Z11 w ps bs W) (hb : Below W.heap.size W W') : Z11 w ps bs W' := ⟨fun p hp => (h.sl p hp).below hb, fun q hq => (h.bx q hq).up hb, below_up h.below hb h.below.size⟩
theorem Z11.add (h : Z11 w ps bs W) {v : Value} {l : List Spn} (hv : IsS W v l) : Z11 w ((v, l) :: ps) bs W := ⟨fun p hp => by
  rcases List.mem_cons.1 hp with rfl | hp
  · exact hv
  · exact h.sl p hp, h.bx, h.below⟩
theorem Z11.box (h : Z11 w ps bs W) {b : Nat} {s : Spn} (hv : Bx W b 24 (sR s)) : Z11 w ps ((b, s) :: bs) W := ⟨h.sl, fun p hp => by
  rcases List.mem_cons.1 hp with rfl | hp
  · exact hv
  · exact h.bx p hp, h.below⟩
end
theorem z11_new (w : World) {v : Value} {l : List Spn} (h : IsS w v l) (s : Spn) : Z11 w [(v, l)] [(w.heap.size, s)] (w.alloc (.cells (sR s).toArray 24)) := by
  have hb : Below w.heap.size w (w.alloc (.cells (sR s).toArray 24)) := (Below.refl _ _).alloc (Nat.le_refl _) _
  refine ⟨fun p hp => ?_, fun q hq => ?_, hb⟩
  · rw [List.mem_singleton.1 hp]; exact h.below hb
  · rw [List.mem_singleton.1 hq]; exact Bx.new w _ _
theorem addS_len (l : List Spn) (s : Spn) : (addS l s).length ≤ l.length + 1 := by
  have := normS_length_le (l ++ [s])
  unfold addS
  simpa using this
theorem cutS_len (l : List Spn) (s : Spn) : (cutS l s).length ≤ 2 * l.length := by
  unfold cutS
  have h1 := normS_length_le l
  split
  · have h2 := normS_length_le ((normS l).flatMap (partS s))
    have h3 : ((normS l).flatMap (partS s)).length = (normS l).length * 2 := by
      generalize normS l = m
      induction m with
      | nil => rfl
      | cons x m ih => rw [List.flatMap_cons, List.length_append, ih, List.length_cons]; show 2 + _ = _; omega
    omega
  · omega
/-- What First hands back, in letters. -/
theorem fRes_of (o : Option Spn) : fRes o = .tuple #[.agg #[.int .i64 (o.getD ⟨0, 0⟩).f, .int .i64 (o.getD ⟨0, 0⟩).l], .bool o.isSome] := rfl
def exL : List Spn := [⟨20, 29⟩, ⟨16, 19⟩, ⟨5, 4⟩]
theorem exL_norm : normS exL = [⟨16, 29⟩] := by rfl
theorem exL_cut : cutS exL ⟨18, 24⟩ = [⟨16, 17⟩, ⟨25, 29⟩] := by rfl
theorem exL_first : firstS 14 (normS exL) = some ⟨16, 29⟩ := by rfl
theorem exL_count : cntS (normS exL) = 14 := by rfl
theorem exL_long : longS (normS exL) 0 = 14 := by rfl
theorem exL_has : hasS exL ⟨17, 21⟩ = true := by rfl
theorem exL_meet : meetS exL ⟨29, 40⟩ = true := by rfl
theorem exL_add : addS exL ⟨40, 40⟩ = [⟨16, 29⟩, ⟨40, 40⟩] := by rfl
theorem fill_sp3 (p q r : Spn) (z : Array Value) (hz : z.size = 6) : Instr.fill (fun i => some (i * 2, 2)) z [(0, sV p), (1, sV q), (2, sV r)] = some ([p, q, r].flatMap sR).toArray := by
  obtain ⟨z⟩ := z
  match z, hz with
  | [z0, z1, z2, z3, z4, z5], _ => rfl
theorem exec_three_sp {ρ : Operand → Value} {o : Oper} {w : World} (x y u : Operand) (ho : o.op = .buildSlice 22 3 #[(0, x), (1, y), (2, u)]) (p q r : Spn) (hx : ρ x = sV p) (hy : ρ y = sV q) (hu : ρ u = sV r) (b : Nat) (hb : w.heap.size = b) :
    (execOp ρ o).run Try.prog w = .ok (.value (.slice (some ⟨b, 0, none⟩) 3 3)) (w.alloc (.cells ([p, q, r].flatMap sR).toArray 24)) := by
  subst hb
  obtain ⟨i, hi, hz, hs, _⟩ := info_parts sp_infoF
  have := run_buildSlice (P := Try.prog) w 22 24 3 #[(0, sV p), (1, sV q), (2, sV r)] ([p, q, r].flatMap sR).toArray i (sV ⟨0, 0⟩) Try.underlying22 hi hz (by rw [hs]; decide) (by rw [hs]; decide) (by rw [hs]; exact fill_sp3 p q r _ (by simp))
  unfold execOp
  simp only [ho, List.map_toArray, List.map_cons, List.map_nil, hx, hy, hu, Sem.run_bind, this, Result.andThen_ok, Sem.run_pure]
theorem fill_sp2' (p q : Spn) (z : Array Value) (hz : z.size = 4) : Instr.fill (fun i => some (i * 2, 2)) z [(0, sV p), (1, sV q)] = some ([p, q].flatMap sR).toArray := by
  obtain ⟨z⟩ := z
  match z, hz with
  | [z0, z1, z2, z3], _ => rfl
theorem exec_two_spf {ρ : Operand → Value} {o : Oper} {w : World} (x y : Operand) (ho : o.op = .buildSlice 22 2 #[(0, x), (1, y)]) (p q : Spn) (hx : ρ x = sV p) (hy : ρ y = sV q) (b : Nat) (hb : w.heap.size = b) :
    (execOp ρ o).run Try.prog w = .ok (.value (.slice (some ⟨b, 0, none⟩) 2 2)) (w.alloc (.cells ([p, q].flatMap sR).toArray 24)) := by
  subst hb
  obtain ⟨i, hi, hz, hs, _⟩ := info_parts sp_infoF
  have := run_buildSlice (P := Try.prog) w 22 24 2 #[(0, sV p), (1, sV q)] ([p, q].flatMap sR).toArray i (sV ⟨0, 0⟩) Try.underlying22 hi hz (by rw [hs]; decide) (by rw [hs]; decide) (by rw [hs]; exact fill_sp2' p q _ (by simp))
  unfold execOp
  simp only [ho, List.map_toArray, List.map_cons, List.map_nil, hx, hy, Sem.run_bind, this, Result.andThen_ok, Sem.run_pure]
theorem exec_one_spf {ρ : Operand → Value} {o : Oper} {w : World} (x : Operand) (ho : o.op = .buildSlice 22 1 #[(0, x)]) (p : Spn) (hx : ρ x = sV p) (b : Nat) (hb : w.heap.size = b) :
    (execOp ρ o).run Try.prog w = .ok (.value (.slice (some ⟨b, 0, none⟩) 1 1)) (w.alloc (.cells ([p].flatMap sR).toArray 24)) := exec_one_spb x ho p hx b hb
set_option maxRecDepth 100000 in
set_option maxHeartbeats 4000000 in
theorem awake11 (w : World) : Calls Try.prog 8 #[] w fun e w' => e = .returned (.bool true) ∧ Below w.heap.size w w' := by
  have al : ∀ (W : World) (o : Obj), Below W.heap.size W (W.alloc o) := fun W o => (Below.refl _ _).alloc (Nat.le_refl _) _
  have hz : Z11 w [(.slice (some ⟨w.heap.size, 0, none⟩) 3 3, exL)] [] (w.alloc (.cells (exL.flatMap sR).toArray 24)) := ⟨fun p hp => by rw [List.mem_singleton.1 hp]; exact isS_new w exL (by decide) _ rfl, (fun q hq => by cases hq), al _ _⟩
  have HZ := Lib.hid hz
  have hl : exL.length = 3 := rfl
  have HAL := Lib.hid al
  clear hz al
  go_enter Try.func8, Try.ntmps8
  have hf0 := sfirst_any _ exL 14 _ (HZ.out.sl _ (.head _)) (by omega)
  rw [exL_first] at hf0
  have HF0 := Lib.hid (show Calls Try.prog 16 #[.slice (some ⟨w.heap.size, 0, none⟩) 3 3, .int .i64 14] (w.alloc (.cells (exL.flatMap sR).toArray 24)) fun e w' => e = .returned (.tuple #[.agg #[.int .i64 16, .int .i64 29], .bool true]) ∧ Below _ _ w' from hf0)
  clear hf0
  go_wp2_with (first
    | (refine plV rfl (.slice (some ⟨w.heap.size, 0, none⟩) 3 3) (exec_three_sp (.tmp 4) (.tmp 5) (.tmp 6) rfl ⟨20, 29⟩ ⟨16, 19⟩ ⟨5, 4⟩ rfl rfl rfl _ rfl) ?_)
    | (go_at_call 16; refine HF0.out.mono ?_; rintro e w1 ⟨rfl, b1⟩; refine Hid.out ?_))
  refine Lib.hid ?_
  have hz1 := HZ.out.up b1
  have hz2 := (hz1.up (HAL.out w1 (.cells #[.int .i64 16, .int .i64 29] 24))).box (s := ⟨16, 29⟩) (Bx.new w1 24 (sR ⟨16, 29⟩))
  have HZ2 := Lib.hid hz2
  clear b1 hz1 hz2 HZ HF0
  have hn0 := snorm_any _ exL _ (HZ2.out.sl _ (.head _)) (by omega)
  rw [exL_norm] at hn0
  have HN0 := Lib.hid hn0
  clear hn0
  go_wp2_with (go_at_call 10; refine HN0.out.mono ?_; rintro e w3 ⟨v3, rfl, i3, b3⟩; refine Hid.out ?_)
  refine Lib.hid ?_
  obtain ⟨a3, c3, rfl, _⟩ := i3.form
  have hb4 := HAL.out w3 (.cells ([(⟨16, 29⟩ : Spn)].flatMap sR).toArray 24)
  have hz4 := (HZ2.out.up b3).up hb4
  have hs4 := rsame_any _ _ [⟨16, 29⟩] _ (i3.below hb4) (isS_new w3 [⟨16, 29⟩] (by decide) _ rfl) (by decide)
  have HZ4 := Lib.hid hz4
  have HS4 := Lib.hid hs4
  clear i3 b3 hb4 hz4 hs4 HZ2 HN0
  go_wp2_with (first
    | (refine plV rfl (.slice (some ⟨w3.heap.size, 0, none⟩) 1 1) (exec_one_spf (.tmp 15) rfl ⟨16, 29⟩ rfl _ rfl) ?_)
    | (go_at_call 9; refine HS4.out.mono ?_; rintro e w5 ⟨rfl, b5⟩; refine Hid.out ?_))
  refine Lib.hid ?_
  have HZ5 := Lib.hid (HZ4.out.up b5)
  clear b5 HS4 HZ4
  have hn0 := scut_any _ exL ⟨18, 24⟩ _ (HZ5.out.sl _ (.head _)) (by omega)
  rw [exL_cut] at hn0
  have HN0 := Lib.hid (show Calls Try.prog 14 #[.slice (some ⟨w.heap.size, 0, none⟩) 3 3, .agg #[.int .i64 18, .int .i64 24]] w5 _ from hn0)
  clear hn0
  go_wp2_with (go_at_call 14; refine HN0.out.mono ?_; rintro e w6 ⟨v6, rfl, i6, b6⟩; refine Hid.out ?_)
  refine Lib.hid ?_
  obtain ⟨a6, c6, rfl, _⟩ := i6.form
  have hb7 := HAL.out w6 (.cells ([(⟨16, 17⟩ : Spn), ⟨25, 29⟩].flatMap sR).toArray 24)
  have hz7 := (HZ5.out.up b6).up hb7
  have hs7 := rsame_any _ _ [⟨16, 17⟩, ⟨25, 29⟩] _ (i6.below hb7) (isS_new w6 [⟨16, 17⟩, ⟨25, 29⟩] (by decide) _ rfl) (by decide)
  have HZ7 := Lib.hid hz7
  have HS7 := Lib.hid hs7
  clear i6 b6 hb7 hz7 hs7 HZ5 HN0
  go_wp2_with (first
    | (refine plV rfl (.slice (some ⟨w6.heap.size, 0, none⟩) 2 2) (exec_two_spf (.tmp 22) (.tmp 23) rfl ⟨16, 17⟩ ⟨25, 29⟩ rfl rfl _ rfl) ?_)
    | (go_at_call 9; refine HS7.out.mono ?_; rintro e w8 ⟨rfl, b8⟩; refine Hid.out ?_))
  refine Lib.hid ?_
  have HZ8 := Lib.hid (HZ7.out.up b8)
  clear b8 HS7 HZ7
  have hn0 := scount_any _ exL _ (HZ8.out.sl _ (.head _)) (by omega)
  rw [exL_count] at hn0
  have HN0 := Lib.hid hn0
  clear hn0
  go_wp2_with (go_at_call 22; refine HN0.out.mono ?_; rintro e w9 ⟨rfl, b9⟩; refine Hid.out ?_)
  refine Lib.hid ?_
  have hz9 := HZ8.out.up b9
  have hr9 := rangeAll (hz9.bx _ (.head _))
  have d0 := rng0 hr9
  have d1 := rng1 hr9
  simp only [Nat.zero_add] at d0 d1
  have HZ9 := Lib.hid hz9
  have hn0 := slong_any _ exL _ (HZ9.out.sl _ (.head _)) (by omega)
  rw [exL_long] at hn0
  have HN1 := Lib.hid hn0
  clear hn0 b9 hz9 hr9 HZ8 HN0
  go_wp2_with (go_at_call 24; refine HN1.out.mono ?_; rintro e w10 ⟨rfl, b10⟩; refine Hid.out ?_)
  refine Lib.hid ?_
  have HZ10 := Lib.hid (HZ9.out.up b10)
  have hn0 := shas_any _ exL ⟨17, 21⟩ _ (HZ10.out.sl _ (.head _)) (by omega)
  rw [exL_has] at hn0
  have HN2 := Lib.hid (show Calls Try.prog 18 #[.slice (some ⟨w.heap.size, 0, none⟩) 3 3, .agg #[.int .i64 17, .int .i64 21]] w10 _ from hn0)
  clear hn0 b10 HZ9 HN1 d0 d1
  go_wp2_with (go_at_call 18; refine HN2.out.mono ?_; rintro e w11 ⟨rfl, b11⟩; refine Hid.out ?_)
  refine Lib.hid ?_
  have HZ11 := Lib.hid (HZ10.out.up b11)
  have hn0 := smeet_any _ exL ⟨29, 40⟩ _ (HZ11.out.sl _ (.head _)) (by omega)
  rw [exL_meet] at hn0
  have HN3 := Lib.hid (show Calls Try.prog 20 #[.slice (some ⟨w.heap.size, 0, none⟩) 3 3, .agg #[.int .i64 29, .int .i64 40]] w11 _ from hn0)
  clear hn0 b11 HZ10 HN2
  go_wp2_with (go_at_call 20; refine HN3.out.mono ?_; rintro e w12 ⟨rfl, b12⟩; refine Hid.out ?_)
  refine Lib.hid ?_
  have HZ12 := Lib.hid (HZ11.out.up b12)
  have hn0 := sadd_any _ exL ⟨40, 40⟩ _ (HZ12.out.sl _ (.head _)) (by omega)
  rw [exL_add] at hn0
  have HN4 := Lib.hid (show Calls Try.prog 12 #[.slice (some ⟨w.heap.size, 0, none⟩) 3 3, .agg #[.int .i64 40, .int .i64 40]] w12 _ from hn0)
  clear hn0 b12 HZ11 HN3
  go_wp2_with (go_at_call 12; refine HN4.out.mono ?_; rintro e w13 ⟨v13, rfl, i13, b13⟩; refine Hid.out ?_)
  refine Lib.hid ?_
  obtain ⟨a13, c13, rfl, _⟩ := i13.form
  have HBF := Lib.hid (HZ12.out.up b13).below
  clear i13 b13 HZ12 HN4
  go_wp2
  go_ret
  exact ⟨rfl, HBF.out⟩
end Go.Proofs.Ythmcgignejofiaa
