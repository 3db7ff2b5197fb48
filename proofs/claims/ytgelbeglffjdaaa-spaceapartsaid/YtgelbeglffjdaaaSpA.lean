/- Package spans: Norm, Add, Has, Count, Longest, First. Package spans: Has; slices.ContainsFunc over spans. Package spans: Count, Longest, First. Package spans: Meets. -/
import Derived.Shelf.SlicesQ.IndexFunc
import Derived.Test.YtgelbeglffjdaaaSp3
import Derived.Test.YtgelbeglffjdaaaPM11
namespace Go.Proofs.Ytgelbeglffjdaaa
open Go Go.RowKit Go.Shelf

theorem fill_l1 (a : Option Addr) (n c : Nat) (z : Array Value) (hz : z.size = 1) : Instr.fill (fun i => some (i * 1, 1)) z [(0, .slice a n c)] = some #[.slice a n c] := by
  obtain ⟨z⟩ := z
  match z, hz with
  | [z0], _ => rfl
theorem fill_l2 (a a' : Option Addr) (n c n' c' : Nat) (z : Array Value) (hz : z.size = 2) : Instr.fill (fun i => some (i * 1, 1)) z [(0, .slice a n c), (1, .slice a' n' c')] = some #[.slice a n c, .slice a' n' c'] := by
  obtain ⟨z⟩ := z
  match z, hz with
  | [z0, z1], _ => rfl
theorem sl_infoF : (Try.prog.info? 51).map (fun i => (i.zero, i.size, i.bytes)) = some (some (.slice none 0 0), 1, 24) := by kernel_rfl
theorem exec_one_l {ρ : Operand → Value} {o : Oper} {w : World} (x : Operand) (ho : o.op = .buildSlice 149 1 #[(0, x)]) (a : Option Addr) (n c : Nat) (hx : ρ x = .slice a n c) (b : Nat) (hb : w.heap.size = b) :
    (execOp ρ o).run Try.prog w = .ok (.value (.slice (some ⟨b, 0, none⟩) 1 1)) (w.alloc (.cells #[.slice a n c] 51)) := by
  subst hb
  obtain ⟨i, hi, hz, hs, _⟩ := info_parts sl_infoF
  have := run_buildSlice (P := Try.prog) w 149 51 1 #[(0, .slice a n c)] #[.slice a n c] i (.slice none 0 0) Try.underlying149 hi hz (by rw [hs]; decide) (by rw [hs]; decide) (by rw [hs]; exact fill_l1 a n c _ (by simp))
  unfold execOp
  simp only [ho, List.map_toArray, List.map_cons, List.map_nil, hx, Sem.run_bind, this, Result.andThen_ok, Sem.run_pure]
theorem exec_two_l {ρ : Operand → Value} {o : Oper} {w : World} (x y : Operand) (ho : o.op = .buildSlice 149 2 #[(0, x), (1, y)]) (a a' : Option Addr) (n c n' c' : Nat) (hx : ρ x = .slice a n c) (hy : ρ y = .slice a' n' c') (b : Nat) (hb : w.heap.size = b) :
    (execOp ρ o).run Try.prog w = .ok (.value (.slice (some ⟨b, 0, none⟩) 2 2)) (w.alloc (.cells #[.slice a n c, .slice a' n' c'] 51)) := by
  subst hb
  obtain ⟨i, hi, hz, hs, _⟩ := info_parts sl_infoF
  have := run_buildSlice (P := Try.prog) w 149 51 2 #[(0, .slice a n c), (1, .slice a' n' c')] #[.slice a n c, .slice a' n' c'] i (.slice none 0 0) Try.underlying149 hi hz (by rw [hs]; decide) (by rw [hs]; decide) (by rw [hs]; exact fill_l2 a a' n c n' c' _ (by simp))
  unfold execOp
  simp only [ho, List.map_toArray, List.map_cons, List.map_nil, hx, hy, Sem.run_bind, this, Result.andThen_ok, Sem.run_pure]
theorem lsR_flat (ls : List (Value × List Spn)) : ls.flatMap lsR = ls.map (·.1) := by
  induction ls with
  | nil => rfl
  | cons p ls ih => rw [List.flatMap_cons, ih]; rfl
/-- A list of lists that was built. -/
theorem isL_new (w : World) (ls : List (Value × List Spn)) (hm : ls.length ≤ 1000) (b : Nat) (hb : w.heap.size = b) : IsL (w.alloc (.cells (ls.map (·.1)).toArray 51)) (.slice (some ⟨b, 0, none⟩) ls.length ls.length) ls := by
  subst hb
  refine ⟨fun _ _ => rfl, _, _, rfl, Nat.le_refl _, by unfold maxLen; omega, fun _ => ⟨w.heap.size, 0, rfl, by simp, fun j v hj => ?_⟩⟩
  rw [lsR_flat] at hj
  rw [Nat.zero_add, (Bx.new w 51 (ls.map (·.1))).cell]
  exact hj
/-- A slice of spans that was built. -/
theorem isS_new (w : World) (l : List Spn) (hm : l.length ≤ 1000) (b : Nat) (hb : w.heap.size = b) : IsS (w.alloc (.cells (l.flatMap sR).toArray 27)) (.slice (some ⟨b, 0, none⟩) l.length l.length) l := by
  subst hb
  refine ⟨sR_all l, _, _, rfl, Nat.le_refl _, by unfold maxLen; omega, fun _ => ⟨w.heap.size, 0, rfl, by simp, fun j v hj => ?_⟩⟩
  rw [Nat.zero_add, (Bx.new w 27 (l.flatMap sR)).cell]
  exact hj
theorem IsS.form {w : World} {v : Value} {l : List Spn} (h : IsS w v l) : ∃ a c, v = .slice a l.length c ∧ c ≤ 9223372036854775807 := by
  obtain ⟨_, a, c, h1, _, h2, _⟩ := h
  exact ⟨a, c, h1, by unfold maxLen at h2; omega⟩
set_option maxRecDepth 100000 in
set_option maxHeartbeats 1000000 in
theorem snorm_own (v : Value) (l : List Spn) (w : World) (h : IsS w v l) (hN : l.length ≤ 100000) :
    Calls Try.prog 56 #[v] w fun e w' => ∃ v', e = .returned v' ∧ OwnS w.heap.size w' v' (normS l) ∧ Below w.heap.size w w' := by
  obtain ⟨a, c, rfl, hc⟩ := h.form
  have hb : Below w.heap.size w (w.alloc (.cells #[.slice a l.length c] 51)) := (Below.refl _ _).alloc (Nat.le_refl _) _
  have HT := Lib.hid (together_own _ [(.slice a l.length c, l)] _ (isL_new w [(.slice a l.length c, l)] (by simp) _ rfl) (fun p hp => by rw [List.mem_singleton.1 hp]; exact h.below hb) (by simpa [flatS] using hN) (by simp))
  have HF := Lib.hid (show flatS [(Value.slice a l.length c, l)] = l by simp [flatS])
  have HB := Lib.hid hb
  clear h hb
  go_enter Try.func56, Try.ntmps56
  go_wp2_with (first
    | (refine plV rfl (.slice (some ⟨w.heap.size, 0, none⟩) 1 1) (exec_one_l (.tmp 3) rfl a l.length c rfl _ rfl) ?_)
    | (go_at_call 80; refine HT.out.mono ?_; rintro e w1 ⟨v1, rfl, h1, b1⟩; refine Hid.out ?_))
  refine Lib.hid ?_
  rw [HF.out] at h1
  obtain ⟨a1, c1, rfl, hc1⟩ := (OwnS.isS h1).form
  have HR := Lib.hid (⟨h1.less HB.out.size, below_up HB.out b1 HB.out.size⟩ : _ ∧ _)
  clear h1 b1
  go_wp2
  go_ret
  exact ⟨_, rfl, HR.out⟩
set_option maxRecDepth 100000 in
set_option maxHeartbeats 1000000 in
theorem sadd_own (v : Value) (l : List Spn) (s : Spn) (w : World) (h : IsS w v l) (hN : l.length ≤ 50000) :
    Calls Try.prog 84 #[v, sV s] w fun e w' => ∃ v', e = .returned v' ∧ OwnS w.heap.size w' v' (addS l s) ∧ Below w.heap.size w w' := by
  obtain ⟨a, c, rfl, hc⟩ := h.form
  have al : ∀ (W : World) (o : Obj), Below W.heap.size W (W.alloc o) := fun W o => (Below.refl _ _).alloc (Nat.le_refl _) _
  obtain ⟨W0, hW0⟩ : ∃ W0, W0 = w.alloc (.cells (sR s).toArray 27) := ⟨_, rfl⟩
  have hs0 : W0.heap.size = w.heap.size + 1 := by rw [hW0]; simp
  obtain ⟨W1, hW1⟩ : ∃ W1, W1 = W0.alloc (.cells (sR s).toArray 27) := ⟨_, rfl⟩
  have hs1 : W1.heap.size = w.heap.size + 1 + 1 := by rw [hW1]; simp [hs0]
  obtain ⟨W2, hW2⟩ : ∃ W2, W2 = W1.alloc (.cells #[.slice a l.length c, .slice (some ⟨w.heap.size + 1, 0, none⟩) 1 1] 51) := ⟨_, rfl⟩
  have b0 : Below w.heap.size w W0 := hW0 ▸ al _ _
  have b1 : Below W0.heap.size W0 W1 := hW1 ▸ al _ _
  have b2 : Below W1.heap.size W1 W2 := hW2 ▸ al _ _
  have hB : Below w.heap.size w W2 := below_up (below_up b0 b1 b0.size) b2 (Nat.le_trans b0.size b1.size)
  have i1 : IsS W1 (.slice (some ⟨w.heap.size + 1, 0, none⟩) 1 1) [s] := by rw [hW1]; exact isS_new W0 [s] (by simp) _ hs0
  have HT : Calls Try.prog 80 #[.slice (some ⟨w.heap.size + 1 + 1, 0, none⟩) 2 2] W2 fun e w' => ∃ v', e = .returned v' ∧ OwnS w.heap.size w' v' (addS l s) ∧ Below w.heap.size w w' := by
    have hL : IsL W2 (.slice (some ⟨w.heap.size + 1 + 1, 0, none⟩) 2 2) [(.slice a l.length c, l), (.slice (some ⟨w.heap.size + 1, 0, none⟩) 1 1, [s])] := by rw [hW2]; exact isL_new W1 [(.slice a l.length c, l), (.slice (some ⟨w.heap.size + 1, 0, none⟩) 1 1, [s])] (by simp) _ hs1
    refine (together_own _ _ W2 hL (fun p hp => ?_) (by simp [flatS]; omega) (by simp)).mono ?_
    · rcases List.mem_cons.1 hp with rfl | hp
      · exact h.below hB
      · rw [List.mem_singleton.1 hp]; exact i1.below b2
    · rintro e w' ⟨v', rfl, h1, h2⟩
      refine ⟨v', rfl, ?_, below_up hB h2 hB.size⟩
      have e1 : normS (flatS [(Value.slice a l.length c, l), (.slice (some ⟨w.heap.size + 1, 0, none⟩) 1 1, [s])]) = addS l s := by simp [flatS, addS]
      rw [← e1]; exact h1.less hB.size
  rw [hW2, hW1, hW0] at HT
  have HT := Lib.hid HT
  have hs0' := Lib.hid (hW0 ▸ hs0)
  have hs1' := Lib.hid (show ((w.alloc (.cells (sR s).toArray 27)).alloc (.cells (sR s).toArray 27)).heap.size = w.heap.size + 1 + 1 by rw [← hW0, ← hW1]; exact hs1)
  clear hs0 hs1 b0 b1 b2 hB i1 hW0 hW1 hW2 h al
  rw [show sV s = .agg (sR s).toArray from rfl]
  have c0 : (sR s)[0]? = some (.int .i64 s.f) := rfl
  have c1 : (sR s)[1]? = some (.int .i64 s.l) := rfl
  go_enter Try.func84, Try.ntmps84
  go_wp2_with (first
    | (refine plV rfl (.slice (some ⟨w.heap.size + 1, 0, none⟩) 1 1) (exec_one_spb (.tmp 6) rfl s rfl _ hs0'.out) ?_)
    | (refine plV rfl (.slice (some ⟨w.heap.size + 1 + 1, 0, none⟩) 2 2) (exec_two_l (.tmp 5) (.tmp 7) rfl a (some ⟨w.heap.size + 1, 0, none⟩) l.length c 1 1 rfl rfl _ hs1'.out) ?_)
    | (go_at_call 80; refine HT.out.mono ?_; rintro e w1 ⟨v1, rfl, h1, b1⟩; refine Hid.out ?_))
  refine Lib.hid ?_
  obtain ⟨a1, c1, rfl, hc1⟩ := (OwnS.isS h1).form
  have HR := Lib.hid (⟨h1, b1⟩ : _ ∧ _)
  clear h1 b1
  go_wp2
  go_ret
  exact ⟨_, rfl, HR.out⟩
theorem snorm_any (v : Value) (l : List Spn) (w : World) (h : IsS w v l) (hN : l.length ≤ 100000) :
    Calls Try.prog 56 #[v] w fun e w' => ∃ v', e = .returned v' ∧ IsS w' v' (normS l) ∧ Below w.heap.size w w' :=
  (snorm_own v l w h hN).mono fun _ _ ⟨v, h1, h2, h3⟩ => ⟨v, h1, h2.isS, h3⟩
theorem sadd_any (v : Value) (l : List Spn) (s : Spn) (w : World) (h : IsS w v l) (hN : l.length ≤ 50000) :
    Calls Try.prog 84 #[v, sV s] w fun e w' => ∃ v', e = .returned v' ∧ IsS w' v' (addS l s) ∧ Below w.heap.size w w' :=
  (sadd_own v l s w h hN).mono fun _ _ ⟨v, h1, h2, h3⟩ => ⟨v, h1, h2.isS, h3⟩
end Go.Proofs.Ytgelbeglffjdaaa
namespace Go.Proofs.Ytgelbeglffjdaaa
open Go Go.RowKit Go.Shelf

set_option maxRecDepth 100000 in
set_option maxHeartbeats 1000000 in
theorem has1_any (s x : Spn) (B : Nat) (W : World) (hB : Bx W B 27 (sR s)) : Calls Try.prog 111 #[.agg (sR x).toArray, .pointer (some ⟨B, 0, none⟩)] W fun e w' => e = .returned (.bool (decide (x.f ≤ s.f ∧ s.l ≤ x.l))) ∧ Below W.heap.size W w' := by
  have HB := Lib.hid ((Below.refl W.heap.size W).alloc (Nat.le_refl _) (.cells (sR x).toArray 27))
  have hr := rangeAll (Bx.new W 27 (sR x))
  have d0 := rng0 hr
  have d1 := rng1 hr
  have hs := rangeAll (hB.al (.cells (sR x).toArray 27))
  have c0 := rng0 hs
  have c1 := rng1 hs
  have hr2 := rangeAll hB
  have e0 := rng0 hr2
  have e1 := rng1 hr2
  have hlt := hB.lt
  have hne : B ≠ W.heap.size := by omega
  obtain ⟨r, hrr⟩ : ∃ r, decide (x.f ≤ s.f ∧ s.l ≤ x.l) = r := ⟨_, rfl⟩
  rw [hrr]
  have HD := Lib.hid hrr.symm
  clear hrr
  clear hr hs hr2 hB
  go_enter Try.func111, Try.ntmps111
  go_wp2
  all_goals (go_ret; refine ⟨?_, HB.out⟩; rw [HD.out]; simp_all <;> omega)
set_option maxRecDepth 100000 in
set_option maxHeartbeats 1000000 in
theorem contains_any (v : Value) (m : List Spn) (s : Spn) (B : Nat) (w : World) (h : IsS w v m) (hB : Bx w B 27 (sR s)) :
    Calls Try.prog 110 #[v, .func (.func 111) #[] #[.pointer (some ⟨B, 0, none⟩)]] w fun e w' => e = .returned (.bool (m.any fun x => decide (x.f ≤ s.f ∧ s.l ≤ x.l))) ∧ Below w.heap.size w w' := by
  haveI : Inhabited Spn := ⟨⟨0, 0⟩⟩
  obtain ⟨a, c, rfl, hc⟩ := h.form
  by_cases hm : m = []
  · subst hm
    go_enter Try.func110, Try.ntmps110
    go_wp2
    go_loopw [8] (fun r wr => r = .int .i64 0 ∧ wr = w) (fun _ _ => 0)
    case atStart => exact ⟨rfl, rfl⟩
    case round =>
      obtain ⟨rfl, rfl⟩ := hrel
      go_wp2
      go_ret
      exact ⟨rfl, Below.refl _ _⟩
  · have hpos : 0 < m.length := List.length_pos_iff.2 hm
    obtain ⟨_, _, _, h4⟩ := h.shape
    obtain ⟨b, k, rfl, hb, hr⟩ := h4 hpos
    have eg : ∀ args w, (callFunc 111 args).run Try.prog w = .ok (.enter 111 args) w := enters_of Try.func111 (by kernel_rfl) rfl
    have hcon := AnyQ.slices_ContainsFunc Try.contSp 2 Try.isAgg27 Try.sizeOf27 sR (fun _ => rfl) (fun x => decide (x.f ≤ s.f ∧ s.l ≤ x.l)) 111 #[.pointer (some ⟨B, 0, none⟩)] eg b k m.length c m w
      (fun W x hW => (has1_any s x B W (hB.up hW)).mono fun e w' he => ⟨he.1, below_up hW he.2 hW.size⟩) (Nat.le_refl _) (by have := h.shape.2.1; omega) hb
      (fun j hj i v hv => by
        have h1 := flat_range (sR_all m) hr j m[j] (List.getElem?_eq_getElem hj) i v (by rw [getElem!_pos m j hj] at hv; exact hv)
        exact h1)
    change Calls Try.prog 110 _ _ _ at hcon
    rw [List.take_length] at hcon
    exact hcon
set_option maxRecDepth 100000 in
set_option maxHeartbeats 1000000 in
theorem shas_any (v : Value) (l : List Spn) (s : Spn) (w : World) (h : IsS w v l) (hN : l.length ≤ 100000) :
    Calls Try.prog 86 #[v, sV s] w fun e w' => e = .returned (.bool (hasS l s)) ∧ Below w.heap.size w w' := by
  obtain ⟨a, c, rfl, hc⟩ := h.form
  have hb0 : Below w.heap.size w (w.alloc (.cells (sR s).toArray 27)) := (Below.refl _ _).alloc (Nat.le_refl _) _
  have HM := Lib.hid (fun W => may_any s W)
  have HB0 := Lib.hid hb0
  have HI := Lib.hid (h.below hb0)
  have HBX := Lib.hid (Bx.new w 27 (sR s))
  have HS := Lib.hid (show hasS l s = (mayB s && (normS l).any fun x => decide (x.f ≤ s.f ∧ s.l ≤ x.l)) from rfl)
  have HNO := Lib.hid (fun v' W (hW : IsS W v' l) => snorm_any v' l W hW hN)
  rw [show sV s = .agg (sR s).toArray from rfl]
  have c0 : (sR s)[0]? = some (.int .i64 s.f) := rfl
  have c1 : (sR s)[1]? = some (.int .i64 s.l) := rfl
  clear h hb0
  cases hm : mayB s with
  | false =>
    rw [hm] at HM
    rw [HS.out, hm, Bool.false_and]
    clear HS
    go_enter Try.func86, Try.ntmps86
    go_wp2_with (go_at_call 97; refine (HM.out _).mono ?_; rintro e w1 ⟨rfl, b1⟩; refine Hid.out ?_)
    refine Lib.hid ?_
    have HB1 := Lib.hid (below_up HB0.out b1 HB0.out.size)
    clear b1
    go_wp2
    go_ret
    exact ⟨rfl, HB1.out⟩
  | true =>
    rw [hm] at HM
    rw [HS.out, hm, Bool.true_and]
    clear HS
    obtain ⟨r, hr⟩ : ∃ r, ((normS l).any fun x => decide (x.f ≤ s.f ∧ s.l ≤ x.l)) = r := ⟨_, rfl⟩
    rw [hr]
    have HR := Lib.hid hr
    clear hr
    go_enter Try.func86, Try.ntmps86
    go_wp2_with (go_at_call 97; refine (HM.out _).mono ?_; rintro e w1 ⟨rfl, b1⟩; refine Hid.out ?_)
    refine Lib.hid ?_
    have HB1 := Lib.hid (below_up HB0.out b1 HB0.out.size)
    have HI1 := Lib.hid (HI.out.below b1)
    have HX1 := Lib.hid (HBX.out.up b1)
    clear b1
    go_wp2_with (go_at_call 56; refine (HNO.out _ _ HI1.out).mono ?_; rintro e w2 ⟨v2, rfl, i2, b2⟩; refine Hid.out ?_)
    refine Lib.hid ?_
    have hc2 := contains_any v2 (normS l) s w.heap.size w2 i2 (HX1.out.up b2)
    rw [HR.out] at hc2
    have HC := Lib.hid hc2
    clear hc2
    have HB2 := Lib.hid (below_up HB1.out b2 HB1.out.size)
    obtain ⟨a2, c2, rfl, hc2⟩ := i2.form
    clear b2 i2
    go_wp2_with (go_at_call 110; refine HC.out.mono ?_; rintro e w3 ⟨rfl, b3⟩; refine Hid.out ?_)
    refine Lib.hid ?_
    have HB3 := Lib.hid (below_up HB2.out b3 HB2.out.size)
    clear b3
    go_wp2
    go_ret
    exact ⟨rfl, HB3.out⟩
end Go.Proofs.Ytgelbeglffjdaaa
namespace Go.Proofs.Ytgelbeglffjdaaa
open Go Go.RowKit Go.Shelf

/-- What First hands back. -/
def fRes (o : Option Spn) : Value := .tuple #[sV (o.getD ⟨0, 0⟩), .bool o.isSome]
theorem built_sp0 : Try.prog.built 27 [] = some (sR ⟨0, 0⟩).toArray := by kernel_rfl
theorem built_sp2 (f l : Int) : Try.prog.built 27 [(0, .int .i64 f), (1, .int .i64 l)] = some (sR ⟨f, l⟩).toArray := by kernel_rfl
set_option maxRecDepth 100000 in
set_option maxHeartbeats 2000000 in
theorem sfirst_any (v : Value) (l : List Spn) (size : Int) (w : World) (h : IsS w v l) (hN : l.length ≤ 100000) :
    Calls Try.prog 58 #[v, .int .i64 size] w fun e w' => e = .returned (fRes (firstS size (normS l))) ∧ Below w.heap.size w w' := by
  obtain ⟨a, c, rfl, hc⟩ := h.form
  have hb : Below w.heap.size w (w.alloc (.cells #[.int .i64 0, .int .i64 0] 27)) := (Below.refl _ _).alloc (Nat.le_refl _) _
  have HB0 := Lib.hid hb
  have HT := Lib.hid (snorm_any _ l _ (h.below hb) hN)
  have HC := Lib.hid (fun x W hx => count_any x W hx)
  have HNB := Lib.hid (Bx.new w 27 [.int .i64 0, .int .i64 0])
  have hml := normS_length_le l
  have HNO := Lib.hid (norm_ok l).1
  by_cases hs : size < 1
  · rw [firstS_low hs]
    clear h hb HNO hml HT HC
    go_enter Try.func58, Try.ntmps58
    go_wp2
    exact bodyPost_ret (v := fRes none) (by simp [results, Try.results58, go_sem, fRes, sV, sR]) rfl ⟨rfl, HB0.out⟩
  · have hs1 : 1 ≤ size := by omega
    generalize normS l = m at *
    clear h hb
    go_enter Try.func58, Try.ntmps58
    go_wp2_with (go_at_call 56; refine HT.out.mono ?_; rintro e w1 ⟨v1, rfl, h1, b1⟩; refine Hid.out ?_)
    refine Lib.hid ?_
    obtain ⟨a1, c1, rfl, hc1⟩ := h1.form
    have HS := Lib.hid h1
    have HB := Lib.hid (below_up HB0.out b1 HB0.out.size)
    have HX1 := Lib.hid (HNB.out.up b1)
    have hw1 := HX1.out.lt
    clear h1 b1 HT HB0 HNB
    go_wp2
    go_loopw [14] (fun i wr => ∃ k : Nat, k ≤ m.length ∧ i = .int .i64 (k : Int) ∧ firstS size m = firstS size (m.drop k) ∧ Below w1.heap.size w1 wr) (fun i _ => m.length - (intOf i).toNat)
    case atStart => exact ⟨0, Nat.zero_le _, rfl, rfl, Below.refl _ _⟩
    case round =>
      obtain ⟨k, hk, rfl, hfs, hbel⟩ := hrel
      by_cases hlt : k < m.length
      · have hlti : (k : Int) < (m.length : Int) := by omega
        obtain ⟨x, hx⟩ : ∃ x, m[k]? = some x := ⟨m[k], List.getElem?_eq_getElem hlt⟩
        have hxm := HNO.out.may x (List.mem_of_getElem? hx)
        obtain ⟨b, o, e1, hrl⟩ : ∃ b o, a1 = some ⟨b, o, none⟩ ∧ b < w1.heap.size := by
          obtain ⟨_, _, _, h4⟩ := HS.out.shape
          obtain ⟨b, o, e1, e2, _⟩ := h4 (by omega)
          exact ⟨b, o, e1, e2⟩
        subst e1
        have hr := IsS.range (HS.out.below hbel) k x hx
        have c0 := rng0 hr
        have c1' := rng1 hr
        have HCX := Lib.hid (fun W => HC.out x W hxm)
        have hfd := firstS_drop (size := size) hx
        have HBW := Lib.hid hbel
        have hbw := hbel.size
        have HFS := Lib.hid hfs
        unfold mayS at hxm
        obtain ⟨hx1, hx2, hx3⟩ := hxm
        clear hr hx hbel hfs
        by_cases hc : size ≤ x.l - x.f + 1
        · rw [if_pos ⟨by omega, hc⟩] at hfd
          have HFD := Lib.hid hfd
          clear hfd
          have hsz2 : size ≤ 1048576 := by omega
          obtain ⟨D, hD⟩ : ∃ D, x.l - x.f + 1 = D := ⟨_, rfl⟩
          rw [hD] at HCX hc
          clear hD
          go_wp2_with (go_at_call 81; refine (HCX.out _).mono ?_; rintro e w4 ⟨rfl, b4⟩; refine Hid.out ?_)
          refine Lib.hid ?_
          have hbn : Below wr.heap.size wr (wr.alloc (.cells #[.int .i64 x.f, .int .i64 x.l] 27)) := (Below.refl _ _).alloc (Nat.le_refl _) _
          have hx4 := (Bx.new wr 27 (sR x)).up b4
          have hq4 := HX1.out.up (below_up HBW.out (below_up hbn b4 hbn.size) hbw)
          have d0 := rng0 (rangeAll hx4)
          have d1 := rng1 (rangeAll hx4)
          have g0 : w4.cell? ⟨w.heap.size, 0, none⟩ = some (.int .i64 0) := by rw [hq4.cell]; rfl
          have g1 : w4.cell? ⟨w.heap.size, 1, none⟩ = some (.int .i64 0) := by rw [hq4.cell]; rfl
          have y0 := hq4.frozen 0
          have y1 := hq4.frozen 1
          have HQ := Lib.hid (((hq4.set 0 (.int .i64 x.f)).set 1 (.int .i64 (x.f + size - 1))))
          have HBQ := Lib.hid (((below_up (below_up HB.out HBW.out HB.out.size) (below_up hbn b4 hbn.size) (Nat.le_trans HB.out.size hbw)).setCell (p := ⟨w.heap.size, 0, none⟩) (Nat.le_refl _) (.int .i64 x.f)).setCell (p := ⟨w.heap.size, 1, none⟩) (Nat.le_refl _) (.int .i64 (x.f + size - 1)))
          have hne : w.heap.size ≠ wr.heap.size := by omega
          clear b4 hbn hx4 hq4
          go_wp2
          rw [HFS.out, HFD.out]
          generalize (w4.setCell ⟨w.heap.size, 0, none⟩ (.int .i64 x.f)).setCell ⟨w.heap.size, 1, none⟩ (.int .i64 (x.f + size - 1)) = WZ at HQ HBQ ⊢
          have z0 := rng0 (x := ⟨x.f, (x.f + size - 1)⟩) (rangeAll HQ.out)
          have z1 := rng1 (x := ⟨x.f, (x.f + size - 1)⟩) (rangeAll HQ.out)
          simp only [Nat.zero_add] at z0 z1
          exact bodyPost_ret (v := fRes (some ⟨x.f, x.f + size - 1⟩)) (by simp [results, Try.results58, go_sem, fRes, sV, sR, z0, z1]) rfl ⟨rfl, HBQ.out⟩
        · rw [if_neg (by omega)] at hfd
          have HFD := Lib.hid hfd
          clear hfd
          obtain ⟨D, hD⟩ : ∃ D, x.l - x.f + 1 = D := ⟨_, rfl⟩
          rw [hD] at HCX hc
          clear hD
          go_wp2_with (go_at_call 81; refine (HCX.out _).mono ?_; rintro e w4 ⟨rfl, b4⟩; refine Hid.out ?_)
          refine Lib.hid ?_
          have HB4 := Lib.hid (below_up HBW.out (below_up ((Below.refl _ _).alloc (Nat.le_refl _) _) b4 (by simp)) HBW.out.size)
          clear b4
          go_wp2
          go_roundw
          case rel => exact ⟨k + 1, hlt, rfl, by rw [HFS.out, HFD.out], HB4.out⟩
          case measure => simp only [intOf]; omega
      · have hlti : ¬ (k : Int) < (m.length : Int) := by omega
        rw [List.drop_of_length_le (by omega)] at hfs
        have HF := Lib.hid (show firstS size m = none from hfs)
        have hq := HX1.out.up hbel
        have HBW := Lib.hid (below_up HB.out hbel HB.out.size)
        have g0 : wr.cell? ⟨w.heap.size, 0, none⟩ = some (.int .i64 0) := by rw [hq.cell]; rfl
        have g1 : wr.cell? ⟨w.heap.size, 1, none⟩ = some (.int .i64 0) := by rw [hq.cell]; rfl
        have y0 := hq.frozen 0
        have y1 := hq.frozen 1
        have HQ := Lib.hid (((hq.set 0 (.int .i64 0)).set 1 (.int .i64 0)))
        have HBQ := Lib.hid ((HBW.out.setCell (p := ⟨w.heap.size, 0, none⟩) (Nat.le_refl _) (.int .i64 0)).setCell (p := ⟨w.heap.size, 1, none⟩) (Nat.le_refl _) (.int .i64 0))
        clear hbel hfs hq
        go_wp2
        rw [HF.out]
        generalize (wr.setCell ⟨w.heap.size, 0, none⟩ (.int .i64 0)).setCell ⟨w.heap.size, 1, none⟩ (.int .i64 0) = WZ at HQ HBQ ⊢
        have z0 := rng0 (x := ⟨0, 0⟩) (rangeAll HQ.out)
        have z1 := rng1 (x := ⟨0, 0⟩) (rangeAll HQ.out)
        simp only [Nat.zero_add] at z0 z1
        exact bodyPost_ret (v := fRes none) (by simp [results, Try.results58, go_sem, fRes, sV, sR, z0, z1]) rfl ⟨rfl, HBQ.out⟩
end Go.Proofs.Ytgelbeglffjdaaa
namespace Go.Proofs.Ytgelbeglffjdaaa
open Go Go.RowKit Go.Shelf
attribute [local go_sem] Oper.semAt_some

/-- Between two rounds of Meets' loop, and where one has returned. -/
structure MeetI (w : World) (s : Spn) (b : Bool) (W : World) : Prop where
  r3 : Bx W w.heap.size 27 (sR s)
  r4 : Bx W (w.heap.size + 1) 4 [.bool b]
  below : Below w.heap.size w W
theorem MeetI.from {w : World} {s : Spn} {b : Bool} {B : Nat} (hB : w.heap.size ≤ B) {X Y : World} {row : Option Nat} (h : MeetI w s b X) (hg : X.grownBy Y row) (hr : ∀ r, row = some r → B ≤ r ∧ ∃ o : Obj, X.heap[r]? = some o ∧ o.isCells = false) : MeetI w s b Y :=
  ⟨bx_from h.r3 hg hr, bx_from h.r4 hg hr, ownFrom_below (β := Unit) (Nat.le_refl _) hB () X Y row h.below hg hr⟩
theorem MeetI.up {w : World} {s : Spn} {b : Bool} {W W' : World} (h : MeetI w s b W) (hb : Below W.heap.size W W') : MeetI w s b W' := ⟨h.r3.up hb, h.r4.up hb, below_up h.below hb h.below.size⟩
def metB (s x : Spn) : Bool := decide (x.f ≤ s.l ∧ s.f ≤ x.l)
def meetIx (w : World) (s : Spn) (c : Code) (pre : List Spn) (W : World) : Prop := c = .ret ∧ ∃ pre0 x, pre = pre0 ++ [x] ∧ metB s x = true ∧ MeetI w s true W
set_option maxRecDepth 100000 in
set_option maxHeartbeats 4000000 in
theorem smeet_any (v : Value) (l : List Spn) (s : Spn) (w : World) (h : IsS w v l) (hN : l.length ≤ 100000) :
    Calls Try.prog 94 #[v, sV s] w fun e w' => e = .returned (.bool (meetS l s)) ∧ Below w.heap.size w w' := by
  obtain ⟨a, c, rfl, hc⟩ := h.form
  have HM := Lib.hid (fun W => may_any s W)
  have hz : MeetI w s false ((w.alloc (.cells (sR s).toArray 27)).alloc (.cells #[.bool false] 4)) := by
    have h2 := twoB_new w 27 4 (sR s) [.bool false]
    exact ⟨h2.1, h2.2.1, h2.2.2⟩
  have HZ := Lib.hid hz
  have HI := Lib.hid h
  have HS := Lib.hid (show meetS l s = (mayB s && (normS l).any fun x => decide (x.f ≤ s.l ∧ s.f ≤ x.l)) from rfl)
  rw [show sV s = .agg (sR s).toArray from rfl]
  have c0 : (sR s)[0]? = some (.int .i64 s.f) := rfl
  have c1 : (sR s)[1]? = some (.int .i64 s.l) := rfl
  have hrz := rangeAll hz.r3
  have d0 := rng0 hrz
  have d1 := rng1 hrz
  clear h hz hrz
  cases hm : mayB s with
  | false =>
    rw [hm] at HM
    rw [HS.out, hm, Bool.false_and]
    clear HS
    go_enter Try.func94, Try.ntmps94
    go_wp2_with (go_at_call 97; refine (HM.out _).mono ?_; rintro e w1 ⟨rfl, b1⟩; refine Hid.out ?_)
    refine Lib.hid ?_
    have z1 := HZ.out.up b1
    have g1 : w1.cell? ⟨w.heap.size + 1, 0, none⟩ = some (.bool false) := by rw [z1.r4.cell]; rfl
    have y1 := z1.r4.frozen 0
    have HB1 := Lib.hid (z1.below.setCell (p := ⟨w.heap.size + 1, 0, none⟩) (by simp) (.bool false))
    have HQ := Lib.hid (z1.r4.set 0 (.bool false))
    clear b1 z1 HZ
    go_wp2
    generalize w1.setCell ⟨w.heap.size + 1, 0, none⟩ (.bool false) = WZ at HB1 HQ ⊢
    have q0 : WZ.cell? ⟨w.heap.size + 1, 0, none⟩ = some (.bool false) := by rw [HQ.out.cell]; rfl
    exact bodyPost_ret (v := .bool false) (by simp [results, Try.results94, go_sem, q0]) rfl ⟨rfl, HB1.out⟩
  | true =>
    rw [hm] at HM
    have hsm : mayS s := (mayB_iff s).1 hm
    rw [HS.out, hm, Bool.true_and, ← meet_good hsm]
    obtain ⟨r, hr⟩ : ∃ r, ((l.filter mayB).any fun x => decide (x.f ≤ s.l ∧ s.f ≤ x.l)) = r := ⟨_, rfl⟩
    rw [hr]
    have HR := Lib.hid (show (goodS l).any (metB s) = r from hr)
    clear HS hr hsm hm
    refine (callsIn_wide (n := 5)).1 ?_
    refine callsIn_of_wp_marks Try.func94 rfl trivial ?_ rfl
    simp only [Try.ntmps94, List.size_toArray, List.length_cons, List.length_nil, Nat.reduceAdd, Nat.reduceSub, Array.replicate_succ, Array.replicate_zero, List.push_toArray, List.append_toArray, List.nil_append, List.cons_append]
    gi_wp2_with (refine ⟨trivial, ?_⟩; refine (callsIn_wide.2 (HM.out _)).mono ?_; rintro e w1 ⟨rfl, b1⟩; refine Hid.out ?_)
    refine Lib.hid ?_
    have z1 := HZ.out.up b1
    have i1 := HI.out.below z1.below
    have hsz1 : w.heap.size + 1 < w1.heap.size := z1.r4.lt
    clear HZ b1 d0 d1
    gi_wp2_with (refine ⟨trivial, ?_⟩; refine (rows_in _ _ _ _ _).mono ?_; rintro e w5 ⟨rfl, rfl⟩; refine Hid.out ?_)
    refine Lib.hid ?_
    have hb5 : Below w1.heap.size w1 (w1.alloc (.cells #[.slice a l.length c] 51)) := (Below.refl _ _).alloc (Nat.le_refl _) _
    have z2 := z1.up hb5
    have hBl := Bx.new w1 51 [.slice a l.length c]
    have hIs : IsD w.heap.size (w1.alloc (.cells #[.slice a l.length c] 51)) (.slice a l.length c) l := (HI.out.isD (Nat.le_refl _)).up z2.below
    have hsz5 : (w1.alloc (.cells #[.slice a l.length c] 51)).heap.size = w1.heap.size + 1 := by simp
    clear z1 hb5 i1
    generalize w1.alloc (.cells #[.slice a l.length c] 51) = W0 at *
    gi_wp2
    refine wpIn_rangeFunc_ownH (n := 5) rfl (by omega) (gf := 121) (lb := #[.pointer (some ⟨w1.heap.size, 0, none⟩)]) rfl trivial (enters_of Try.func121 (by kernel_rfl) rfl)
      (rows_stops 4 w1.heap.size w.heap.size (fun k => k = w.heap.size) (.slice a l.length c) l (by omega) W0 hIs hBl (fun k e => by omega))
      (fun h k => h.trans k) (fun W l o o' _ hl hc _ => KpR.put W l o o' hl hc) (Below.refl _ _) (fun _ => rfl)
      (fun pre W => (∀ y ∈ pre, metB s y = false) ∧ MeetI w s false W) (meetIx w s)
      (fun u X Y row h1 h2 h3 => ⟨h1.1, MeetI.from (by omega) h1.2 h2 h3⟩)
      (fun c u X Y row h1 h2 h3 => by obtain ⟨e, pre0, x, e1, e2, e4⟩ := h1; exact ⟨e, pre0, x, e1, e2, MeetI.from (by omega) e4 h2 h3⟩)
      ⟨(fun _ h => (by cases h)), z2⟩
      (fun x a' W => ∃ B5, w.heap.size + 1 < B5 ∧ Bx W B5 27 (sR x) ∧ a' = { tmps := #[.slice a l.length c, .agg (sR s).toArray, undef, .pointer (some ⟨w.heap.size, 0, none⟩), .pointer (some ⟨w.heap.size + 1, 0, none⟩), .pointer (some ⟨B5, 0, none⟩), sV s, .bool true, .bool false, .slice a l.length c, .func (.func 121) #[] #[.pointer (some ⟨w1.heap.size, 0, none⟩)], sV x, undef, undef, undef, undef, undef, undef, undef, undef, undef, undef, undef, undef], defers := [] })
      (fun x a' u X Y row h1 h2 h3 => by obtain ⟨B5, e1, e2, e3⟩ := h1; exact ⟨B5, e1, bx_from e2 h2 h3, e3⟩)
      ?assign ?body ?done ?stop
    case assign =>
      rintro lp pre x W K ⟨hno, hi⟩ hK
      have hbb : Below W.heap.size W (W.alloc (.cells (sR x).toArray 27)) := (Below.refl _ _).alloc (Nat.le_refl _) _
      gi_wp2_with (refine inS rfl (by intro c h; cases h) rfl (exec_store_fresh _ (.tmp 5) (.tmp 11) rfl (sR x) _ W.heap.size rfl rfl rfl sp_info rfl (sR_one x)) ?_; refine Hid.out ?_)
      refine Lib.hid ?_
      gi_wp2
      exact hK _ _ ((KeepsOthers.alloc _ _).from _) (KpR.below hbb) ⟨hno, hi.up hbb⟩ ⟨W.heap.size, hi.r4.lt, Bx.new W _ _, rfl⟩
    case body =>
      rintro lp pre x a' W hl _ ⟨hno, hi⟩ ⟨B5, hB5, hx5, rfl⟩ hlt
      have hrx := rangeAll hx5
      have x0 := rng0 hrx
      have x1 := rng1 hrx
      have hrs := rangeAll hi.r3
      have s0 := rng0 hrs
      have s1 := rng1 hrs
      have HI2 := Lib.hid hi
      have g1 : W.cell? ⟨w.heap.size + 1, 0, none⟩ = some (.bool false) := by rw [hi.r4.cell]; rfl
      have y1 := hi.r4.frozen 0
      have HNO := Lib.hid hno
      clear hi hrx hrs hx5 hno
      simp only [Nat.zero_add] at x1 s1
      cases hq : metB s x with
      | true =>
        have hq2 := of_decide_eq_true hq
        obtain ⟨hq3, hq4⟩ := hq2
        gi_wp2
        have g3 := HI2.out.r3.setOther (k := w.heap.size + 1) (by omega) 0 (.bool true)
        have g4 := HI2.out.r4.set 0 (.bool true)
        exact ⟨(KeepsOthers.setCell _ _ _).from _, rfl, pre, x, rfl, hq, g3, g4, HI2.out.below.setCell (p := ⟨w.heap.size + 1, 0, none⟩) (by simp) _⟩
      | false =>
        have hq2 := of_decide_eq_false hq
        have hfin : (∀ B, KeepsFrom B W W) ∧ KpR w.heap.size (fun k => k = w.heap.size) W W ∧ (∀ y ∈ pre ++ [x], metB s y = false) ∧ MeetI w s false W := ⟨fun _ => KeepsFrom.refl _ _, KpR.refl _, fun y hy => by
          rcases List.mem_append.1 hy with hy | hy
          · exact HNO.out y hy
          · rw [List.mem_singleton.1 hy]; exact hq, HI2.out⟩
        have HFIN := Lib.hid hfin
        clear hfin
        by_cases hq3 : x.f ≤ s.l
        · have hq4 : ¬ s.f ≤ x.l := fun h => hq2 ⟨hq3, h⟩
          clear hq2 hq
          gi_wp2
          exact ⟨HFIN.out.1 _, HFIN.out.2⟩
        · clear hq2 hq
          gi_wp2
          exact ⟨HFIN.out.1 _, HFIN.out.2⟩
    case done =>
      rintro D xs W hD hS ⟨hno, hi⟩ hK
      have hg : r = false := by
        rw [← HR.out, ← hS, Bool.eq_false_iff]
        intro h2
        obtain ⟨y, hy, h3⟩ := List.any_eq_true.1 h2
        rw [hno y hy] at h3
        cases h3
      have g1 : W.cell? ⟨w.heap.size + 1, 0, none⟩ = some (.bool false) := by rw [hi.r4.cell]; rfl
      have y1 := hi.r4.frozen 0
      have HI2 := Lib.hid hi
      clear hi
      gi_wp2
      have g4 := HI2.out.r4.set 0 (.bool false)
      have gb := HI2.out.below.setCell (p := ⟨w.heap.size + 1, 0, none⟩) (by simp) (.bool false)
      have hK2 := (KeepsOthers.setCell W ⟨w.heap.size + 1, 0, none⟩ (.bool false)).same D _ hK rfl
      refine ⟨by simp, .inl ⟨_, _, rfl, run_takeDeferred hK2, ?_⟩⟩
      have e1 := cell_kept ((g4.cell 0).trans rfl) (grownBy_putObj' _ D (.deferred none)) (fun r e => by cases e; exact ⟨_, hK2, rfl⟩)
      exact ⟨.bool false, by simp [results, Try.results94, go_sem, e1], by rw [hg], gb.trans (belowK_b (w := w) (Nat.le_refl _) _ D _ _ (by omega) hK2 rfl rfl)⟩
    case stop =>
      rintro D c pre W hD hp2 ⟨rfl, pre0, x, rfl, hx, hi⟩ hK
      have hg : r = true := by
        rw [← HR.out]
        obtain ⟨tl, htl⟩ := hp2
        rw [← htl]
        simp [hx]
      have HI2 := Lib.hid hi
      clear hi
      gi_wp2
      refine ⟨by simp, .inl ⟨_, _, rfl, run_takeDeferred hK, ?_⟩⟩
      have e1 := cell_kept ((HI2.out.r4.cell 0).trans rfl) (grownBy_putObj' _ D (.deferred none)) (fun r e => by cases e; exact ⟨_, hK, rfl⟩)
      exact ⟨.bool true, by simp [results, Try.results94, go_sem, e1], by rw [hg], HI2.out.below.trans (belowK_b (w := w) (Nat.le_refl _) _ D _ _ (by omega) hK rfl rfl)⟩
end Go.Proofs.Ytgelbeglffjdaaa
