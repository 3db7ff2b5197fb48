/- Package spans: Norm, Add, Has, Count, Longest, First. -/
import Derived.Shelf.SlicesQ.IndexFunc
import Derived.Test.YthmcgignejofiaaSp3
import Derived.Test.YthmcgignejofiaaM11d
namespace Go.Proofs.Ythmcgignejofiaa
open Go Go.RowKit Go.Shelf

theorem fill_l1 (a : Option Addr) (n c : Nat) (z : Array Value) (hz : z.size = 1) : Instr.fill (fun i => some (i * 1, 1)) z [(0, .slice a n c)] = some #[.slice a n c] := by
  obtain ⟨z⟩ := z
  match z, hz with
  | [z0], _ => rfl
theorem fill_l2 (a a' : Option Addr) (n c n' c' : Nat) (z : Array Value) (hz : z.size = 2) : Instr.fill (fun i => some (i * 1, 1)) z [(0, .slice a n c), (1, .slice a' n' c')] = some #[.slice a n c, .slice a' n' c'] := by
  obtain ⟨z⟩ := z
  match z, hz with
  | [z0, z1], _ => rfl
theorem sl_infoF : (Try.prog.info? 22).map (fun i => (i.zero, i.size, i.bytes)) = some (some (.slice none 0 0), 1, 24) := by kernel_rfl
theorem exec_one_l {ρ : Operand → Value} {o : Oper} {w : World} (x : Operand) (ho : o.op = .buildSlice 43 1 #[(0, x)]) (a : Option Addr) (n c : Nat) (hx : ρ x = .slice a n c) (b : Nat) (hb : w.heap.size = b) :
    (execOp ρ o).run Try.prog w = .ok (.value (.slice (some ⟨b, 0, none⟩) 1 1)) (w.alloc (.cells #[.slice a n c] 22)) := by
  subst hb
  obtain ⟨i, hi, hz, hs, _⟩ := info_parts sl_infoF
  have := run_buildSlice (P := Try.prog) w 43 22 1 #[(0, .slice a n c)] #[.slice a n c] i (.slice none 0 0) Try.underlying43 hi hz (by rw [hs]; decide) (by rw [hs]; decide) (by rw [hs]; exact fill_l1 a n c _ (by simp))
  unfold execOp
  simp only [ho, List.map_toArray, List.map_cons, List.map_nil, hx, Sem.run_bind, this, Result.andThen_ok, Sem.run_pure]
theorem exec_two_l {ρ : Operand → Value} {o : Oper} {w : World} (x y : Operand) (ho : o.op = .buildSlice 43 2 #[(0, x), (1, y)]) (a a' : Option Addr) (n c n' c' : Nat) (hx : ρ x = .slice a n c) (hy : ρ y = .slice a' n' c') (b : Nat) (hb : w.heap.size = b) :
    (execOp ρ o).run Try.prog w = .ok (.value (.slice (some ⟨b, 0, none⟩) 2 2)) (w.alloc (.cells #[.slice a n c, .slice a' n' c'] 22)) := by
  subst hb
  obtain ⟨i, hi, hz, hs, _⟩ := info_parts sl_infoF
  have := run_buildSlice (P := Try.prog) w 43 22 2 #[(0, .slice a n c), (1, .slice a' n' c')] #[.slice a n c, .slice a' n' c'] i (.slice none 0 0) Try.underlying43 hi hz (by rw [hs]; decide) (by rw [hs]; decide) (by rw [hs]; exact fill_l2 a a' n c n' c' _ (by simp))
  unfold execOp
  simp only [ho, List.map_toArray, List.map_cons, List.map_nil, hx, hy, Sem.run_bind, this, Result.andThen_ok, Sem.run_pure]
theorem lsR_flat (ls : List (Value × List Spn)) : ls.flatMap lsR = ls.map (·.1) := by
  induction ls with
  | nil => rfl
  | cons p ls ih => rw [List.flatMap_cons, ih]; rfl
/-- A list of lists that was built. -/
theorem isL_new (w : World) (ls : List (Value × List Spn)) (hm : ls.length ≤ 1000) (b : Nat) (hb : w.heap.size = b) : IsL (w.alloc (.cells (ls.map (·.1)).toArray 22)) (.slice (some ⟨b, 0, none⟩) ls.length ls.length) ls := by
  subst hb
  refine ⟨fun _ _ => rfl, _, _, rfl, Nat.le_refl _, by unfold maxLen; omega, fun _ => ⟨w.heap.size, 0, rfl, by simp, fun j v hj => ?_⟩⟩
  rw [lsR_flat] at hj
  rw [Nat.zero_add, (Bx.new w 22 (ls.map (·.1))).cell]
  exact hj
/-- A slice of spans that was built. -/
theorem isS_new (w : World) (l : List Spn) (hm : l.length ≤ 1000) (b : Nat) (hb : w.heap.size = b) : IsS (w.alloc (.cells (l.flatMap sR).toArray 24)) (.slice (some ⟨b, 0, none⟩) l.length l.length) l := by
  subst hb
  refine ⟨sR_all l, _, _, rfl, Nat.le_refl _, by unfold maxLen; omega, fun _ => ⟨w.heap.size, 0, rfl, by simp, fun j v hj => ?_⟩⟩
  rw [Nat.zero_add, (Bx.new w 24 (l.flatMap sR)).cell]
  exact hj
theorem IsS.form {w : World} {v : Value} {l : List Spn} (h : IsS w v l) : ∃ a c, v = .slice a l.length c ∧ c ≤ 9223372036854775807 := by
  obtain ⟨_, a, c, h1, _, h2, _⟩ := h
  exact ⟨a, c, h1, by unfold maxLen at h2; omega⟩
set_option maxRecDepth 100000 in
set_option maxHeartbeats 1000000 in
theorem snorm_any (v : Value) (l : List Spn) (w : World) (h : IsS w v l) (hN : l.length ≤ 100000) :
    Calls Try.prog 10 #[v] w fun e w' => ∃ v', e = .returned v' ∧ IsS w' v' (normS l) ∧ Below w.heap.size w w' := by
  obtain ⟨a, c, rfl, hc⟩ := h.form
  have hb : Below w.heap.size w (w.alloc (.cells #[.slice a l.length c] 22)) := (Below.refl _ _).alloc (Nat.le_refl _) _
  have HT := Lib.hid (together_any _ [(.slice a l.length c, l)] _ (isL_new w [(.slice a l.length c, l)] (by simp) _ rfl) (fun p hp => by rw [List.mem_singleton.1 hp]; exact h.below hb) (by simpa [flatS] using hN) (by simp))
  have HF := Lib.hid (show flatS [(Value.slice a l.length c, l)] = l by simp [flatS])
  have HB := Lib.hid hb
  clear h hb
  go_enter Try.func10, Try.ntmps10
  go_wp2_with (first
    | (refine plV rfl (.slice (some ⟨w.heap.size, 0, none⟩) 1 1) (exec_one_l (.tmp 3) rfl a l.length c rfl _ rfl) ?_)
    | (go_at_call 27; refine HT.out.mono ?_; rintro e w1 ⟨v1, rfl, h1, b1⟩; refine Hid.out ?_))
  refine Lib.hid ?_
  rw [HF.out] at h1
  obtain ⟨a1, c1, rfl, hc1⟩ := h1.form
  have HR := Lib.hid (⟨h1, below_up HB.out b1 HB.out.size⟩ : _ ∧ _)
  clear h1 b1
  go_wp2
  go_ret
  exact ⟨_, rfl, HR.out⟩
set_option maxRecDepth 100000 in
set_option maxHeartbeats 1000000 in
theorem sadd_any (v : Value) (l : List Spn) (s : Spn) (w : World) (h : IsS w v l) (hN : l.length ≤ 50000) :
    Calls Try.prog 12 #[v, sV s] w fun e w' => ∃ v', e = .returned v' ∧ IsS w' v' (addS l s) ∧ Below w.heap.size w w' := by
  obtain ⟨a, c, rfl, hc⟩ := h.form
  have al : ∀ (W : World) (o : Obj), Below W.heap.size W (W.alloc o) := fun W o => (Below.refl _ _).alloc (Nat.le_refl _) _
  obtain ⟨W0, hW0⟩ : ∃ W0, W0 = w.alloc (.cells (sR s).toArray 24) := ⟨_, rfl⟩
  have hs0 : W0.heap.size = w.heap.size + 1 := by rw [hW0]; simp
  obtain ⟨W1, hW1⟩ : ∃ W1, W1 = W0.alloc (.cells (sR s).toArray 24) := ⟨_, rfl⟩
  have hs1 : W1.heap.size = w.heap.size + 1 + 1 := by rw [hW1]; simp [hs0]
  obtain ⟨W2, hW2⟩ : ∃ W2, W2 = W1.alloc (.cells #[.slice a l.length c, .slice (some ⟨w.heap.size + 1, 0, none⟩) 1 1] 22) := ⟨_, rfl⟩
  have b0 : Below w.heap.size w W0 := hW0 ▸ al _ _
  have b1 : Below W0.heap.size W0 W1 := hW1 ▸ al _ _
  have b2 : Below W1.heap.size W1 W2 := hW2 ▸ al _ _
  have hB : Below w.heap.size w W2 := below_up (below_up b0 b1 b0.size) b2 (Nat.le_trans b0.size b1.size)
  have i1 : IsS W1 (.slice (some ⟨w.heap.size + 1, 0, none⟩) 1 1) [s] := by rw [hW1]; exact isS_new W0 [s] (by simp) _ hs0
  have HT : Calls Try.prog 27 #[.slice (some ⟨w.heap.size + 1 + 1, 0, none⟩) 2 2] W2 fun e w' => ∃ v', e = .returned v' ∧ IsS w' v' (addS l s) ∧ Below w.heap.size w w' := by
    have hL : IsL W2 (.slice (some ⟨w.heap.size + 1 + 1, 0, none⟩) 2 2) [(.slice a l.length c, l), (.slice (some ⟨w.heap.size + 1, 0, none⟩) 1 1, [s])] := by rw [hW2]; exact isL_new W1 [(.slice a l.length c, l), (.slice (some ⟨w.heap.size + 1, 0, none⟩) 1 1, [s])] (by simp) _ hs1
    refine (together_any _ _ W2 hL (fun p hp => ?_) (by simp [flatS]; omega) (by simp)).mono ?_
    · rcases List.mem_cons.1 hp with rfl | hp
      · exact h.below hB
      · rw [List.mem_singleton.1 hp]; exact i1.below b2
    · rintro e w' ⟨v', rfl, h1, h2⟩
      refine ⟨v', rfl, ?_, below_up hB h2 hB.size⟩
      have e1 : normS (flatS [(Value.slice a l.length c, l), (.slice (some ⟨w.heap.size + 1, 0, none⟩) 1 1, [s])]) = addS l s := by simp [flatS, addS]
      rw [← e1]; exact h1
  rw [hW2, hW1, hW0] at HT
  have HT := Lib.hid HT
  have hs0' := Lib.hid (hW0 ▸ hs0)
  have hs1' := Lib.hid (show ((w.alloc (.cells (sR s).toArray 24)).alloc (.cells (sR s).toArray 24)).heap.size = w.heap.size + 1 + 1 by rw [← hW0, ← hW1]; exact hs1)
  clear hs0 hs1 b0 b1 b2 hB i1 hW0 hW1 hW2 h al
  rw [show sV s = .agg (sR s).toArray from rfl]
  have c0 : (sR s)[0]? = some (.int .i64 s.f) := rfl
  have c1 : (sR s)[1]? = some (.int .i64 s.l) := rfl
  go_enter Try.func12, Try.ntmps12
  go_wp2_with (first
    | (refine plV rfl (.slice (some ⟨w.heap.size + 1, 0, none⟩) 1 1) (exec_one_spb (.tmp 6) rfl s rfl _ hs0'.out) ?_)
    | (refine plV rfl (.slice (some ⟨w.heap.size + 1 + 1, 0, none⟩) 2 2) (exec_two_l (.tmp 5) (.tmp 7) rfl a (some ⟨w.heap.size + 1, 0, none⟩) l.length c 1 1 rfl rfl _ hs1'.out) ?_)
    | (go_at_call 27; refine HT.out.mono ?_; rintro e w1 ⟨v1, rfl, h1, b1⟩; refine Hid.out ?_))
  refine Lib.hid ?_
  obtain ⟨a1, c1, rfl, hc1⟩ := h1.form
  have HR := Lib.hid (⟨h1, b1⟩ : _ ∧ _)
  clear h1 b1
  go_wp2
  go_ret
  exact ⟨_, rfl, HR.out⟩
end Go.Proofs.Ythmcgignejofiaa
