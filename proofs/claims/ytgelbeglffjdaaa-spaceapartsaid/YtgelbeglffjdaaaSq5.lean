/- Package space: a block laid in, a block taken out. -/
import Derived.Test.YtgelbeglffjdaaaSqQ
import Derived.Test.YtgelbeglffjdaaaRegX
import Derived.Test.YtgelbeglffjdaaaRepM
namespace Go.Proofs.Ytgelbeglffjdaaa
open Go Go.RowKit Go.Shelf
attribute [local go_sem] Oper.semAt_some

theorem repl_any (v : Value) (n : Nat) (xs : List Value) (i j : Nat) (u : Value) (m : Nat) (nws : List Value) (base b2 : Nat) (w : World) (hown : w.ownsRow base 27 2 v n xs) (hu : w.ownsRow b2 27 2 u m nws)
    (hne : ∀ k, v.ownBlock = some k → u.ownBlock ≠ some k) (hij : i ≤ j) (hj : j ≤ n) (hm : i = j → 0 < m) (hnm : n + m ≤ 1000000) (h1 : ∀ x ∈ nws, x.oneCell' = true) (h1x : ∀ x ∈ xs, x.oneCell' = true) (hbase : base ≤ w.heap.size) :
    Calls Try.prog 83 #[v, .int .i64 i, .int .i64 j, u] w fun e w' => ∃ v', e = .returned v' ∧ RowTo w w' base 27 2 v v' (i + m + (n - j)) (xs.take (i * 2) ++ nws ++ xs.drop (j * 2)) := by
  rcases Nat.eq_or_lt_of_le hij with rfl | hlt
  · have h := repl_same v n xs i u m nws base b2 w hown hu hne hj (hm rfl) hnm h1 h1x hbase
    rwa [show n + m = i + m + (n - i) by omega] at h
  · rcases Nat.eq_or_lt_of_le hj with rfl | hlt2
    · have h := repl_end v j xs i u m nws base b2 w hown hu hlt hnm h1 hbase
      rw [Nat.sub_self, Nat.add_zero, List.drop_eq_nil_of_le (by rw [hown.1]; omega), List.append_nil]
      exact h
    · exact repl_mid v n xs i j u m nws base b2 w hown hu hne hlt hlt2 hnm h1 h1x hbase
theorem flat_cut {α : Type} (f : α → List Value) (c : Nat) (A B : List α) (h : ∀ x ∈ A, (f x).length = c) : ((A ++ B).flatMap f).take (A.length * c) = A.flatMap f ∧ ((A ++ B).flatMap f).drop (A.length * c) = B.flatMap f := by
  have hl := cflat_length A h
  rw [List.flatMap_append, ← hl]
  exact ⟨List.take_left, List.drop_left⟩
theorem flat_one {α : Type} (f : α → List Value) (h : ∀ x : α, ∀ v ∈ f x, v.oneCell' = true) (l : List α) : ∀ v ∈ l.flatMap f, v.oneCell' = true := fun v hv => by
  obtain ⟨x, _, hx⟩ := List.mem_flatMap.1 hv
  exact h x v hx
theorem ty_apart {W : World} {base b2 : Nat} {e e2 : TypeId} {c c2 n n2 : Nat} {v u : Value} {xs ys : List Value} (h : W.ownsRow base e c v n xs) (h2 : W.ownsRow b2 e2 c2 u n2 ys) (he : e ≠ e2) : ∀ k, v.ownBlock = some k → u.ownBlock ≠ some k := fun k e1 e3 => by
  obtain ⟨c1, h3⟩ := own_type h k e1
  obtain ⟨c2, h4⟩ := own_type h2 k e3
  rw [h3] at h4
  exact he (Obj.cells.inj (Option.some.inj h4)).2.1
theorem bx_apart {W : World} {base : Nat} {e e2 : TypeId} {c n : Nat} {v : Value} {xs l : List Value} (h : W.ownsRow base e c v n xs) {g : Nat} (h2 : Bx W g e2 l) (he : e ≠ e2) : v.ownBlock ≠ some g := fun e1 => by
  obtain ⟨c1, h3⟩ := own_type h g e1
  rw [show W.heap[g]? = _ from h2] at h3
  exact he (Obj.cells.inj (Option.some.inj h3)).2.1.symm
/-- Which blocks a space has of its own. -/
def OwnK (pt : Nat) (vb vr : Value) (k : Nat) : Prop := k = pt ∨ vb.ownBlock = some k ∨ vr.ownBlock = some k
/-- A step over a space: the space anew, its blocks of its own still, or new ones, all else as it was. -/
structure SpTo (w w' : World) (base pt : Nat) (vb vr : Value) (t : SpS) : Prop where
  to : ∃ vb' vr', SpM w' base pt vb' vr' t ∧ ∀ k, OwnK pt vb' vr' k → OwnK pt vb vr k ∨ w.heap.size ≤ k
  kp : KpO (OwnK pt vb vr) w w'
theorem exec_one_blk {ρ : Operand → Value} {o : Oper} {w : World} (x : Operand) (ho : o.op = .buildSlice 44 1 #[(0, x)]) (s : Blk) (hx : ρ x = bV s) (W : World) (hW : w.alloc (.cells (bR s).toArray 47) = W) :
    (execOp ρ o).run Try.prog w = .ok (.value (.slice (some ⟨w.heap.size, 0, none⟩) 1 1)) W := by
  subst hW
  obtain ⟨i, hi, hz, hs, _⟩ := info_parts blk_inf12
  have := run_buildSlice (P := Try.prog) w 44 47 1 #[(0, bV s)] (bR s).toArray i (bV ⟨⟨0, 0⟩, 0, 0⟩) Try.underlying44 hi hz (by rw [hs]; decide) (by rw [hs]; decide) (by rw [hs]; exact fill_one 4 (bR s) rfl _ (by simp))
  unfold execOp
  simp only [ho, List.map_toArray, List.map_cons, List.map_nil, hx, Sem.run_bind, this, Result.andThen_ok, Sem.run_pure]
/-- What is held while a part of a space is written: the block at hand. -/
def HeldB (b : Nat) (s : Blk) (W : World) : Prop := W.rangeAt b 0 (bR s)
theorem HeldB.sp {b : Nat} {s : Blk} {W : World} (h : HeldB b s W) : W.rangeAt b 0 (sR s.s) := fun j v hj => by
  match j, hj with
  | 0, hj => exact h 0 v hj
  | 1, hj => exact h 1 v hj
  | j + 2, hj => simp [sR] at hj
/-- What is held while a space's rows are written: their slice, till it is stored anew; the block at hand. -/
def HeldU (pt b : Nat) (vr : Value) (s : Blk) (W : World) : Prop := (W.cell? ⟨pt, 7, none⟩ = some vr ∧ W.frozen? ⟨pt, 7, none⟩ = false) ∧ HeldB b s W
theorem exec_store_hdrK {ρ : Operand → Value} {o : Oper} {w : World} (x y : Operand) (ho : o.op = .store 44 x y) (p : Addr) (a : Option Addr) (n c : Nat) (u : Value) (hx : ρ x = .pointer (some p)) (hy : ρ y = .slice a n c) (hc : w.cell? p = some u) (hf : w.frozen? p = false)
    (W : World) (hW : w.setCell p (.slice a n c) = W) : (execOp ρ o).run Try.prog w = .ok .skip W := by
  subst hW
  unfold execOp
  simp only [ho, hx, hy]
  go_simp
theorem cutS_length (l : List Spn) (s : Spn) : (cutS l s).length ≤ 2 * l.length := by
  have hl : ∀ m : List Spn, (m.flatMap (partS s)).length = 2 * m.length := fun m => by
    induction m with
    | nil => rfl
    | cons x m ih => rw [List.flatMap_cons, List.length_append, ih]; simp [partS]; omega
  unfold cutS
  split
  · have h1 := normS_length_le ((normS l).flatMap (partS s))
    have h2 := normS_length_le l
    rw [hl] at h1
    omega
  · have h2 := normS_length_le l
    omega
theorem addS_some {l : List Spn} {s : Spn} (h : mayS s) : 0 < (addS l s).length := by
  rcases Nat.eq_zero_or_pos (addS l s).length with h0 | h0
  · have h1 := List.eq_nil_of_length_eq_zero h0
    have h2 := add_in l s s.f
    unfold mayS at h
    rw [h1, inSd_may h] at h2
    have h3 : decide (s.f ≤ s.f ∧ s.f ≤ s.l) = true := decide_eq_true ⟨Int.le_refl _, h.2.1⟩
    rw [h3, Bool.or_true] at h2
    cases h2
  · exact h0
set_option maxRecDepth 100000 in
set_option maxHeartbeats 4000000 in
theorem put_any {base pt : Nat} {vb vr : Value} {t : SpS} (s : Blk) (hs : mayO s.s) (hout : ∀ b ∈ t.l, s.s.l < b.s.f ∨ b.s.l < s.s.f) (hwf : WF (t.put s)) (w : World) (h : SpM w base pt vb vr t) (hl : t.l.length ≤ 900) :
    Calls Try.prog 59 #[.pointer (some ⟨pt, 6, none⟩), bV s] w fun e w' => e = .returned (.tuple #[]) ∧ SpTo w w' base pt vb vr (t.put s) := by
  obtain ⟨A, Z, hP⟩ := place_split s.s.f h.wf.srt h.may
  have hput := hP.put (fun y hy => ⟨h.may y hy, hout y hy⟩) hs
  have hrl := h.rl
  have HLEN := Lib.hid (show (t.put s).l.length ≤ 1000 by
    show (putB s t.l).length ≤ 1000
    rw [hput]
    have := congrArg List.length hP.eq
    rw [List.length_append] at this
    rw [List.length_append, List.length_cons]
    omega)
  have hb0 : Below w.heap.size w (w.alloc (.cells (bR s).toArray 47)) := (Below.refl _ _).alloc (Nat.le_refl _) _
  have hx0 := Bx.new w 47 (bR s)
  have h1 := h.up hb0
  have HL := Lib.hid (place_any pt vb vr t.l A Z s.s.f hP _ h1.isK (by omega) h1.own)
  have HM := Lib.hid h
  have HB0 := Lib.hid hb0
  have HX0 := Lib.hid hx0
  have e0 : (bR s)[0]? = some (.int .i64 s.s.f) := rfl
  have e1 : (bR s)[1]? = some (.int .i64 s.s.l) := rfl
  rw [show bV s = .agg (bR s).toArray from rfl]
  have mixed : Try.prog.follows .mixedOrders = true := by kernel_rfl
  have HNW := Lib.hid (own_notnew h.kb)
  obtain ⟨a, cap, hvb, hcap⟩ := h.isK.form
  obtain ⟨nb, hnb⟩ : ∃ nb, t.l.length = nb := ⟨_, rfl⟩
  have HNB := Lib.hid hnb
  have HP := Lib.hid hP
  rw [hnb] at hvb
  have hak : A.length ≤ nb := by rw [← hnb, hP.eq, List.length_append]; omega
  rw [hnb] at hl
  subst hvb
  clear h hb0 hx0 h1 hP hnb
  generalize (atB s.s.f Z).isSome = hit at HL
  obtain ⟨na, hna⟩ : ∃ na, A.length = na := ⟨_, rfl⟩
  have HNA := Lib.hid hna
  rw [hna] at HL hak
  clear hna
  have HMAY := Lib.hid hs
  have HPUT := Lib.hid hput
  have HWF := Lib.hid hwf
  clear hput hwf hout hs
  go_enter Try.func59, Try.ntmps59
  go_wp2_with (go_at_call 75; refine HL.out.mono ?_; rintro e w1 ⟨rfl, b1⟩; refine Hid.out ?_)
  refine Lib.hid ?_
  have hbb := below_up HB0.out b1 HB0.out.size
  have HX1 := Lib.hid ((HX0.out.up b1).up (Below.refl _ _).drew)
  have HM1 := Lib.hid ((HM.out.up hbb).up (Below.refl _ _).drew)
  have HB1 := Lib.hid (below_up hbb (Below.refl _ _).drew hbb.size)
  clear b1 hbb HX0 HB0 HM HL e0 e1
  go_wp2
  refine wp_region_noPanic ?_
  refine wp_region_held_drew (S := HeldB w.heap.size s) (by kernel_rfl) (rangeAll HX1.out) (fun hHeld => ?_)
  generalize w1.drew = wd at *
  have y6 : wd.cell? ⟨pt, 6, none⟩ = some (.slice a nb cap) := HM1.out.own.1
  refine held_take (v := ?v143) 0 rfl (by kernel_rfl) (by kernel_rfl) (by kernel_rfl) (fun _ _ _ h => h) (by rfl) ?y143 (by assumption) ?_
  case y143 => (intro w hSw; unfold HeldB at hSw; go_simp; (try with_reducible rfl); (try omega))
  simp only [List.setIfInBounds_toArray, List.set_cons_zero, List.set_cons_succ]
  refine held_take (v := ?v146) 1 rfl (by kernel_rfl) (by kernel_rfl) (by kernel_rfl) (fun _ _ _ h => h) (by rfl) ?y146 (by assumption) ?_
  case y146 => (intro w hSw; unfold HeldB at hSw; go_simp; (try with_reducible rfl); (try omega))
  simp only [List.setIfInBounds_toArray, List.set_cons_zero, List.set_cons_succ]
  refine held_take (v := ?v149) 2 rfl (by kernel_rfl) (by kernel_rfl) (by kernel_rfl) (fun _ _ _ h => h) (by rfl) ?y149 (by assumption) ?_
  case y149 => (intro w hSw; unfold HeldB at hSw; go_simp; (try with_reducible rfl); (try omega))
  simp only [List.setIfInBounds_toArray, List.set_cons_zero, List.set_cons_succ]
  refine held_take (v := ?v152) 3 rfl (by kernel_rfl) (by kernel_rfl) (by kernel_rfl) (fun _ _ _ h => h) (by rfl) ?y152 (by assumption) ?_
  case y152 => (intro w hSw; unfold HeldB at hSw; go_simp; (try with_reducible rfl); (try omega))
  simp only [List.setIfInBounds_toArray, List.set_cons_zero, List.set_cons_succ]
  refine held_take (v := ?v155) 5 rfl (by kernel_rfl) (by kernel_rfl) (by kernel_rfl) (fun _ _ _ h => h) (by rfl) ?y155 (by assumption) ?_
  case y155 => (intro w hSw; unfold HeldB at hSw; go_simp; (try with_reducible rfl); (try omega))
  simp only [List.setIfInBounds_toArray, List.set_cons_zero, List.set_cons_succ]
  refine held_take (v := bV s) 6 rfl (by kernel_rfl) (by kernel_rfl) (by kernel_rfl) (fun _ _ _ h => h) (by rfl) (fun W hSw => exec_load_any _ (.tmp 3) rfl w.heap.size 0 (bR s) _ rfl hSw Try.underlying47 rfl blk_info) (by assumption) ?_
  simp only [List.setIfInBounds_toArray, List.set_cons_zero, List.set_cons_succ]
  have hb2 : Below wd.heap.size wd (wd.alloc (.cells (bR s).toArray 47)) := (Below.refl _ _).alloc (Nat.le_refl _) _
  have hu2 := Bx.new wd 47 (bR s)
  have hnn : ∀ k, (Value.slice a nb cap).ownBlock = some k → (Value.slice (some ⟨wd.heap.size, 0, none⟩) 1 1).ownBlock ≠ some k := fun k e1 e2 => by
    cases e2
    exact own_notnew HM1.out.kb e1
  obtain ⟨we, hwe⟩ : ∃ we, wd.alloc (.cells (bR s).toArray 47) = we := ⟨_, rfl⟩
  rw [hwe] at hb2 hu2
  have HM2 := Lib.hid (HM1.out.up hb2)
  have HX2 := Lib.hid (HX1.out.up hb2)
  have HB2 := Lib.hid (below_up HB1.out hb2 HB1.out.size)
  have HU := Lib.hid (show we.ownsRow wd.heap.size 47 4 (.slice (some ⟨wd.heap.size, 0, none⟩) 1 1) 1 (bR s) from
    ⟨rfl, .inr ⟨wd.heap.size, 1, (bR s).toArray, rfl, Nat.le_refl _, hu2, Nat.le_refl _, by decide, rfl, rfl⟩⟩)
  have HNN := Lib.hid hnn
  have y6e : we.cell? ⟨pt, 6, none⟩ = some (.slice a nb cap) := HM2.out.own.1
  have HWE := Lib.hid hwe
  clear hb2 hu2 hnn hwe
  refine held_two 4 7 (.slice a nb cap) (.slice (some ⟨wd.heap.size, 0, none⟩) 1 1) (w' := we) (by decide) (by decide) rfl rfl (by kernel_rfl) (by kernel_rfl) (by kernel_rfl) (by rfl) (by rfl) (by rfl) (by rfl) (by go_simp) (exec_one_blk (.tmp 22) rfl s rfl we HWE.out) (by go_simp) (exec_one_blk (.tmp 22) rfl s rfl we HWE.out) (rangeAll HX1.out) (rangeAll HX2.out) ?_
  simp only [List.setIfInBounds_toArray, List.set_cons_zero, List.set_cons_succ]
  have hsz2 := HB2.out.size
  clear y6 y6e HWE
  refine held_one 8 rfl (by kernel_rfl) (by rfl) (fun K hK => ?_)
  go_simp
  refine (ins_blk (.slice a nb cap) nb (t.l.flatMap bR) na _ 1 (bR s) base wd.heap.size we (HNB.out ▸ HM2.out.kb) HU.out HNN.out hak (by decide) (by omega) (bR_one s) (flat_one bR bR_one _) HM2.out.lo).mono ?_
  rintro e w3 ⟨v3, rfl, r3⟩
  have hL3 : nb + 1 = (t.put s).l.length ∧ (t.l.flatMap bR).take (na * 4) ++ bR s ++ (t.l.flatMap bR).drop (na * 4) = (t.put s).l.flatMap bR := by
    have e1 : (t.put s).l = A ++ s :: Z := HPUT.out
    have h1 := flat_cut bR 4 A Z (fun _ _ => rfl)
    rw [e1, ← HNB.out, ← HNA.out]
    have e2 := HP.out.eq
    constructor
    · rw [e2]; simp only [List.length_append, List.length_cons]; omega
    · rw [e2, h1.1, h1.2, List.flatMap_append, List.flatMap_cons, List.append_assoc]
  have hr3 := r3.own
  rw [hL3.1, hL3.2] at hr3
  obtain ⟨a3, c3, hv3⟩ : ∃ a3 c3, v3 = .slice a3 (t.put s).l.length c3 := by
    rcases hr3.2 with ⟨h1, h2⟩ | ⟨g, cap, cur, h1, _⟩
    · exact ⟨none, 0, by rw [h1, h2]⟩
    · exact ⟨_, cap, h1⟩
  have HX3 := Lib.hid (HX2.out.kp r3.kp (fun e => HNW.out e))
  have HBx3 := Lib.hid (HM2.out.bx.kp r3.kp (fun e => bx_apart HM2.out.kb HM2.out.bx (by decide) e))
  have HKR3 := Lib.hid (own_kp HM2.out.kr r3.kp (fun k e1 e2 => ty_apart HM2.out.kb HM2.out.kr (by decide) k e2 e1))
  have HR3 := Lib.hid r3
  have HO3 := Lib.hid hr3
  refine hK.out _ _ (rangeAll HX3.out) (fun _ => ?_)
  (try simp only [Act.put, List.setIfInBounds_toArray, List.set_cons_zero, List.set_cons_succ])
  clear hK K r3 hr3 hL3
  refine held_take (v := ?v206) 9 rfl (by kernel_rfl) (by kernel_rfl) (by kernel_rfl) (fun _ _ _ h => h) (by rfl) ?y206 (by assumption) ?_
  case y206 => (intro w hSw; unfold HeldB at hSw; go_simp; (try with_reducible rfl); (try omega))
  simp only [List.setIfInBounds_toArray, List.set_cons_zero, List.set_cons_succ]
  refine held_take (v := ?v209) 10 rfl (by kernel_rfl) (by kernel_rfl) (by kernel_rfl) (fun _ _ _ h => h) (by rfl) ?y209 (by assumption) ?_
  case y209 => (intro w hSw; unfold HeldB at hSw; go_simp; (try with_reducible rfl); (try omega))
  simp only [List.setIfInBounds_toArray, List.set_cons_zero, List.set_cons_succ]
  have z6 : w3.cell? ⟨pt, 6, none⟩ = some (.slice a nb cap) := by rw [HBx3.out.cell]; rfl
  have zf6 := HBx3.out.frozen 6
  refine held_none 11 rfl (by kernel_rfl) (by rfl) (fun K hK => ?_)
  refine wp_of_skip (w' := w3.setCell ⟨pt, 6, none⟩ v3) (by subst hv3; go_simp) ?_
  have hKp : KpO (fun k => k = pt) w3 (w3.setCell ⟨pt, 6, none⟩ v3) := KpO.set w3 pt 6 v3 rfl
  have hXp : w.heap.size ≠ pt := fun e => by
    have h1 := HX3.out
    have h2 := HBx3.out
    unfold Bx at h1 h2
    rw [e, h2] at h1
    have h3 := (Obj.cells.inj (Option.some.inj h1)).2.1
    revert h3
    decide
  have hX4 : Bx (w3.setCell ⟨pt, 6, none⟩ v3) w.heap.size 47 (bR s) := HX3.out.kp hKp hXp
  have hBx4 : Bx (w3.setCell ⟨pt, 6, none⟩ v3) pt 92 (spC t v3 vr) := HBx3.out.set 6 v3
  have hkb4 := own_kp HO3.out hKp (fun k e1 e2 => bx_apart HO3.out HBx3.out (by decide) (e2 ▸ e1))
  have hkr4 := own_kp HKR3.out hKp (fun k e1 e2 => bx_apart HKR3.out HBx3.out (by decide) (e2 ▸ e1))
  have hkp4 : KpO (OwnK pt (.slice a nb cap) vr) w (w3.setCell ⟨pt, 6, none⟩ v3) := (KpO.below HB2.out).trans ((HR3.out.kp.more (fun k h1 => .inr (.inl h1))).trans (KpO.set w3 pt 6 v3 (.inl rfl)))
  have hsz4 : w.heap.size ≤ (w3.setCell ⟨pt, 6, none⟩ v3).heap.size := hkp4.1
  have hv3new : ∀ k, v3.ownBlock = some k → (Value.slice a nb cap).ownBlock = some k ∨ w.heap.size ≤ k := fun k hk => by
    rcases HR3.out.new k hk with h1 | h1
    · exact .inl h1
    · exact .inr (Nat.le_trans hsz2 h1)
  have hlo4 : base ≤ (w3.setCell ⟨pt, 6, none⟩ v3).heap.size := by
    have h1 := HM2.out.lo
    have h2 := HR3.out.kp.1
    simp only [World.size_setCell]
    omega
  refine hK.out _ _ (rangeAll hX4) (fun _ => ?_)
  clear hK K hKp hXp z6 zf6 HR3 HO3 HKR3 HBx3 HX3 HM2 HX2 HB2 HM1 HX1 HB1 hv3
  refine wpAnyH_done (by kernel_rfl) ?_ _
  refine NoPanic.normal ?_
  generalize w3.setCell ⟨pt, 6, none⟩ v3 = w4 at *
  have hp4 : pt < w4.heap.size := hBx4.lt
  have hO4 : OwnP w4 pt v3 vr := ⟨by rw [hBx4.cell]; rfl, by rw [hBx4.cell]; rfl⟩
  have hI4 : IsS w4 vr (rowsB t.l) := IsC.of_owned (sR_all _) hkr4
  have hs := HMAY.out

  have hwf4 : WF (t.put s) := HWF.out
  -- the rows near it
  have hrn := rowsB_normal t.l
  obtain ⟨Ar, M, Zr, hn⟩ := near_split (show s.s.f ≤ s.s.l by unfold mayO at hs; omega) hrn
  have hNE := Lib.hid (near_any pt v3 vr (rowsB t.l) Ar M Zr s.s hs hrn hn (Nat.le_trans hrl (by decide)) w4 hI4 hO4 hp4)
  have HE := Lib.hid hn.eq
  have HRW := Lib.hid ((rows_put hn hs : Ar ++ addS M s.s ++ Zr = rowsB (t.put s).l))
  have hml : M.length ≤ 1000 := by
    have := congrArg List.length hn.eq
    rw [List.length_append, List.length_append] at this
    omega
  have hna2 : Ar.length ≤ Ar.length + M.length := by omega
  have hnr2 : Ar.length + M.length ≤ (rowsB t.l).length := by
    have := congrArg List.length hn.eq
    rw [List.length_append, List.length_append] at this
    omega
  have hmne : Ar.length = Ar.length + M.length → 0 < (addS M s.s).length := fun _ => addS_some hs.may
  obtain ⟨nr, hnr⟩ : ∃ nr, (rowsB t.l).length = nr := ⟨_, rfl⟩
  have HNR := Lib.hid hnr
  obtain ⟨ar, capr, hvr, hcapr⟩ := IsS.form hI4
  have hnc : (rowsB t.l).length ≤ capr := by
    subst hvr
    exact (IsC.shape hI4).2.1
  have hRL := Lib.hid ((by have := normS_length_le (M ++ [s.s]); rw [List.length_append, List.length_singleton] at this; exact Nat.le_trans this (by omega)) : (addS M s.s).length ≤ M.length + 1000)
  have HKR := Lib.hid hkr4
  have HX4 := Lib.hid hX4
  have HB4 := Lib.hid hBx4
  have HKB := Lib.hid hkb4
  have HK4 := Lib.hid hkp4
  have HV3 := Lib.hid hv3new
  have HLO := Lib.hid hlo4
  have hb9 : w.heap.size ≤ w4.heap.size := hsz4
  obtain ⟨sv, hsv⟩ : ∃ sv, sv = Value.slice (if capr = Ar.length then ar else ar.map (·.add (Ar.length * 2))) (Ar.length + M.length - Ar.length) (capr - Ar.length) := ⟨_, rfl⟩
  have HSL := Lib.hid (fun W (hW : IsS W (.slice ar (rowsB t.l).length capr) (rowsB t.l)) => (hsv ▸ IsS.mid hW HE.out : IsS W sv M))
  have HSV := Lib.hid hsv
  clear hsv hn hI4 hO4 hkr4 hX4 hBx4 hkb4 hkp4 hv3new hlo4 hrn
  rw [hnr] at hvr
  subst hvr
  obtain ⟨na2, hna⟩ : ∃ na2, Ar.length = na2 := ⟨_, rfl⟩
  obtain ⟨nz, hnz⟩ : ∃ nz, Ar.length + M.length = nz := ⟨_, rfl⟩
  have HNA2 := Lib.hid hna
  have HNZ := Lib.hid hnz
  rw [hnz] at hNE hna2 hnr2 hmne HSV
  rw [hna] at hNE hna2 hmne HSV
  clear hna hnz
  rw [hnr] at HKR HSL hnr2 hnc hrl
  clear hnr
  have hAc : nz ≤ capr := by omega
  have x4 := HX4.out.range 0 (sR s.s) rfl
  go_wp2_with (first
    | (go_at_call 79; refine hNE.out.mono ?_; rintro e w5 ⟨rfl, b5⟩; refine Hid.out ?_)
    | (refine plV rfl (sV s.s) (exec_load_any 27 _ rfl w.heap.size 0 (sR s.s) _ rfl x4 Try.underlying27 rfl sp_info) ?_))
  refine Lib.hid ?_
  have hd5 : Below w4.heap.size w4 w5.drew := below_up b5 (Below.refl _ _).drew b5.size
  have HB5 := Lib.hid hd5
  have hX5 := Lib.hid (HX4.out.up hd5)
  have hBx5 := Lib.hid (HB4.out.up hd5)
  have hKR5 := Lib.hid (own_below HKR.out hd5)
  clear b5 x4 hNE
  have hH : HeldU pt w.heap.size (.slice ar nr capr) s w5.drew := ⟨⟨by rw [hBx5.out.cell]; rfl, hBx5.out.frozen 7⟩, rangeAll hX5.out⟩
  go_wp2
  refine wp_region_noPanic ?_
  refine wp_region_late (HeldU pt w.heap.size (.slice ar nr capr) s) 20 (by kernel_rfl) hH (fun hHeld => ?_)
  clear hH hd5
  generalize w5.drew = wf at *
  refine late_take (v := ?v0) 0 [20, 19, 18, 0] rfl (by kernel_rfl) (by kernel_rfl) (by kernel_rfl) (fun _ _ _ h => h) (by kernel_rfl) (by kernel_rfl) (by decide) (by kernel_rfl) rfl rfl (by rfl) ?y0 (by assumption) ?_
  case y0 => (intro w hSw; unfold HeldU at hSw; go_simp; (try with_reducible rfl); (try omega))
  simp only [List.setIfInBounds_toArray, List.set_cons_zero, List.set_cons_succ]
  refine late_take (v := ?v1) 1 [20, 17, 4, 3, 2, 1] rfl (by kernel_rfl) (by kernel_rfl) (by kernel_rfl) (fun _ _ _ h => h) (by kernel_rfl) (by kernel_rfl) (by decide) (by kernel_rfl) rfl rfl (by rfl) ?y1 (by assumption) ?_
  case y1 => (intro w hSw; unfold HeldU at hSw; go_simp; (try with_reducible rfl); (try omega))
  simp only [List.setIfInBounds_toArray, List.set_cons_zero, List.set_cons_succ]
  refine late_take (v := ?v2) 2 [20, 17, 4, 3, 2] rfl (by kernel_rfl) (by kernel_rfl) (by kernel_rfl) (fun _ _ _ h => h) (by kernel_rfl) (by kernel_rfl) (by decide) (by kernel_rfl) rfl rfl (by rfl) ?y2 (by assumption) ?_
  case y2 => (intro w hSw; unfold HeldU at hSw; go_simp; (try with_reducible rfl); (try omega))
  simp only [List.setIfInBounds_toArray, List.set_cons_zero, List.set_cons_succ]
  refine late_take (v := ?v3) 3 [20, 17, 4, 3] rfl (by kernel_rfl) (by kernel_rfl) (by kernel_rfl) (fun _ _ _ h => h) (by kernel_rfl) (by kernel_rfl) (by decide) (by kernel_rfl) rfl rfl (by rfl) ?y3 (by assumption) ?_
  case y3 => (intro w hSw; unfold HeldU at hSw; go_simp; (try with_reducible rfl); (try omega))
  simp only [List.setIfInBounds_toArray, List.set_cons_zero, List.set_cons_succ]
  refine late_take (v := ?v4) 4 [20, 17, 4] rfl (by kernel_rfl) (by kernel_rfl) (by kernel_rfl) (fun _ _ _ h => h) (by kernel_rfl) (by kernel_rfl) (by decide) (by kernel_rfl) rfl rfl (by rfl) ?y4 (by assumption) ?_
  case y4 => (intro w hSw; unfold HeldU at hSw; go_simp; (try with_reducible rfl); (try omega))
  simp only [List.setIfInBounds_toArray, List.set_cons_zero, List.set_cons_succ]
  refine late_take (v := ?v5) 5 [20, 17, 5] rfl (by kernel_rfl) (by kernel_rfl) (by kernel_rfl) (fun _ _ _ h => h) (by kernel_rfl) (by kernel_rfl) (by decide) (by kernel_rfl) rfl rfl (by rfl) ?y5 (by assumption) ?_
  case y5 => (intro w hSw; unfold HeldU at hSw; go_simp; (try with_reducible rfl); (try omega))
  simp only [List.setIfInBounds_toArray, List.set_cons_zero, List.set_cons_succ]
  refine late_take (v := ?v6) 6 [20, 17, 6] rfl (by kernel_rfl) (by kernel_rfl) (by kernel_rfl) (fun _ _ _ h => h) (by kernel_rfl) (by kernel_rfl) (by decide) (by kernel_rfl) rfl rfl (by rfl) ?y6 (by assumption) ?_
  case y6 => (intro w hSw; unfold HeldU at hSw; go_simp; (try with_reducible rfl); (try omega))
  simp only [List.setIfInBounds_toArray, List.set_cons_zero, List.set_cons_succ]
  refine late_take (v := ?v7) 7 [20, 17, 16, 13, 10, 9, 8, 7] rfl (by kernel_rfl) (by kernel_rfl) (by kernel_rfl) (fun _ _ _ h => h) (by kernel_rfl) (by kernel_rfl) (by decide) (by kernel_rfl) rfl rfl (by rfl) ?y7 (by assumption) ?_
  case y7 => (intro w hSw; unfold HeldU at hSw; go_simp; (try with_reducible rfl); (try omega))
  simp only [List.setIfInBounds_toArray, List.set_cons_zero, List.set_cons_succ]
  refine late_take (v := ?v8) 8 [20, 17, 16, 13, 10, 9, 8] rfl (by kernel_rfl) (by kernel_rfl) (by kernel_rfl) (fun _ _ _ h => h) (by kernel_rfl) (by kernel_rfl) (by decide) (by kernel_rfl) rfl rfl (by rfl) ?y8 (by assumption) ?_
  case y8 => (intro w hSw; unfold HeldU at hSw; go_simp; (try with_reducible rfl); (try omega))
  simp only [List.setIfInBounds_toArray, List.set_cons_zero, List.set_cons_succ]
  refine late_take (v := ?v9) 9 [20, 17, 16, 13, 10, 9] rfl (by kernel_rfl) (by kernel_rfl) (by kernel_rfl) (fun _ _ _ h => h) (by kernel_rfl) (by kernel_rfl) (by decide) (by kernel_rfl) rfl rfl (by rfl) ?y9 (by assumption) ?_
  case y9 => (intro w hSw; unfold HeldU at hSw; go_simp; (try with_reducible rfl); (try omega))
  simp only [List.setIfInBounds_toArray, List.set_cons_zero, List.set_cons_succ]
  refine late_take (v := ?v10) 10 [20, 17, 16, 13, 10] rfl (by kernel_rfl) (by kernel_rfl) (by kernel_rfl) (fun _ _ _ h => h) (by kernel_rfl) (by kernel_rfl) (by decide) (by kernel_rfl) rfl rfl (by rfl) ?y10 (by assumption) ?_
  case y10 => (intro w hSw; unfold HeldU at hSw; go_simp; (try with_reducible rfl); (try omega))
  simp only [List.setIfInBounds_toArray, List.set_cons_zero, List.set_cons_succ]
  refine late_take (v := ?v11) 11 [20, 17, 16, 13, 11] rfl (by kernel_rfl) (by kernel_rfl) (by kernel_rfl) (fun _ _ _ h => h) (by kernel_rfl) (by kernel_rfl) (by decide) (by kernel_rfl) rfl rfl (by rfl) ?y11 (by assumption) ?_
  case y11 => (intro w hSw; unfold HeldU at hSw; go_simp; (try with_reducible rfl); (try omega))
  simp only [List.setIfInBounds_toArray, List.set_cons_zero, List.set_cons_succ]
  refine late_take (v := ?v12) 12 [20, 17, 16, 13, 12] rfl (by kernel_rfl) (by kernel_rfl) (by kernel_rfl) (fun _ _ _ h => h) (by kernel_rfl) (by kernel_rfl) (by decide) (by kernel_rfl) rfl rfl (by rfl) ?y12 (by assumption) ?_
  case y12 => (intro w hSw; unfold HeldU at hSw; go_simp; (try with_reducible rfl); (try omega))
  simp only [List.setIfInBounds_toArray, List.set_cons_zero, List.set_cons_succ]
  refine late_take (v := sv) 13 [20, 17, 16, 13] rfl (by kernel_rfl) (by kernel_rfl) (by kernel_rfl) (fun _ _ _ h => h) (by kernel_rfl) (by kernel_rfl) (by decide) (by kernel_rfl) rfl rfl (by rfl) (fun W hSw => by rw [HSV.out]; exact exec_sl_lh _ (.tmp 44) (.tmp 45) (.tmp 46) rfl Try.underlying51 2 sp_size ar nr capr na2 nz rfl rfl rfl hna2 hAc) (by assumption) ?_
  simp only [List.setIfInBounds_toArray, List.set_cons_zero, List.set_cons_succ]
  refine late_take (v := ?v14) 14 [20, 17, 16, 15, 14] rfl (by kernel_rfl) (by kernel_rfl) (by kernel_rfl) (fun _ _ _ h => h) (by kernel_rfl) (by kernel_rfl) (by decide) (by kernel_rfl) rfl rfl (by rfl) ?y14 (by assumption) ?_
  case y14 => (intro w hSw; unfold HeldU at hSw; go_simp; (try with_reducible rfl); (try omega))
  simp only [List.setIfInBounds_toArray, List.set_cons_zero, List.set_cons_succ]
  refine late_take (v := sV s.s) 15 [20, 17, 16, 15] rfl (by kernel_rfl) (by kernel_rfl) (by kernel_rfl) (fun _ _ _ h => h) (by kernel_rfl) (by kernel_rfl) (by decide) (by kernel_rfl) rfl rfl (by rfl) (fun W hSw => exec_load_any _ (.tmp 48) rfl w.heap.size 0 (sR s.s) _ rfl (HeldB.sp hSw.2) Try.underlying27 rfl sp_info) (by assumption) ?_
  simp only [List.setIfInBounds_toArray, List.set_cons_zero, List.set_cons_succ]
  have h8 : IsS wf (.slice ar (rowsB t.l).length capr) (rowsB t.l) := IsC.of_owned (base := base) (e := 27) (sR_all _) (by rw [HNR.out]; exact hKR5.out)
  rw [HNR.out] at h8
  have H8 := Lib.hid (HSL.out _ h8)
  clear h8
  refine late_one 16 rfl (by kernel_rfl) (by rfl) (fun K hK => ?_)
  go_simp
  refine (sadd_own sv M s.s wf H8.out (by omega)).mono ?_
  rintro e w6 ⟨v6, rfl, o6, b6⟩
  have HX6 := Lib.hid (hX5.out.up b6)
  have HBx6 := Lib.hid (hBx5.out.up b6)
  have HKR6 := Lib.hid (own_below hKR5.out b6)
  have HO6 := Lib.hid o6
  have HB6 := Lib.hid (below_up HB5.out b6 HB5.out.size)
  have hne6 : ∀ k, (Value.slice ar nr capr).ownBlock = some k → v6.ownBlock ≠ some k := fun k e1 e2 => by
    have h1 := owned_low o6 k e2
    obtain ⟨cur, hc⟩ := own_type hKR5.out k e1
    have := (Array.getElem?_eq_some_iff.1 hc).1
    omega
  have HNE6 := Lib.hid hne6
  have hS6 : HeldU pt w.heap.size (.slice ar nr capr) s w6 := ⟨⟨by rw [HBx6.out.cell]; rfl, HBx6.out.frozen 7⟩, rangeAll HX6.out⟩
  refine hK.out _ _ (.inr hS6) (fun _ => ?_)
  clear hK K b6 o6 hne6
  (try simp only [Act.put, List.setIfInBounds_toArray, List.set_cons_zero, List.set_cons_succ])
  refine late_one 17 rfl (by kernel_rfl) (by rfl) (fun K hK => ?_)
  go_simp
  refine (repl_any (.slice ar nr capr) nr ((rowsB t.l).flatMap sR) na2 nz v6 (addS M s.s).length ((addS M s.s).flatMap sR) base _ w6 HKR6.out HO6.out HNE6.out hna2 hnr2 hmne (by have := hRL.out; omega) (flat_one sR sR_one _) (flat_one sR sR_one _) (by have := HLO.out; have := HB6.out.size; omega)).mono ?_
  rintro e w7 ⟨v7, rfl, r7⟩
  have hXne : (Value.slice ar nr capr).ownBlock ≠ some w.heap.size := bx_apart HKR6.out HX6.out (by decide)
  have hPne : (Value.slice ar nr capr).ownBlock ≠ some pt := bx_apart HKR6.out HBx6.out (by decide)
  have HX7 := Lib.hid (HX6.out.kp r7.kp hXne)
  have HBx7 := Lib.hid (HBx6.out.kp r7.kp hPne)
  have HKB7 := Lib.hid (own_kp (own_below HKB.out HB6.out) r7.kp (fun k e1 e2 => ty_apart HKR6.out (own_below HKB.out HB6.out) (by decide) k e2 e1))
  have hrows : na2 + (addS M s.s).length + (nr - nz) = (rowsB (t.put s).l).length ∧ ((rowsB t.l).flatMap sR).take (na2 * 2) ++ (addS M s.s).flatMap sR ++ ((rowsB t.l).flatMap sR).drop (nz * 2) = (rowsB (t.put s).l).flatMap sR := by
    have hq : Ar ++ addS M s.s ++ Zr = rowsB (t.put s).l := HRW.out
    have hE := HE.out
    rw [← HNA2.out, ← HNZ.out, ← HNR.out]
    constructor
    · rw [← hq, hE]
      simp only [List.length_append]
      omega
    · rw [← hq, hE]
      have h1 : ((Ar ++ M ++ Zr).flatMap sR).take (Ar.length * 2) = Ar.flatMap sR := by
        rw [List.append_assoc]
        exact (flat_cut sR 2 Ar (M ++ Zr) (fun _ _ => rfl)).1
      have h2 : ((Ar ++ M ++ Zr).flatMap sR).drop ((Ar.length + M.length) * 2) = Zr.flatMap sR := by
        have h3 := (flat_cut sR 2 (Ar ++ M) Zr (fun _ _ => rfl)).2
        rwa [List.length_append] at h3
      rw [h1, h2, List.flatMap_append, List.flatMap_append]
  have hto7 := r7.own
  rw [hrows.1, hrows.2] at hto7
  have HTO7 := Lib.hid hto7
  have HR7 := Lib.hid r7
  obtain ⟨a7, c7, hv7⟩ : ∃ a7 c7, v7 = .slice a7 (rowsB (t.put s).l).length c7 := by
    rcases hto7.2 with ⟨h1, h2⟩ | ⟨g, cap, cur, h1, _⟩
    · exact ⟨none, 0, by rw [h1, h2]⟩
    · exact ⟨_, cap, h1⟩
  have y7 : w7.cell? ⟨pt, 7, none⟩ = some (.slice ar nr capr) := by rw [HBx7.out.cell]; rfl
  have z7 := HBx7.out.frozen 7
  have hS7 : HeldU pt w.heap.size (.slice ar nr capr) s w7 := ⟨⟨y7, z7⟩, rangeAll HX7.out⟩
  refine hK.out _ _ (.inr hS7) (fun _ => ?_)
  clear hK K r7 hXne hPne hrows hto7
  (try simp only [Act.put, List.setIfInBounds_toArray, List.set_cons_zero, List.set_cons_succ])
  refine late_take (v := ?v18) 18 [20, 19, 18] rfl (by kernel_rfl) (by kernel_rfl) (by kernel_rfl) (fun _ _ _ h => h) (by kernel_rfl) (by kernel_rfl) (by decide) (by kernel_rfl) rfl rfl (by rfl) ?y18 (by assumption) ?_
  case y18 => (intro w hSw; unfold HeldU at hSw; go_simp; (try with_reducible rfl); (try omega))
  simp only [List.setIfInBounds_toArray, List.set_cons_zero, List.set_cons_succ]
  refine late_take (v := ?v19) 19 [20, 19] rfl (by kernel_rfl) (by kernel_rfl) (by kernel_rfl) (fun _ _ _ h => h) (by kernel_rfl) (by kernel_rfl) (by decide) (by kernel_rfl) rfl rfl (by rfl) ?y19 (by assumption) ?_
  case y19 => (intro w hSw; unfold HeldU at hSw; go_simp; (try with_reducible rfl); (try omega))
  simp only [List.setIfInBounds_toArray, List.set_cons_zero, List.set_cons_succ]
  refine late_one 20 rfl (by kernel_rfl) (by rfl) (fun K hK => ?_)
  refine wp_of_skip (w' := w7.setCell ⟨pt, 7, none⟩ v7) (by subst hv7; go_simp) ?_
  have HBx8 := Lib.hid (HBx7.out.set 7 v7)
  have HKB8 := Lib.hid (own_kp HKB7.out (KpO.set (O := fun k => k = pt) w7 pt 7 v7 rfl) (fun k e1 e2 => bx_apart HKB7.out HBx7.out (by decide) (e2 ▸ e1)))
  have HKR8 := Lib.hid (own_kp HTO7.out (KpO.set (O := fun k => k = pt) w7 pt 7 v7 rfl) (fun k e1 e2 => bx_apart HTO7.out HBx7.out (by decide) (e2 ▸ e1)))
  have hfin : SpTo w (w7.setCell ⟨pt, 7, none⟩ v7) base pt (.slice a nb cap) (.slice ar nr capr) (t.put s) := by
    refine ⟨⟨v3, v7, ⟨HBx8.out, HKB8.out, HKR8.out, hwf4, HLEN.out, ?_⟩, fun k hk => ?_⟩, ?_⟩
    · have h1 := HLO.out
      have h2 := HB6.out.size
      have h3 := HR7.out.kp.1
      simp only [World.size_setCell]
      omega
    · rcases hk with rfl | hk | hk
      · exact .inl (.inl rfl)
      · rcases HV3.out k hk with h1 | h1
        · exact .inl (.inr (.inl h1))
        · exact .inr h1
      · rcases HR7.out.new k hk with h1 | h1
        · exact .inl (.inr (.inr h1))
        · exact .inr (by have h2 := HB6.out.size; omega)
    · exact (HK4.out.trans (KpO.below HB6.out)).trans ((HR7.out.kp.more (fun k h1 => .inr (.inr h1))).trans (KpO.set w7 pt 7 v7 (.inl rfl)))
  have HFIN := Lib.hid hfin
  refine hK.out _ _ (.inl (by kernel_rfl)) (fun _ => ?_)
  clear hK K hfin
  refine late_done (by kernel_rfl) ?_ _
  refine NoPanic.normal ?_
  generalize w7.setCell ⟨pt, 7, none⟩ v7 = w8 at HFIN ⊢
  go_wp2
  go_end0
  exact ⟨rfl, HFIN.out⟩
set_option maxRecDepth 100000 in
set_option maxHeartbeats 4000000 in
theorem drop_any {base pt : Nat} {vb vr : Value} {t : SpS} (s : Blk) (A Z : List Blk) (hP : Place s.s.f t.l A (s :: Z)) (hwf : WF ⟨t.a1, t.a2, A ++ Z⟩) (w : World) (h : SpM w base pt vb vr t) (hl : t.l.length ≤ 900) :
    Calls Try.prog 60 #[.pointer (some ⟨pt, 6, none⟩), bV s] w fun e w' => e = .returned (.tuple #[]) ∧ SpTo w w' base pt vb vr ⟨t.a1, t.a2, A ++ Z⟩ := by
  have hs : mayO s.s := h.may s (by rw [hP.eq]; simp)
  have HAP := Lib.hid (out_apart (hP.eq ▸ h.wf.srt : SrtB (A ++ s :: Z)))
  have hrl := h.rl
  have HLEN := Lib.hid (show (A ++ Z).length ≤ 1000 by
    have := congrArg List.length hP.eq
    rw [List.length_append, List.length_cons] at this
    rw [List.length_append]
    omega)
  have hb0 : Below w.heap.size w (w.alloc (.cells (bR s).toArray 47)) := (Below.refl _ _).alloc (Nat.le_refl _) _
  have hx0 := Bx.new w 47 (bR s)
  have h1 := h.up hb0
  have HL := Lib.hid (place_any pt vb vr t.l A (s :: Z) s.s.f hP _ h1.isK (by omega) h1.own)
  have HM := Lib.hid h
  have HB0 := Lib.hid hb0
  have HX0 := Lib.hid hx0
  have e0 : (bR s)[0]? = some (.int .i64 s.s.f) := rfl
  have e1 : (bR s)[1]? = some (.int .i64 s.s.l) := rfl
  rw [show bV s = .agg (bR s).toArray from rfl]
  have mixed : Try.prog.follows .mixedOrders = true := by kernel_rfl
  have HNW := Lib.hid (own_notnew h.kb)
  obtain ⟨a, cap, hvb, hcap⟩ := h.isK.form
  obtain ⟨nb, hnb⟩ : ∃ nb, t.l.length = nb := ⟨_, rfl⟩
  have HNB := Lib.hid hnb
  have HP := Lib.hid hP
  rw [hnb] at hvb
  have hak : A.length < nb := by rw [← hnb, hP.eq, List.length_append, List.length_cons]; omega
  rw [hnb] at hl
  subst hvb
  clear h hb0 hx0 h1 hP hnb
  generalize (atB s.s.f (s :: Z)).isSome = hit at HL
  obtain ⟨na, hna⟩ : ∃ na, A.length = na := ⟨_, rfl⟩
  have HNA := Lib.hid hna
  rw [hna] at HL hak
  clear hna
  have HMAY := Lib.hid hs
  have HWF := Lib.hid hwf
  clear hwf hs
  go_enter Try.func60, Try.ntmps60
  go_wp2_with (go_at_call 75; refine HL.out.mono ?_; rintro e w1 ⟨rfl, b1⟩; refine Hid.out ?_)
  refine Lib.hid ?_
  have hbb := below_up HB0.out b1 HB0.out.size
  have HX2 := Lib.hid (HX0.out.up b1)
  have HM2 := Lib.hid (HM.out.up hbb)
  have HB2 := Lib.hid hbb
  have hsz2 := hbb.size
  have y6 : w1.cell? ⟨pt, 6, none⟩ = some (.slice a nb cap) := HM2.out.own.1
  have kw : IntKind.i64.wrap ((na : Int) + 1) = ((na + 1 : Nat) : Int) := by simp [IntKind.wrap, IntKind.bits, IntKind.signed]; omega
  clear b1 hbb HX0 HB0 HM HL e0 e1
  go_wp2_with (go_at_call 85; refine (del_blk (.slice a nb cap) nb (t.l.flatMap bR) na base w1 (HNB.out ▸ HM2.out.kb) hak (by omega) (flat_one bR bR_one _)).mono ?_; rintro e w3 ⟨v3, rfl, r3⟩; refine Hid.out ?_)
  refine Lib.hid ?_
  have hL3 : nb - 1 = (A ++ Z).length ∧ (t.l.flatMap bR).take (na * 4) ++ (t.l.flatMap bR).drop ((na + 1) * 4) = (A ++ Z).flatMap bR := by
    have h1 := flat_cut bR 4 A (s :: Z) (fun _ _ => rfl)
    have h2 := flat_cut bR 4 (A ++ [s]) Z (fun _ _ => rfl)
    rw [← HNB.out, ← HNA.out]
    have e2 := HP.out.eq
    constructor
    · rw [e2]; simp only [List.length_append, List.length_cons]; omega
    · rw [List.length_append, List.length_singleton, List.append_assoc, List.singleton_append] at h2
      rw [e2, h1.1, h2.2, List.flatMap_append]
  have hr3 := r3.own
  rw [hL3.1, hL3.2] at hr3
  obtain ⟨a3, c3, hv3⟩ : ∃ a3 c3, v3 = .slice a3 (A ++ Z).length c3 := by
    rcases hr3.2 with ⟨h1, h2⟩ | ⟨g, cap, cur, h1, _⟩
    · exact ⟨none, 0, by rw [h1, h2]⟩
    · exact ⟨_, cap, h1⟩
  have HX3 := Lib.hid (HX2.out.kp r3.kp (fun e => HNW.out e))
  have HBx3 := Lib.hid (HM2.out.bx.kp r3.kp (fun e => bx_apart HM2.out.kb HM2.out.bx (by decide) e))
  have HKR3 := Lib.hid (own_kp HM2.out.kr r3.kp (fun k e1 e2 => ty_apart HM2.out.kb HM2.out.kr (by decide) k e2 e1))
  have HR3 := Lib.hid r3
  have HO3 := Lib.hid hr3
  clear r3 hr3 hL3 y6 kw
  have z6 : w3.cell? ⟨pt, 6, none⟩ = some (.slice a nb cap) := by rw [HBx3.out.cell]; rfl
  have zf6 := HBx3.out.frozen 6
  have hKp : KpO (fun k => k = pt) w3 (w3.setCell ⟨pt, 6, none⟩ v3) := KpO.set w3 pt 6 v3 rfl
  have hXp : w.heap.size ≠ pt := fun e => by
    have h1 := HX3.out
    have h2 := HBx3.out
    unfold Bx at h1 h2
    rw [e, h2] at h1
    have h3 := (Obj.cells.inj (Option.some.inj h1)).2.1
    revert h3
    decide
  have hX4 : Bx (w3.setCell ⟨pt, 6, none⟩ v3) w.heap.size 47 (bR s) := HX3.out.kp hKp hXp
  have hBx4 : Bx (w3.setCell ⟨pt, 6, none⟩ v3) pt 92 (spC t v3 vr) := HBx3.out.set 6 v3
  have hkb4 := own_kp HO3.out hKp (fun k e1 e2 => bx_apart HO3.out HBx3.out (by decide) (e2 ▸ e1))
  have hkr4 := own_kp HKR3.out hKp (fun k e1 e2 => bx_apart HKR3.out HBx3.out (by decide) (e2 ▸ e1))
  have hkp4 : KpO (OwnK pt (.slice a nb cap) vr) w (w3.setCell ⟨pt, 6, none⟩ v3) := (KpO.below HB2.out).trans ((HR3.out.kp.more (fun k h1 => .inr (.inl h1))).trans (KpO.set w3 pt 6 v3 (.inl rfl)))
  have hsz4 : w.heap.size ≤ (w3.setCell ⟨pt, 6, none⟩ v3).heap.size := hkp4.1
  have hv3new : ∀ k, v3.ownBlock = some k → (Value.slice a nb cap).ownBlock = some k ∨ w.heap.size ≤ k := fun k hk => by
    rcases HR3.out.new k hk with h1 | h1
    · exact .inl h1
    · exact .inr (Nat.le_trans hsz2 h1)
  have hlo4 : base ≤ (w3.setCell ⟨pt, 6, none⟩ v3).heap.size := by
    have h1 := HM2.out.lo
    have h2 := HR3.out.kp.1
    simp only [World.size_setCell]
    omega
  clear hKp hXp HR3 HO3 HKR3 HBx3 HX3 HM2 HX2 HB2
  obtain ⟨w4, hw4⟩ : ∃ w4, w3.setCell ⟨pt, 6, none⟩ v3 = w4 := ⟨_, rfl⟩
  have HW4 := Lib.hid hw4
  have HV := Lib.hid hv3
  rw [hw4] at hX4 hBx4 hkb4 hkr4 hkp4 hsz4 hlo4
  clear hw4 hv3
  have hp4 : pt < w4.heap.size := hBx4.lt
  have hO4 : OwnP w4 pt v3 vr := ⟨by rw [hBx4.cell]; rfl, by rw [hBx4.cell]; rfl⟩
  have hI4 : IsS w4 vr (rowsB t.l) := IsC.of_owned (sR_all _) hkr4
  have hs := HMAY.out

  have hwf4 : WF ⟨t.a1, t.a2, A ++ Z⟩ := HWF.out
  -- the rows near it
  have hrn := rowsB_normal t.l
  obtain ⟨Ar, M, Zr, hn⟩ := near_split (show s.s.f ≤ s.s.l by unfold mayO at hs; omega) hrn
  have hNE := Lib.hid (near_any pt v3 vr (rowsB t.l) Ar M Zr s.s hs hrn hn (Nat.le_trans hrl (by decide)) w4 hI4 hO4 hp4)
  have HE := Lib.hid hn.eq
  have HRW := Lib.hid ((by have e2 := HP.out.eq; have hn2 := hn; rw [e2] at hn2; exact rows_drop hn2 HAP.out : Ar ++ cutS M s.s ++ Zr = rowsB (A ++ Z)))
  have hml : M.length ≤ 1000 := by
    have := congrArg List.length hn.eq
    rw [List.length_append, List.length_append] at this
    omega
  have hna2 : Ar.length ≤ Ar.length + M.length := by omega
  have hnr2 : Ar.length + M.length ≤ (rowsB t.l).length := by
    have := congrArg List.length hn.eq
    rw [List.length_append, List.length_append] at this
    omega
  have hmne : Ar.length = Ar.length + M.length → 0 < (cutS M s.s).length := fun h0 => by
    exfalso
    have hM0 : M = [] := List.eq_nil_of_length_eq_zero (by omega)
    have h1 := hn.off (n := s.s.f) (Int.le_refl _) (by unfold mayO at hs; omega)
    rw [hM0, rowsB_in] at h1
    have h2 : hasB t.l s.s.f = true := (hasB_iff _ _).2 ⟨s, by rw [HP.out.eq]; simp, hs.may, Int.le_refl _, by unfold mayO at hs; omega⟩
    rw [h2] at h1
    cases h1
  obtain ⟨nr, hnr⟩ : ∃ nr, (rowsB t.l).length = nr := ⟨_, rfl⟩
  have HNR := Lib.hid hnr
  obtain ⟨ar, capr, hvr, hcapr⟩ := IsS.form hI4
  have hnc : (rowsB t.l).length ≤ capr := by
    subst hvr
    exact (IsC.shape hI4).2.1
  have hRL := Lib.hid ((by have := cutS_length M s.s; omega) : (cutS M s.s).length ≤ M.length + 1000)
  have HKR := Lib.hid hkr4
  have HX4 := Lib.hid hX4
  have HB4 := Lib.hid hBx4
  have HKB := Lib.hid hkb4
  have HK4 := Lib.hid hkp4
  have HV3 := Lib.hid hv3new
  have HLO := Lib.hid hlo4
  have hb9 : w.heap.size ≤ w4.heap.size := hsz4
  obtain ⟨sv, hsv⟩ : ∃ sv, sv = Value.slice (if capr = Ar.length then ar else ar.map (·.add (Ar.length * 2))) (Ar.length + M.length - Ar.length) (capr - Ar.length) := ⟨_, rfl⟩
  have HSL := Lib.hid (fun W (hW : IsS W (.slice ar (rowsB t.l).length capr) (rowsB t.l)) => (hsv ▸ IsS.mid hW HE.out : IsS W sv M))
  have HSV := Lib.hid hsv
  clear hsv hn hI4 hO4 hkr4 hX4 hBx4 hkb4 hkp4 hv3new hlo4 hrn
  rw [hnr] at hvr
  subst hvr
  obtain ⟨na2, hna⟩ : ∃ na2, Ar.length = na2 := ⟨_, rfl⟩
  obtain ⟨nz, hnz⟩ : ∃ nz, Ar.length + M.length = nz := ⟨_, rfl⟩
  have HNA2 := Lib.hid hna
  have HNZ := Lib.hid hnz
  rw [hnz] at hNE hna2 hnr2 hmne HSV
  rw [hna] at hNE hna2 hmne HSV
  clear hna hnz
  rw [hnr] at HKR HSL hnr2 hnc hrl
  clear hnr
  have hAc : nz ≤ capr := by omega
  have x4 := HX4.out.range 0 (sR s.s) rfl
  go_wp2_with (first
    | (go_at_call 79; refine hNE.out.mono ?_; rintro e w5 ⟨rfl, b5⟩; refine Hid.out ?_)
    | (refine plS rfl (w' := w4) (exec_store_hdrK (.tmp 26) (.tmp 24) rfl ⟨pt, 6, none⟩ a3 _ c3 _ rfl HV.out z6 zf6 w4 (by rw [← HW4.out, HV.out])) ?_)
    | (refine plV rfl (sV s.s) (exec_load_any 27 _ rfl w.heap.size 0 (sR s.s) _ rfl x4 Try.underlying27 rfl sp_info) ?_))
  refine Lib.hid ?_
  have hd5 : Below w4.heap.size w4 w5.drew := below_up b5 (Below.refl _ _).drew b5.size
  have HB5 := Lib.hid hd5
  have hX5 := Lib.hid (HX4.out.up hd5)
  have hBx5 := Lib.hid (HB4.out.up hd5)
  have hKR5 := Lib.hid (own_below HKR.out hd5)
  clear b5 x4 hNE
  have hH : HeldU pt w.heap.size (.slice ar nr capr) s w5.drew := ⟨⟨by rw [hBx5.out.cell]; rfl, hBx5.out.frozen 7⟩, rangeAll hX5.out⟩
  go_wp2
  refine wp_region_noPanic ?_
  refine wp_region_late (HeldU pt w.heap.size (.slice ar nr capr) s) 20 (by kernel_rfl) hH (fun hHeld => ?_)
  clear hH hd5
  generalize w5.drew = wf at *
  refine late_take (v := ?v0) 0 [20, 19, 18, 0] rfl (by kernel_rfl) (by kernel_rfl) (by kernel_rfl) (fun _ _ _ h => h) (by kernel_rfl) (by kernel_rfl) (by decide) (by kernel_rfl) rfl rfl (by rfl) ?y0 (by assumption) ?_
  case y0 => (intro w hSw; unfold HeldU at hSw; go_simp; (try with_reducible rfl); (try omega))
  simp only [List.setIfInBounds_toArray, List.set_cons_zero, List.set_cons_succ]
  refine late_take (v := ?v1) 1 [20, 17, 4, 3, 2, 1] rfl (by kernel_rfl) (by kernel_rfl) (by kernel_rfl) (fun _ _ _ h => h) (by kernel_rfl) (by kernel_rfl) (by decide) (by kernel_rfl) rfl rfl (by rfl) ?y1 (by assumption) ?_
  case y1 => (intro w hSw; unfold HeldU at hSw; go_simp; (try with_reducible rfl); (try omega))
  simp only [List.setIfInBounds_toArray, List.set_cons_zero, List.set_cons_succ]
  refine late_take (v := ?v2) 2 [20, 17, 4, 3, 2] rfl (by kernel_rfl) (by kernel_rfl) (by kernel_rfl) (fun _ _ _ h => h) (by kernel_rfl) (by kernel_rfl) (by decide) (by kernel_rfl) rfl rfl (by rfl) ?y2 (by assumption) ?_
  case y2 => (intro w hSw; unfold HeldU at hSw; go_simp; (try with_reducible rfl); (try omega))
  simp only [List.setIfInBounds_toArray, List.set_cons_zero, List.set_cons_succ]
  refine late_take (v := ?v3) 3 [20, 17, 4, 3] rfl (by kernel_rfl) (by kernel_rfl) (by kernel_rfl) (fun _ _ _ h => h) (by kernel_rfl) (by kernel_rfl) (by decide) (by kernel_rfl) rfl rfl (by rfl) ?y3 (by assumption) ?_
  case y3 => (intro w hSw; unfold HeldU at hSw; go_simp; (try with_reducible rfl); (try omega))
  simp only [List.setIfInBounds_toArray, List.set_cons_zero, List.set_cons_succ]
  refine late_take (v := ?v4) 4 [20, 17, 4] rfl (by kernel_rfl) (by kernel_rfl) (by kernel_rfl) (fun _ _ _ h => h) (by kernel_rfl) (by kernel_rfl) (by decide) (by kernel_rfl) rfl rfl (by rfl) ?y4 (by assumption) ?_
  case y4 => (intro w hSw; unfold HeldU at hSw; go_simp; (try with_reducible rfl); (try omega))
  simp only [List.setIfInBounds_toArray, List.set_cons_zero, List.set_cons_succ]
  refine late_take (v := ?v5) 5 [20, 17, 5] rfl (by kernel_rfl) (by kernel_rfl) (by kernel_rfl) (fun _ _ _ h => h) (by kernel_rfl) (by kernel_rfl) (by decide) (by kernel_rfl) rfl rfl (by rfl) ?y5 (by assumption) ?_
  case y5 => (intro w hSw; unfold HeldU at hSw; go_simp; (try with_reducible rfl); (try omega))
  simp only [List.setIfInBounds_toArray, List.set_cons_zero, List.set_cons_succ]
  refine late_take (v := ?v6) 6 [20, 17, 6] rfl (by kernel_rfl) (by kernel_rfl) (by kernel_rfl) (fun _ _ _ h => h) (by kernel_rfl) (by kernel_rfl) (by decide) (by kernel_rfl) rfl rfl (by rfl) ?y6 (by assumption) ?_
  case y6 => (intro w hSw; unfold HeldU at hSw; go_simp; (try with_reducible rfl); (try omega))
  simp only [List.setIfInBounds_toArray, List.set_cons_zero, List.set_cons_succ]
  refine late_take (v := ?v7) 7 [20, 17, 16, 13, 10, 9, 8, 7] rfl (by kernel_rfl) (by kernel_rfl) (by kernel_rfl) (fun _ _ _ h => h) (by kernel_rfl) (by kernel_rfl) (by decide) (by kernel_rfl) rfl rfl (by rfl) ?y7 (by assumption) ?_
  case y7 => (intro w hSw; unfold HeldU at hSw; go_simp; (try with_reducible rfl); (try omega))
  simp only [List.setIfInBounds_toArray, List.set_cons_zero, List.set_cons_succ]
  refine late_take (v := ?v8) 8 [20, 17, 16, 13, 10, 9, 8] rfl (by kernel_rfl) (by kernel_rfl) (by kernel_rfl) (fun _ _ _ h => h) (by kernel_rfl) (by kernel_rfl) (by decide) (by kernel_rfl) rfl rfl (by rfl) ?y8 (by assumption) ?_
  case y8 => (intro w hSw; unfold HeldU at hSw; go_simp; (try with_reducible rfl); (try omega))
  simp only [List.setIfInBounds_toArray, List.set_cons_zero, List.set_cons_succ]
  refine late_take (v := ?v9) 9 [20, 17, 16, 13, 10, 9] rfl (by kernel_rfl) (by kernel_rfl) (by kernel_rfl) (fun _ _ _ h => h) (by kernel_rfl) (by kernel_rfl) (by decide) (by kernel_rfl) rfl rfl (by rfl) ?y9 (by assumption) ?_
  case y9 => (intro w hSw; unfold HeldU at hSw; go_simp; (try with_reducible rfl); (try omega))
  simp only [List.setIfInBounds_toArray, List.set_cons_zero, List.set_cons_succ]
  refine late_take (v := ?v10) 10 [20, 17, 16, 13, 10] rfl (by kernel_rfl) (by kernel_rfl) (by kernel_rfl) (fun _ _ _ h => h) (by kernel_rfl) (by kernel_rfl) (by decide) (by kernel_rfl) rfl rfl (by rfl) ?y10 (by assumption) ?_
  case y10 => (intro w hSw; unfold HeldU at hSw; go_simp; (try with_reducible rfl); (try omega))
  simp only [List.setIfInBounds_toArray, List.set_cons_zero, List.set_cons_succ]
  refine late_take (v := ?v11) 11 [20, 17, 16, 13, 11] rfl (by kernel_rfl) (by kernel_rfl) (by kernel_rfl) (fun _ _ _ h => h) (by kernel_rfl) (by kernel_rfl) (by decide) (by kernel_rfl) rfl rfl (by rfl) ?y11 (by assumption) ?_
  case y11 => (intro w hSw; unfold HeldU at hSw; go_simp; (try with_reducible rfl); (try omega))
  simp only [List.setIfInBounds_toArray, List.set_cons_zero, List.set_cons_succ]
  refine late_take (v := ?v12) 12 [20, 17, 16, 13, 12] rfl (by kernel_rfl) (by kernel_rfl) (by kernel_rfl) (fun _ _ _ h => h) (by kernel_rfl) (by kernel_rfl) (by decide) (by kernel_rfl) rfl rfl (by rfl) ?y12 (by assumption) ?_
  case y12 => (intro w hSw; unfold HeldU at hSw; go_simp; (try with_reducible rfl); (try omega))
  simp only [List.setIfInBounds_toArray, List.set_cons_zero, List.set_cons_succ]
  refine late_take (v := sv) 13 [20, 17, 16, 13] rfl (by kernel_rfl) (by kernel_rfl) (by kernel_rfl) (fun _ _ _ h => h) (by kernel_rfl) (by kernel_rfl) (by decide) (by kernel_rfl) rfl rfl (by rfl) (fun W hSw => by rw [HSV.out]; exact exec_sl_lh _ (.tmp 44) (.tmp 45) (.tmp 46) rfl Try.underlying51 2 sp_size ar nr capr na2 nz rfl rfl rfl hna2 hAc) (by assumption) ?_
  simp only [List.setIfInBounds_toArray, List.set_cons_zero, List.set_cons_succ]
  refine late_take (v := ?v14) 14 [20, 17, 16, 15, 14] rfl (by kernel_rfl) (by kernel_rfl) (by kernel_rfl) (fun _ _ _ h => h) (by kernel_rfl) (by kernel_rfl) (by decide) (by kernel_rfl) rfl rfl (by rfl) ?y14 (by assumption) ?_
  case y14 => (intro w hSw; unfold HeldU at hSw; go_simp; (try with_reducible rfl); (try omega))
  simp only [List.setIfInBounds_toArray, List.set_cons_zero, List.set_cons_succ]
  refine late_take (v := sV s.s) 15 [20, 17, 16, 15] rfl (by kernel_rfl) (by kernel_rfl) (by kernel_rfl) (fun _ _ _ h => h) (by kernel_rfl) (by kernel_rfl) (by decide) (by kernel_rfl) rfl rfl (by rfl) (fun W hSw => exec_load_any _ (.tmp 48) rfl w.heap.size 0 (sR s.s) _ rfl (HeldB.sp hSw.2) Try.underlying27 rfl sp_info) (by assumption) ?_
  simp only [List.setIfInBounds_toArray, List.set_cons_zero, List.set_cons_succ]
  have h8 : IsS wf (.slice ar (rowsB t.l).length capr) (rowsB t.l) := IsC.of_owned (base := base) (e := 27) (sR_all _) (by rw [HNR.out]; exact hKR5.out)
  rw [HNR.out] at h8
  have H8 := Lib.hid (HSL.out _ h8)
  clear h8
  refine late_one 16 rfl (by kernel_rfl) (by rfl) (fun K hK => ?_)
  go_simp
  refine (scut_own sv M s.s wf H8.out (by omega)).mono ?_
  rintro e w6 ⟨v6, rfl, o6, b6⟩
  have HX6 := Lib.hid (hX5.out.up b6)
  have HBx6 := Lib.hid (hBx5.out.up b6)
  have HKR6 := Lib.hid (own_below hKR5.out b6)
  have HO6 := Lib.hid o6
  have HB6 := Lib.hid (below_up HB5.out b6 HB5.out.size)
  have hne6 : ∀ k, (Value.slice ar nr capr).ownBlock = some k → v6.ownBlock ≠ some k := fun k e1 e2 => by
    have h1 := owned_low o6 k e2
    obtain ⟨cur, hc⟩ := own_type hKR5.out k e1
    have := (Array.getElem?_eq_some_iff.1 hc).1
    omega
  have HNE6 := Lib.hid hne6
  have hS6 : HeldU pt w.heap.size (.slice ar nr capr) s w6 := ⟨⟨by rw [HBx6.out.cell]; rfl, HBx6.out.frozen 7⟩, rangeAll HX6.out⟩
  refine hK.out _ _ (.inr hS6) (fun _ => ?_)
  clear hK K b6 o6 hne6
  (try simp only [Act.put, List.setIfInBounds_toArray, List.set_cons_zero, List.set_cons_succ])
  refine late_one 17 rfl (by kernel_rfl) (by rfl) (fun K hK => ?_)
  go_simp
  refine (repl_any (.slice ar nr capr) nr ((rowsB t.l).flatMap sR) na2 nz v6 (cutS M s.s).length ((cutS M s.s).flatMap sR) base _ w6 HKR6.out HO6.out HNE6.out hna2 hnr2 hmne (by have := hRL.out; omega) (flat_one sR sR_one _) (flat_one sR sR_one _) (by have := HLO.out; have := HB6.out.size; omega)).mono ?_
  rintro e w7 ⟨v7, rfl, r7⟩
  have hXne : (Value.slice ar nr capr).ownBlock ≠ some w.heap.size := bx_apart HKR6.out HX6.out (by decide)
  have hPne : (Value.slice ar nr capr).ownBlock ≠ some pt := bx_apart HKR6.out HBx6.out (by decide)
  have HX7 := Lib.hid (HX6.out.kp r7.kp hXne)
  have HBx7 := Lib.hid (HBx6.out.kp r7.kp hPne)
  have HKB7 := Lib.hid (own_kp (own_below HKB.out HB6.out) r7.kp (fun k e1 e2 => ty_apart HKR6.out (own_below HKB.out HB6.out) (by decide) k e2 e1))
  have hrows : na2 + (cutS M s.s).length + (nr - nz) = (rowsB (A ++ Z)).length ∧ ((rowsB t.l).flatMap sR).take (na2 * 2) ++ (cutS M s.s).flatMap sR ++ ((rowsB t.l).flatMap sR).drop (nz * 2) = (rowsB (A ++ Z)).flatMap sR := by
    have hq : Ar ++ cutS M s.s ++ Zr = rowsB (A ++ Z) := HRW.out
    have hE := HE.out
    rw [← HNA2.out, ← HNZ.out, ← HNR.out]
    constructor
    · rw [← hq, hE]
      simp only [List.length_append]
      omega
    · rw [← hq, hE]
      have h1 : ((Ar ++ M ++ Zr).flatMap sR).take (Ar.length * 2) = Ar.flatMap sR := by
        rw [List.append_assoc]
        exact (flat_cut sR 2 Ar (M ++ Zr) (fun _ _ => rfl)).1
      have h2 : ((Ar ++ M ++ Zr).flatMap sR).drop ((Ar.length + M.length) * 2) = Zr.flatMap sR := by
        have h3 := (flat_cut sR 2 (Ar ++ M) Zr (fun _ _ => rfl)).2
        rwa [List.length_append] at h3
      rw [h1, h2, List.flatMap_append, List.flatMap_append]
  have hto7 := r7.own
  rw [hrows.1, hrows.2] at hto7
  have HTO7 := Lib.hid hto7
  have HR7 := Lib.hid r7
  obtain ⟨a7, c7, hv7⟩ : ∃ a7 c7, v7 = .slice a7 (rowsB (A ++ Z)).length c7 := by
    rcases hto7.2 with ⟨h1, h2⟩ | ⟨g, cap, cur, h1, _⟩
    · exact ⟨none, 0, by rw [h1, h2]⟩
    · exact ⟨_, cap, h1⟩
  have y7 : w7.cell? ⟨pt, 7, none⟩ = some (.slice ar nr capr) := by rw [HBx7.out.cell]; rfl
  have z7 := HBx7.out.frozen 7
  have hS7 : HeldU pt w.heap.size (.slice ar nr capr) s w7 := ⟨⟨y7, z7⟩, rangeAll HX7.out⟩
  refine hK.out _ _ (.inr hS7) (fun _ => ?_)
  clear hK K r7 hXne hPne hrows hto7
  (try simp only [Act.put, List.setIfInBounds_toArray, List.set_cons_zero, List.set_cons_succ])
  refine late_take (v := ?v18) 18 [20, 19, 18] rfl (by kernel_rfl) (by kernel_rfl) (by kernel_rfl) (fun _ _ _ h => h) (by kernel_rfl) (by kernel_rfl) (by decide) (by kernel_rfl) rfl rfl (by rfl) ?y18 (by assumption) ?_
  case y18 => (intro w hSw; unfold HeldU at hSw; go_simp; (try with_reducible rfl); (try omega))
  simp only [List.setIfInBounds_toArray, List.set_cons_zero, List.set_cons_succ]
  refine late_take (v := ?v19) 19 [20, 19] rfl (by kernel_rfl) (by kernel_rfl) (by kernel_rfl) (fun _ _ _ h => h) (by kernel_rfl) (by kernel_rfl) (by decide) (by kernel_rfl) rfl rfl (by rfl) ?y19 (by assumption) ?_
  case y19 => (intro w hSw; unfold HeldU at hSw; go_simp; (try with_reducible rfl); (try omega))
  simp only [List.setIfInBounds_toArray, List.set_cons_zero, List.set_cons_succ]
  refine late_one 20 rfl (by kernel_rfl) (by rfl) (fun K hK => ?_)
  refine wp_of_skip (w' := w7.setCell ⟨pt, 7, none⟩ v7) (by subst hv7; go_simp) ?_
  have HBx8 := Lib.hid (HBx7.out.set 7 v7)
  have HKB8 := Lib.hid (own_kp HKB7.out (KpO.set (O := fun k => k = pt) w7 pt 7 v7 rfl) (fun k e1 e2 => bx_apart HKB7.out HBx7.out (by decide) (e2 ▸ e1)))
  have HKR8 := Lib.hid (own_kp HTO7.out (KpO.set (O := fun k => k = pt) w7 pt 7 v7 rfl) (fun k e1 e2 => bx_apart HTO7.out HBx7.out (by decide) (e2 ▸ e1)))
  have hfin : SpTo w (w7.setCell ⟨pt, 7, none⟩ v7) base pt (.slice a nb cap) (.slice ar nr capr) ⟨t.a1, t.a2, A ++ Z⟩ := by
    refine ⟨⟨v3, v7, ⟨HBx8.out, HKB8.out, HKR8.out, hwf4, HLEN.out, ?_⟩, fun k hk => ?_⟩, ?_⟩
    · have h1 := HLO.out
      have h2 := HB6.out.size
      have h3 := HR7.out.kp.1
      simp only [World.size_setCell]
      omega
    · rcases hk with rfl | hk | hk
      · exact .inl (.inl rfl)
      · rcases HV3.out k hk with h1 | h1
        · exact .inl (.inr (.inl h1))
        · exact .inr h1
      · rcases HR7.out.new k hk with h1 | h1
        · exact .inl (.inr (.inr h1))
        · exact .inr (by have h2 := HB6.out.size; omega)
    · exact (HK4.out.trans (KpO.below HB6.out)).trans ((HR7.out.kp.more (fun k h1 => .inr (.inr h1))).trans (KpO.set w7 pt 7 v7 (.inl rfl)))
  have HFIN := Lib.hid hfin
  refine hK.out _ _ (.inl (by kernel_rfl)) (fun _ => ?_)
  clear hK K hfin
  refine late_done (by kernel_rfl) ?_ _
  refine NoPanic.normal ?_
  generalize w7.setCell ⟨pt, 7, none⟩ v7 = w8 at HFIN ⊢
  go_wp2
  go_end0
  exact ⟨rfl, HFIN.out⟩
end Go.Proofs.Ytgelbeglffjdaaa
