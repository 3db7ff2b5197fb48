/- Package space: a run drawn. -/
import Derived.Test.YtgelbeglffjdaaaSq9
namespace Go.Proofs.Ytgelbeglffjdaaa
open Go Go.RowKit Go.Shelf
attribute [local go_sem] Oper.semAt_some

def dRes (x : Spn) (c : Int) : Value := .tuple #[sV x, .int .i64 c]
theorem built_bk3 (s : Spn) (o a : Int) : Try.prog.built 47 [(0, sV s), (1, .int .i64 o), (2, .int .i64 a)] = some (bR ⟨s, o, a⟩).toArray := by kernel_rfl
theorem SpTo.after {w w1 w2 : World} {base pt : Nat} {vb vr : Value} {t : SpS} (hb : Below w.heap.size w w1) (h : SpTo w1 w2 base pt vb vr t) : SpTo w w2 base pt vb vr t := by
  obtain ⟨⟨vb', vr', h1, h2⟩, h3⟩ := h
  exact ⟨⟨vb', vr', h1, fun k hk => (h2 k hk).imp id fun h => Nat.le_trans hb.size h⟩, (KpO.below hb).trans h3⟩
theorem SpTo.then {w w1 w2 : World} {base pt : Nat} {vb vr : Value} {t : SpS} (h : SpTo w w1 base pt vb vr t) (hb : Below w1.heap.size w1 w2) : SpTo w w2 base pt vb vr t := by
  obtain ⟨⟨vb', vr', h1, h2⟩, h3⟩ := h
  exact ⟨⟨vb', vr', h1.up hb, h2⟩, h3.trans (KpO.below hb)⟩
theorem SpM.low {w : World} {base pt : Nat} {vb vr : Value} {t : SpS} (h : SpM w base pt vb vr t) {k : Nat} (hk : OwnK pt vb vr k) : k < w.heap.size := by
  rcases hk with rfl | hk | hk
  · exact h.bx.lt
  · obtain ⟨c, hc⟩ := own_type h.kb k hk
    exact (Array.getElem?_eq_some_iff.1 hc).1
  · obtain ⟨c, hc⟩ := own_type h.kr k hk
    exact (Array.getElem?_eq_some_iff.1 hc).1
/-- A box that is not the space's own is written. -/
theorem SpTo.boxed {w w1 w2 : World} {base pt : Nat} {vb vr : Value} {t : SpS} (hb : Below w.heap.size w w1) (h : SpTo w1 w2 base pt vb vr t) {g : Nat} (hg : w.heap.size ≤ g) (hg1 : g < w1.heap.size) (hn : ¬ OwnK pt vb vr g) (cs : Array Value) : SpTo w (w2.setRow g cs) base pt vb vr t := by
  obtain ⟨⟨vb', vr', h1, h2⟩, h3⟩ := h
  have hn' : ¬ OwnK pt vb' vr' g := fun hk => by
    rcases h2 g hk with h4 | h4
    · exact hn h4
    · omega
  have hKp : KpO (fun j => j = g) w2 (w2.setRow g cs) := kp_row w2 g cs rfl
  have h4 := (KpO.below hb).trans h3
  refine ⟨⟨vb', vr', ⟨h1.bx.kp hKp (fun e => hn' (.inl e.symm)), own_kp h1.kb hKp (fun k e1 e2 => hn' (.inr (.inl (e2 ▸ e1)))), own_kp h1.kr hKp (fun k e1 e2 => hn' (.inr (.inr (e2 ▸ e1)))), h1.wf, h1.len, by simpa using h1.lo⟩, fun k hk => (h2 k hk).imp id fun h5 => Nat.le_trans hb.size h5⟩, ?_⟩
  have h6 := below_row (Below.refl 0 w2) (Nat.zero_le g) cs
  exact .of (Nat.le_trans h4.size h6.size) (fun k hk2 hl => (setRow_other w2 g k cs (by omega)).trans (h4.all k hk2 hl)) (h6.os.trans h4.os) (h6.tape.trans h4.tape) (h6.output.trans h4.output)
theorem gaps_all (l : List Blk) : ∀ ps : List Spn, (∀ p ∈ ps, mayS p) → ∃ g : List Spn, g.length ≤ ps.length * (l.length + 1) ∧ ∀ n, inLab g n = (inLab ps n && !hasB l n)
  | [], _ => ⟨[], by simp, fun _ => rfl⟩
  | p :: ps, h => by
    obtain ⟨g, hg, hi⟩ := gaps_all l ps (fun q hq => h q (List.mem_cons_of_mem _ hq))
    have hp := h p List.mem_cons_self
    obtain ⟨A, M, Z, hn⟩ := near_split (show p.f ≤ p.l by unfold mayS at hp; omega) (rowsB_normal l)
    refine ⟨gapsP p.f p.l M ++ g, ?_, fun n => ?_⟩
    · have h1 := gapsP_length M p.f p.l
      have h2 := congrArg List.length hn.eq
      have h3 := rowsB_length l
      rw [List.length_append, List.length_append] at h2
      rw [List.length_append, h1, List.length_cons, Nat.add_mul, Nat.one_mul]
      omega
    · rw [inS_append, near_gaps hp hn, hi]
      show (_ || _) = ((inSd p n || inLab ps n) && _)
      cases inSd p n <;> cases inLab ps n <;> cases hasB l n <;> rfl
theorem left_length {t : SpS} (h : WF t) (k : Int) : (t.left k).length ≤ 4 * (t.l.length + 1) := by
  obtain ⟨g, hg, hi⟩ := gaps_all t.l (partsP t k) (parts_normal h k).may
  rw [← left_is h k hi]
  have h1 := parts_length (t := t) k
  have h2 : (partsP t k).length * (t.l.length + 1) ≤ 4 * (t.l.length + 1) := Nat.mul_le_mul_right _ h1
  exact Nat.le_trans (normS_length_le g) (Nat.le_trans hg h2)
set_option maxRecDepth 100000 in
set_option maxHeartbeats 2000000 in
theorem draw_bad {base pt : Nat} {vb vr : Value} {t : SpS} (o k n : Int) (w : World) (h : SpM w base pt vb vr t) (hbad : o < 1 ∨ k < 0 ∨ 2 < k ∨ n < 1) :
    Calls Try.prog 24 #[.pointer (some ⟨pt, 0, none⟩), .int .i64 o, .int .i64 k, .int .i64 n] w fun e w' => e = .returned (dRes ⟨0, 0⟩ 1) ∧ SpTo w w' base pt vb vr t := by
  have hb0 : Below w.heap.size w (w.alloc (.cells #[.int .i64 0, .int .i64 0] 27)) := (Below.refl _ _).alloc (Nat.le_refl _) _
  have HX0 := Lib.hid (show Bx (w.alloc (.cells #[.int .i64 0, .int .i64 0] 27)) w.heap.size 27 (sR ⟨0, 0⟩) from Bx.new w _ _)
  have HB0 := Lib.hid hb0
  have HN := Lib.hid (fun W => named_any k W)
  have HS := Lib.hid (fun W (hW : Below w.heap.size w W) => SpTo.same h hW)
  clear h hb0
  by_cases ho : o < 1
  · go_enter Try.func24, Try.ntmps24
    go_wp2_with (refine plS rfl (exec_store_bxK _ (.tmp 8) (.tmp 32) rfl w.heap.size (sR ⟨0, 0⟩) _ rfl rfl HX0.out sp_info rfl (sR_one _)) ?_)
    have HX9 := Lib.hid (HX0.out.row (sR ⟨0, 0⟩))
    have HB9 := Lib.hid (below_row HB0.out (Nat.le_refl _) (sR ⟨0, 0⟩).toArray)
    generalize (w.alloc (.cells #[.int .i64 0, .int .i64 0] 27)).setRow w.heap.size (sR ⟨0, 0⟩).toArray = WZ at HX9 HB9 ⊢
    have z0 : WZ.cell? ⟨w.heap.size, 0, none⟩ = some (.int .i64 (⟨0, 0⟩ : Spn).f) := by rw [HX9.out.cell]; rfl
    have z1 : WZ.cell? ⟨w.heap.size, 1, none⟩ = some (.int .i64 (⟨0, 0⟩ : Spn).l) := by rw [HX9.out.cell]; rfl
    simp only at z0 z1
    exact bodyPost_ret (v := dRes ⟨0, 0⟩ 1) (by simp [results, Try.results24, go_sem, dRes, sV, sR, z0, z1]) rfl ⟨rfl, HS.out _ HB9.out⟩
  · by_cases hk0 : k = 0
    · subst hk0
      have hn1 : n < 1 := by omega
      clear hbad
      go_enter Try.func24, Try.ntmps24
      go_wp2_with (refine plS rfl (exec_store_bxK _ (.tmp 8) (.tmp 32) rfl w.heap.size (sR ⟨0, 0⟩) _ rfl rfl HX0.out sp_info rfl (sR_one _)) ?_)
      have HX9 := Lib.hid (HX0.out.row (sR ⟨0, 0⟩))
      have HB9 := Lib.hid (below_row HB0.out (Nat.le_refl _) (sR ⟨0, 0⟩).toArray)
      generalize (w.alloc (.cells #[.int .i64 0, .int .i64 0] 27)).setRow w.heap.size (sR ⟨0, 0⟩).toArray = WZ at HX9 HB9 ⊢
      have z0 : WZ.cell? ⟨w.heap.size, 0, none⟩ = some (.int .i64 (⟨0, 0⟩ : Spn).f) := by rw [HX9.out.cell]; rfl
      have z1 : WZ.cell? ⟨w.heap.size, 1, none⟩ = some (.int .i64 (⟨0, 0⟩ : Spn).l) := by rw [HX9.out.cell]; rfl
      simp only at z0 z1
      exact bodyPost_ret (v := dRes ⟨0, 0⟩ 1) (by simp [results, Try.results24, go_sem, dRes, sV, sR, z0, z1]) rfl ⟨rfl, HS.out _ HB9.out⟩
    · by_cases hk : k = 1 ∨ k = 2
      · have hn1 : n < 1 := by omega
        rw [decide_eq_true hk] at HN
        clear hbad hk
        go_enter Try.func24, Try.ntmps24
        go_wp2_with (go_at_call 57; refine (HN.out _).mono ?_; rintro e w1 ⟨rfl, b1⟩; refine Hid.out ?_)
        refine Lib.hid ?_
        have HB1 := Lib.hid (below_up HB0.out b1 HB0.out.size)
        have HX1 := Lib.hid (HX0.out.up b1)
        clear b1
        go_wp2_with (refine plS rfl (exec_store_bxK _ (.tmp 8) (.tmp 32) rfl w.heap.size (sR ⟨0, 0⟩) _ rfl rfl HX1.out sp_info rfl (sR_one _)) ?_)
        have HX9 := Lib.hid (HX1.out.row (sR ⟨0, 0⟩))
        have HB9 := Lib.hid (below_row HB1.out (Nat.le_refl _) (sR ⟨0, 0⟩).toArray)
        generalize (w1).setRow w.heap.size (sR ⟨0, 0⟩).toArray = WZ at HX9 HB9 ⊢
        have z0 : WZ.cell? ⟨w.heap.size, 0, none⟩ = some (.int .i64 (⟨0, 0⟩ : Spn).f) := by rw [HX9.out.cell]; rfl
        have z1 : WZ.cell? ⟨w.heap.size, 1, none⟩ = some (.int .i64 (⟨0, 0⟩ : Spn).l) := by rw [HX9.out.cell]; rfl
        simp only at z0 z1
        exact bodyPost_ret (v := dRes ⟨0, 0⟩ 1) (by simp [results, Try.results24, go_sem, dRes, sV, sR, z0, z1]) rfl ⟨rfl, HS.out _ HB9.out⟩
      · rw [decide_eq_false hk] at HN
        clear hbad hk
        go_enter Try.func24, Try.ntmps24
        go_wp2_with (go_at_call 57; refine (HN.out _).mono ?_; rintro e w1 ⟨rfl, b1⟩; refine Hid.out ?_)
        refine Lib.hid ?_
        have HB1 := Lib.hid (below_up HB0.out b1 HB0.out.size)
        have HX1 := Lib.hid (HX0.out.up b1)
        clear b1
        go_wp2_with (refine plS rfl (exec_store_bxK _ (.tmp 8) (.tmp 32) rfl w.heap.size (sR ⟨0, 0⟩) _ rfl rfl HX1.out sp_info rfl (sR_one _)) ?_)
        have HX9 := Lib.hid (HX1.out.row (sR ⟨0, 0⟩))
        have HB9 := Lib.hid (below_row HB1.out (Nat.le_refl _) (sR ⟨0, 0⟩).toArray)
        generalize (w1).setRow w.heap.size (sR ⟨0, 0⟩).toArray = WZ at HX9 HB9 ⊢
        have z0 : WZ.cell? ⟨w.heap.size, 0, none⟩ = some (.int .i64 (⟨0, 0⟩ : Spn).f) := by rw [HX9.out.cell]; rfl
        have z1 : WZ.cell? ⟨w.heap.size, 1, none⟩ = some (.int .i64 (⟨0, 0⟩ : Spn).l) := by rw [HX9.out.cell]; rfl
        simp only at z0 z1
        exact bodyPost_ret (v := dRes ⟨0, 0⟩ 1) (by simp [results, Try.results24, go_sem, dRes, sV, sR, z0, z1]) rfl ⟨rfl, HS.out _ HB9.out⟩
set_option maxRecDepth 100000 in
set_option maxHeartbeats 2000000 in
theorem draw_none {base pt : Nat} {vb vr : Value} {t : SpS} (o k n : Int) (w : World) (h : SpM w base pt vb vr t) (ho : ¬ o < 1) (hn : ¬ n < 1) (hk : k = 1 ∨ k = 2) (hf : (t.ar k).f = 0) :
    Calls Try.prog 24 #[.pointer (some ⟨pt, 0, none⟩), .int .i64 o, .int .i64 k, .int .i64 n] w fun e w' => e = .returned (dRes ⟨0, 0⟩ 31) ∧ SpTo w w' base pt vb vr t := by
  have hb0 : Below w.heap.size w (w.alloc (.cells #[.int .i64 0, .int .i64 0] 27)) := (Below.refl _ _).alloc (Nat.le_refl _) _
  have HX0 := Lib.hid (show Bx (w.alloc (.cells #[.int .i64 0, .int .i64 0] 27)) w.heap.size 27 (sR ⟨0, 0⟩) from Bx.new w _ _)
  have HB0 := Lib.hid hb0
  have HN := Lib.hid (fun W => named_any k W)
  have HLA := Lib.hid (fun W (hW : Below w.heap.size w W) => laid_any k W (h.up hW))
  have HS := Lib.hid (fun W (hW : Below w.heap.size w W) => SpTo.same h hW)
  rw [show laidB t k = false from decide_eq_false (fun h9 => h9.2 hf)] at HLA
  rw [decide_eq_true hk] at HN
  have hk0 : ¬ k = 0 := by omega
  clear h hb0 hk hf
  go_enter Try.func24, Try.ntmps24
  go_wp2_with (go_at_call 57; refine (HN.out _).mono ?_; rintro e w1 ⟨rfl, b1⟩; refine Hid.out ?_)
  refine Lib.hid ?_
  have HB1 := Lib.hid (below_up HB0.out b1 HB0.out.size)
  have HX1 := Lib.hid (HX0.out.up b1)
  clear b1
  go_wp2_with (go_at_call 51; refine (HLA.out _ HB1.out).mono ?_; rintro e w2 ⟨rfl, b2⟩; refine Hid.out ?_)
  refine Lib.hid ?_
  have HB2 := Lib.hid (below_up HB1.out b2 HB1.out.size)
  have HX2 := Lib.hid (HX1.out.up b2)
  clear b2
  go_wp2_with (refine plS rfl (exec_store_bxK _ (.tmp 8) (.tmp 44) rfl w.heap.size (sR ⟨0, 0⟩) _ rfl rfl HX2.out sp_info rfl (sR_one _)) ?_)
  have HX9 := Lib.hid (HX2.out.row (sR ⟨0, 0⟩))
  have HB9 := Lib.hid (below_row HB2.out (Nat.le_refl _) (sR ⟨0, 0⟩).toArray)
  generalize (w2).setRow w.heap.size (sR ⟨0, 0⟩).toArray = WZ at HX9 HB9 ⊢
  have z0 : WZ.cell? ⟨w.heap.size, 0, none⟩ = some (.int .i64 (⟨0, 0⟩ : Spn).f) := by rw [HX9.out.cell]; rfl
  have z1 : WZ.cell? ⟨w.heap.size, 1, none⟩ = some (.int .i64 (⟨0, 0⟩ : Spn).l) := by rw [HX9.out.cell]; rfl
  simp only at z0 z1
  exact bodyPost_ret (v := dRes ⟨0, 0⟩ 31) (by simp [results, Try.results24, go_sem, dRes, sV, sR, z0, z1]) rfl ⟨rfl, HS.out _ HB9.out⟩
set_option maxRecDepth 100000 in
set_option maxHeartbeats 4000000 in
theorem draw_zero {base pt : Nat} {vb vr : Value} {t : SpS} (o k n : Int) (w : World) (h : SpM w base pt vb vr t) (hl9 : t.l.length ≤ 900) (ho : ¬ o < 1) (hn : ¬ n < 1) (hk : k = 0) :
    Calls Try.prog 24 #[.pointer (some ⟨pt, 0, none⟩), .int .i64 o, .int .i64 k, .int .i64 n] w fun e w' => (∀ x, firstS n (normS (t.left k)) = some x → e = .returned (dRes x 0) ∧ SpTo w w' base pt vb vr (t.put ⟨x, o, k⟩)) ∧ (firstS n (normS (t.left k)) = none → e = .returned (dRes ⟨0, 0⟩ 43) ∧ SpTo w w' base pt vb vr t) := by
  have mixed : Try.prog.follows .mixedOrders = true := by kernel_rfl
  have hb0 : Below w.heap.size w (w.alloc (.cells #[.int .i64 0, .int .i64 0] 27)) := (Below.refl _ _).alloc (Nat.le_refl _) _
  have HX0 := Lib.hid (show Bx (w.alloc (.cells #[.int .i64 0, .int .i64 0] 27)) w.heap.size 27 (sR ⟨0, 0⟩) from Bx.new w _ _)
  have HB0 := Lib.hid hb0
  have HM := Lib.hid h
  have HLL := Lib.hid (show (t.left k).length ≤ 100000 from Nat.le_trans (left_length h.wf k) (by omega))
  have HS := Lib.hid (fun W (hW : Below w.heap.size w W) => SpTo.same h hW)
  subst hk
  obtain ⟨fo, hfo⟩ : ∃ fo, firstS n (normS (t.left 0)) = fo := ⟨_, rfl⟩
  have hfa := fun v W (hW : IsS W v (t.left 0)) => sfirst_any v (t.left 0) n W hW HLL.out
  rw [hfo] at hfa ⊢
  have HFA := Lib.hid hfa
  have HFO := Lib.hid hfo
  clear h hb0 hfo hfa
  go_enter Try.func24, Try.ntmps24
  have HB2 := HB0
  have HX2 := HX0
  go_wp2_with (go_at_call 21; refine (left_any (0 : Int) _ (HM.out.up HB2.out)).mono ?_; rintro e w3 ⟨v3, rfl, i3, b3⟩; refine Hid.out ?_)
  refine Lib.hid ?_
  obtain ⟨a3, c3, rfl, hc3⟩ := i3.form
  have HB3 := Lib.hid (below_up HB2.out b3 HB2.out.size)
  have HX3 := Lib.hid (HX2.out.up b3)
  have HI3 := Lib.hid i3
  clear i3 b3
  have HFI := Lib.hid (HFA.out _ w3 HI3.out)
  generalize (t.left 0).length = ll at *
  cases fo with
  | none =>
    have hfr : fRes none = .tuple #[.agg (sR ⟨0, 0⟩).toArray, .bool false] := rfl
    rw [hfr] at HFI
    clear hfr
    go_wp2_with (go_at_call 58; refine HFI.out.mono ?_; rintro e w4 ⟨rfl, b4⟩; refine Hid.out ?_)
    refine Lib.hid ?_
    have hba : Below w4.heap.size w4 (w4.alloc (.cells (sR ⟨0, 0⟩).toArray 27)) := (Below.refl _ _).alloc (Nat.le_refl _) _
    have HX5 := Lib.hid ((HX3.out.up b4).up hba)
    have HB5 := Lib.hid (below_up (below_up HB3.out b4 HB3.out.size) hba (Nat.le_trans HB3.out.size b4.size))
    clear b4 hba
    go_wp2_with (first
      | (refine plS rfl (exec_store_fresh _ (.tmp 10) (.tmp 51) rfl (sR ⟨0, 0⟩) _ w4.heap.size rfl rfl rfl sp_info rfl (sR_one _)) ?_)
      | (refine plS rfl (exec_store_bxK _ (.tmp 8) (.tmp 55) rfl w.heap.size (sR ⟨0, 0⟩) _ rfl rfl HX5.out sp_info rfl (sR_one _)) ?_))
    have HX9 := Lib.hid (HX5.out.row (sR ⟨0, 0⟩))
    have HB9 := Lib.hid (below_row HB5.out (Nat.le_refl _) (sR ⟨0, 0⟩).toArray)
    generalize (w4.alloc (.cells (sR ⟨0, 0⟩).toArray 27)).setRow w.heap.size (sR ⟨0, 0⟩).toArray = WZ at HX9 HB9 ⊢
    have z0 : WZ.cell? ⟨w.heap.size, 0, none⟩ = some (.int .i64 0) := by rw [HX9.out.cell]; rfl
    have z1 : WZ.cell? ⟨w.heap.size, 1, none⟩ = some (.int .i64 0) := by rw [HX9.out.cell]; rfl
    exact bodyPost_ret (v := dRes ⟨0, 0⟩ 43) (by simp [results, Try.results24, go_sem, dRes, sV, sR, z0, z1]) rfl ⟨rfl, HS.out _ HB9.out⟩
  | some x =>
    have hfr : fRes (some x) = .tuple #[.agg (sR x).toArray, .bool true] := rfl
    rw [hfr] at HFI
    clear hfr
    have hp := HM.out.wf.put (s := x) (o := o) (k := 0) (by omega) (by omega) (first_has HFO.out)
    have HP := Lib.hid hp
    clear hp
    go_wp2_with (go_at_call 58; refine HFI.out.mono ?_; rintro e w4 ⟨rfl, b4⟩; refine Hid.out ?_)
    refine Lib.hid ?_
    have hba : Below w4.heap.size w4 (w4.alloc (.cells (sR x).toArray 27)) := (Below.refl _ _).alloc (Nat.le_refl _) _
    have hdr : Below (w4.alloc (.cells (sR x).toArray 27)).heap.size (w4.alloc (.cells (sR x).toArray 27)) (w4.alloc (.cells (sR x).toArray 27)).drew := (Below.refl _ _).drew
    have hbd := below_up hba hdr hba.size
    have HX5 := Lib.hid ((HX3.out.up b4).up hbd)
    have HB5 := Lib.hid (below_up (below_up HB3.out b4 HB3.out.size) hbd (Nat.le_trans HB3.out.size b4.size))
    have HY5 := Lib.hid ((Bx.new w4 27 (sR x)).up hdr)
    have hw4 : w.heap.size < w4.heap.size := (HX3.out.up b4).lt
    clear b4 hba hdr hbd
    go_wp2_with (refine plS rfl (exec_store_fresh _ (.tmp 10) (.tmp 51) rfl (sR x) _ w4.heap.size rfl rfl rfl sp_info rfl (sR_one _)) ?_)
    refine wp_region_noPanic ?_
    refine wp_region_held_drew (S := HeldPs w4.heap.size x) (by kernel_rfl) (rangeAll HY5.out) (fun hHeld => ?_)
    generalize (w4.alloc (.cells (sR x).toArray 27)).drew = wd at *
    refine held_take (v := ?v226) 0 rfl (by kernel_rfl) (by kernel_rfl) (by kernel_rfl) (fun _ _ _ h => h) (by rfl) ?y226 (by assumption) ?_
    case y226 => (intro w hSw; unfold HeldPs at hSw; go_simp; (try with_reducible rfl); (try omega))
    simp only [List.setIfInBounds_toArray, List.set_cons_zero, List.set_cons_succ]
    refine held_take (v := ?v229) 1 rfl (by kernel_rfl) (by kernel_rfl) (by kernel_rfl) (fun _ _ _ h => h) (by rfl) ?y229 (by assumption) ?_
    case y229 => (intro w hSw; unfold HeldPs at hSw; go_simp; (try with_reducible rfl); (try omega))
    simp only [List.setIfInBounds_toArray, List.set_cons_zero, List.set_cons_succ]
    refine held_take (v := ?v232) 2 rfl (by kernel_rfl) (by kernel_rfl) (by kernel_rfl) (fun _ _ _ h => h) (by rfl) ?y232 (by assumption) ?_
    case y232 => (intro w hSw; unfold HeldPs at hSw; go_simp; (try with_reducible rfl); (try omega))
    simp only [List.setIfInBounds_toArray, List.set_cons_zero, List.set_cons_succ]
    refine held_take (v := sV x) 3 rfl (by kernel_rfl) (by kernel_rfl) (by kernel_rfl) (fun _ _ _ h => h) (by rfl) (fun W hSw => exec_load_any _ (.tmp 10) rfl w4.heap.size 0 (sR x) _ rfl hSw Try.underlying27 rfl sp_info) (by assumption) ?_
    simp only [List.setIfInBounds_toArray, List.set_cons_zero, List.set_cons_succ]
    refine held_take (v := ?v237) 4 rfl (by kernel_rfl) (by kernel_rfl) (by kernel_rfl) (fun _ _ _ h => h) (by rfl) ?y237 (by assumption) ?_
    case y237 => (intro w hSw; unfold HeldPs at hSw; go_simp; (try with_reducible rfl); (try omega))
    simp only [List.setIfInBounds_toArray, List.set_cons_zero, List.set_cons_succ]
    refine held_take (v := ?v240) 5 rfl (by kernel_rfl) (by kernel_rfl) (by kernel_rfl) (fun _ _ _ h => h) (by rfl) ?y240 (by assumption) ?_
    case y240 => (intro w hSw; unfold HeldPs at hSw; go_simp; (try with_reducible rfl); (try omega))
    simp only [List.setIfInBounds_toArray, List.set_cons_zero, List.set_cons_succ]
    refine held_take (v := bV ⟨x, o, 0⟩) 6 rfl (by kernel_rfl) (by kernel_rfl) (by kernel_rfl) (fun _ _ _ h => h) (by rfl) (fun W hSw => exec_build3 _ 0 1 2 (.tmp 59) (.tmp 60) (.tmp 61) rfl _ _ _ (bR ⟨x, o, 0⟩) rfl rfl rfl (built_bk3 x o 0)) (by assumption) ?_
    simp only [List.setIfInBounds_toArray, List.set_cons_zero, List.set_cons_succ]
    refine held_one 7 rfl (by kernel_rfl) (by rfl) (fun K hK => ?_)
    go_simp
    refine (put_any ⟨x, o, 0⟩ HP.out.2.1 HP.out.2.2 HP.out.1 wd (HM.out.up HB5.out) hl9).mono ?_
    rintro e w6 ⟨rfl, s6⟩
    have hn4 : ¬ OwnK pt vb vr w4.heap.size := fun hk => by have := HM.out.low hk; omega
    have hn0 : ¬ OwnK pt vb vr w.heap.size := fun hk => by have := HM.out.low hk; omega
    have HY6 := Lib.hid (HY5.out.kp s6.kp hn4)
    have HX6 := Lib.hid (HX5.out.kp s6.kp hn0)
    have HR := Lib.hid (fun cs => SpTo.boxed HB5.out s6 (Nat.le_refl _) HX5.out.lt hn0 cs)
    refine hK.out _ _ (rangeAll HY6.out) (fun _ => ?_)
    (try simp only [Act.put, List.setIfInBounds_toArray, List.set_cons_zero, List.set_cons_succ])
    clear hK K s6 hn4 hn0 hHeld
    refine wpAnyH_done (by kernel_rfl) ?_ _
    refine NoPanic.normal ?_
    go_wp2_with (first
      | (refine plV rfl (sV x) (exec_load_any 27 (.tmp 10) rfl w4.heap.size 0 (sR x) _ rfl (rangeAll HY6.out) Try.underlying27 rfl sp_info) ?_)
      | (refine plS rfl (exec_store_bxK _ (.tmp 8) (.tmp 64) rfl w.heap.size (sR x) _ rfl rfl HX6.out sp_info rfl (sR_one _)) ?_))
    have HX9 := Lib.hid (HX6.out.row (sR x))
    have HF := Lib.hid (HR.out (sR x).toArray)
    generalize w6.setRow w.heap.size (sR x).toArray = WZ at HX9 HF ⊢
    have z0 : WZ.cell? ⟨w.heap.size, 0, none⟩ = some (.int .i64 x.f) := by rw [HX9.out.cell]; rfl
    have z1 : WZ.cell? ⟨w.heap.size, 1, none⟩ = some (.int .i64 x.l) := by rw [HX9.out.cell]; rfl
    exact bodyPost_ret (v := dRes x 0) (by simp [results, Try.results24, go_sem, dRes, sV, sR, z0, z1]) rfl ⟨fun x1 h1 => by cases h1; exact ⟨rfl, HF.out⟩, fun h1 => by cases h1⟩
set_option maxRecDepth 100000 in
set_option maxHeartbeats 4000000 in
theorem draw_area {base pt : Nat} {vb vr : Value} {t : SpS} (o k n : Int) (w : World) (h : SpM w base pt vb vr t) (hl9 : t.l.length ≤ 900) (ho : ¬ o < 1) (hn : ¬ n < 1) (hk : k = 1 ∨ k = 2) (hf : (t.ar k).f ≠ 0) :
    Calls Try.prog 24 #[.pointer (some ⟨pt, 0, none⟩), .int .i64 o, .int .i64 k, .int .i64 n] w fun e w' => (∀ x, firstS n (normS (t.left k)) = some x → e = .returned (dRes x 0) ∧ SpTo w w' base pt vb vr (t.put ⟨x, o, k⟩)) ∧ (firstS n (normS (t.left k)) = none → e = .returned (dRes ⟨0, 0⟩ 43) ∧ SpTo w w' base pt vb vr t) := by
  have mixed : Try.prog.follows .mixedOrders = true := by kernel_rfl
  have hb0 : Below w.heap.size w (w.alloc (.cells #[.int .i64 0, .int .i64 0] 27)) := (Below.refl _ _).alloc (Nat.le_refl _) _
  have HX0 := Lib.hid (show Bx (w.alloc (.cells #[.int .i64 0, .int .i64 0] 27)) w.heap.size 27 (sR ⟨0, 0⟩) from Bx.new w _ _)
  have HB0 := Lib.hid hb0
  have HM := Lib.hid h
  have HLL := Lib.hid (show (t.left k).length ≤ 100000 from Nat.le_trans (left_length h.wf k) (by omega))
  have HS := Lib.hid (fun W (hW : Below w.heap.size w W) => SpTo.same h hW)
  have HN := Lib.hid (fun W => named_any k W)
  have HLA := Lib.hid (fun W (hW : Below w.heap.size w W) => laid_any k W (h.up hW))
  rw [show laidB t k = true from decide_eq_true ⟨hk, hf⟩] at HLA
  rw [decide_eq_true hk] at HN
  have hk0 : ¬ k = 0 := by omega
  obtain ⟨fo, hfo⟩ : ∃ fo, firstS n (normS (t.left k)) = fo := ⟨_, rfl⟩
  have hfa := fun v W (hW : IsS W v (t.left k)) => sfirst_any v (t.left k) n W hW HLL.out
  rw [hfo] at hfa ⊢
  have HFA := Lib.hid hfa
  have HFO := Lib.hid hfo
  clear h hb0 hfo hfa
  go_enter Try.func24, Try.ntmps24
  go_wp2_with (go_at_call 57; refine (HN.out _).mono ?_; rintro e w1 ⟨rfl, b1⟩; refine Hid.out ?_)
  refine Lib.hid ?_
  have HB1 := Lib.hid (below_up HB0.out b1 HB0.out.size)
  have HX1 := Lib.hid (HX0.out.up b1)
  clear b1
  go_wp2_with (go_at_call 51; refine (HLA.out _ HB1.out).mono ?_; rintro e w2 ⟨rfl, b2⟩; refine Hid.out ?_)
  refine Lib.hid ?_
  have HB2 := Lib.hid (below_up HB1.out b2 HB1.out.size)
  have HX2 := Lib.hid (HX1.out.up b2)
  clear b2
  go_wp2_with (go_at_call 21; refine (left_any k _ (HM.out.up HB2.out)).mono ?_; rintro e w3 ⟨v3, rfl, i3, b3⟩; refine Hid.out ?_)
  refine Lib.hid ?_
  obtain ⟨a3, c3, rfl, hc3⟩ := i3.form
  have HB3 := Lib.hid (below_up HB2.out b3 HB2.out.size)
  have HX3 := Lib.hid (HX2.out.up b3)
  have HI3 := Lib.hid i3
  clear i3 b3
  have HFI := Lib.hid (HFA.out _ w3 HI3.out)
  generalize (t.left k).length = ll at *
  cases fo with
  | none =>
    have hfr : fRes none = .tuple #[.agg (sR ⟨0, 0⟩).toArray, .bool false] := rfl
    rw [hfr] at HFI
    clear hfr
    go_wp2_with (go_at_call 58; refine HFI.out.mono ?_; rintro e w4 ⟨rfl, b4⟩; refine Hid.out ?_)
    refine Lib.hid ?_
    have hba : Below w4.heap.size w4 (w4.alloc (.cells (sR ⟨0, 0⟩).toArray 27)) := (Below.refl _ _).alloc (Nat.le_refl _) _
    have HX5 := Lib.hid ((HX3.out.up b4).up hba)
    have HB5 := Lib.hid (below_up (below_up HB3.out b4 HB3.out.size) hba (Nat.le_trans HB3.out.size b4.size))
    clear b4 hba
    go_wp2_with (first
      | (refine plS rfl (exec_store_fresh _ (.tmp 10) (.tmp 51) rfl (sR ⟨0, 0⟩) _ w4.heap.size rfl rfl rfl sp_info rfl (sR_one _)) ?_)
      | (refine plS rfl (exec_store_bxK _ (.tmp 8) (.tmp 55) rfl w.heap.size (sR ⟨0, 0⟩) _ rfl rfl HX5.out sp_info rfl (sR_one _)) ?_))
    have HX9 := Lib.hid (HX5.out.row (sR ⟨0, 0⟩))
    have HB9 := Lib.hid (below_row HB5.out (Nat.le_refl _) (sR ⟨0, 0⟩).toArray)
    generalize (w4.alloc (.cells (sR ⟨0, 0⟩).toArray 27)).setRow w.heap.size (sR ⟨0, 0⟩).toArray = WZ at HX9 HB9 ⊢
    have z0 : WZ.cell? ⟨w.heap.size, 0, none⟩ = some (.int .i64 0) := by rw [HX9.out.cell]; rfl
    have z1 : WZ.cell? ⟨w.heap.size, 1, none⟩ = some (.int .i64 0) := by rw [HX9.out.cell]; rfl
    exact bodyPost_ret (v := dRes ⟨0, 0⟩ 43) (by simp [results, Try.results24, go_sem, dRes, sV, sR, z0, z1]) rfl ⟨rfl, HS.out _ HB9.out⟩
  | some x =>
    have hfr : fRes (some x) = .tuple #[.agg (sR x).toArray, .bool true] := rfl
    rw [hfr] at HFI
    clear hfr
    have hp := HM.out.wf.put (s := x) (o := o) (k := k) (by omega) (by omega) (first_has HFO.out)
    have HP := Lib.hid hp
    clear hp
    go_wp2_with (go_at_call 58; refine HFI.out.mono ?_; rintro e w4 ⟨rfl, b4⟩; refine Hid.out ?_)
    refine Lib.hid ?_
    have hba : Below w4.heap.size w4 (w4.alloc (.cells (sR x).toArray 27)) := (Below.refl _ _).alloc (Nat.le_refl _) _
    have hdr : Below (w4.alloc (.cells (sR x).toArray 27)).heap.size (w4.alloc (.cells (sR x).toArray 27)) (w4.alloc (.cells (sR x).toArray 27)).drew := (Below.refl _ _).drew
    have hbd := below_up hba hdr hba.size
    have HX5 := Lib.hid ((HX3.out.up b4).up hbd)
    have HB5 := Lib.hid (below_up (below_up HB3.out b4 HB3.out.size) hbd (Nat.le_trans HB3.out.size b4.size))
    have HY5 := Lib.hid ((Bx.new w4 27 (sR x)).up hdr)
    have hw4 : w.heap.size < w4.heap.size := (HX3.out.up b4).lt
    clear b4 hba hdr hbd
    go_wp2_with (refine plS rfl (exec_store_fresh _ (.tmp 10) (.tmp 51) rfl (sR x) _ w4.heap.size rfl rfl rfl sp_info rfl (sR_one _)) ?_)
    refine wp_region_noPanic ?_
    refine wp_region_held_drew (S := HeldPs w4.heap.size x) (by kernel_rfl) (rangeAll HY5.out) (fun hHeld => ?_)
    generalize (w4.alloc (.cells (sR x).toArray 27)).drew = wd at *
    refine held_take (v := ?v351) 0 rfl (by kernel_rfl) (by kernel_rfl) (by kernel_rfl) (fun _ _ _ h => h) (by rfl) ?y351 (by assumption) ?_
    case y351 => (intro w hSw; unfold HeldPs at hSw; go_simp; (try with_reducible rfl); (try omega))
    simp only [List.setIfInBounds_toArray, List.set_cons_zero, List.set_cons_succ]
    refine held_take (v := ?v354) 1 rfl (by kernel_rfl) (by kernel_rfl) (by kernel_rfl) (fun _ _ _ h => h) (by rfl) ?y354 (by assumption) ?_
    case y354 => (intro w hSw; unfold HeldPs at hSw; go_simp; (try with_reducible rfl); (try omega))
    simp only [List.setIfInBounds_toArray, List.set_cons_zero, List.set_cons_succ]
    refine held_take (v := ?v357) 2 rfl (by kernel_rfl) (by kernel_rfl) (by kernel_rfl) (fun _ _ _ h => h) (by rfl) ?y357 (by assumption) ?_
    case y357 => (intro w hSw; unfold HeldPs at hSw; go_simp; (try with_reducible rfl); (try omega))
    simp only [List.setIfInBounds_toArray, List.set_cons_zero, List.set_cons_succ]
    refine held_take (v := sV x) 3 rfl (by kernel_rfl) (by kernel_rfl) (by kernel_rfl) (fun _ _ _ h => h) (by rfl) (fun W hSw => exec_load_any _ (.tmp 10) rfl w4.heap.size 0 (sR x) _ rfl hSw Try.underlying27 rfl sp_info) (by assumption) ?_
    simp only [List.setIfInBounds_toArray, List.set_cons_zero, List.set_cons_succ]
    refine held_take (v := ?v362) 4 rfl (by kernel_rfl) (by kernel_rfl) (by kernel_rfl) (fun _ _ _ h => h) (by rfl) ?y362 (by assumption) ?_
    case y362 => (intro w hSw; unfold HeldPs at hSw; go_simp; (try with_reducible rfl); (try omega))
    simp only [List.setIfInBounds_toArray, List.set_cons_zero, List.set_cons_succ]
    refine held_take (v := ?v365) 5 rfl (by kernel_rfl) (by kernel_rfl) (by kernel_rfl) (fun _ _ _ h => h) (by rfl) ?y365 (by assumption) ?_
    case y365 => (intro w hSw; unfold HeldPs at hSw; go_simp; (try with_reducible rfl); (try omega))
    simp only [List.setIfInBounds_toArray, List.set_cons_zero, List.set_cons_succ]
    refine held_take (v := bV ⟨x, o, k⟩) 6 rfl (by kernel_rfl) (by kernel_rfl) (by kernel_rfl) (fun _ _ _ h => h) (by rfl) (fun W hSw => exec_build3 _ 0 1 2 (.tmp 59) (.tmp 60) (.tmp 61) rfl _ _ _ (bR ⟨x, o, k⟩) rfl rfl rfl (built_bk3 x o k)) (by assumption) ?_
    simp only [List.setIfInBounds_toArray, List.set_cons_zero, List.set_cons_succ]
    refine held_one 7 rfl (by kernel_rfl) (by rfl) (fun K hK => ?_)
    go_simp
    refine (put_any ⟨x, o, k⟩ HP.out.2.1 HP.out.2.2 HP.out.1 wd (HM.out.up HB5.out) hl9).mono ?_
    rintro e w6 ⟨rfl, s6⟩
    have hn4 : ¬ OwnK pt vb vr w4.heap.size := fun hk => by have := HM.out.low hk; omega
    have hn0 : ¬ OwnK pt vb vr w.heap.size := fun hk => by have := HM.out.low hk; omega
    have HY6 := Lib.hid (HY5.out.kp s6.kp hn4)
    have HX6 := Lib.hid (HX5.out.kp s6.kp hn0)
    have HR := Lib.hid (fun cs => SpTo.boxed HB5.out s6 (Nat.le_refl _) HX5.out.lt hn0 cs)
    refine hK.out _ _ (rangeAll HY6.out) (fun _ => ?_)
    (try simp only [Act.put, List.setIfInBounds_toArray, List.set_cons_zero, List.set_cons_succ])
    clear hK K s6 hn4 hn0 hHeld
    refine wpAnyH_done (by kernel_rfl) ?_ _
    refine NoPanic.normal ?_
    go_wp2_with (first
      | (refine plV rfl (sV x) (exec_load_any 27 (.tmp 10) rfl w4.heap.size 0 (sR x) _ rfl (rangeAll HY6.out) Try.underlying27 rfl sp_info) ?_)
      | (refine plS rfl (exec_store_bxK _ (.tmp 8) (.tmp 64) rfl w.heap.size (sR x) _ rfl rfl HX6.out sp_info rfl (sR_one _)) ?_))
    have HX9 := Lib.hid (HX6.out.row (sR x))
    have HF := Lib.hid (HR.out (sR x).toArray)
    generalize w6.setRow w.heap.size (sR x).toArray = WZ at HX9 HF ⊢
    have z0 : WZ.cell? ⟨w.heap.size, 0, none⟩ = some (.int .i64 x.f) := by rw [HX9.out.cell]; rfl
    have z1 : WZ.cell? ⟨w.heap.size, 1, none⟩ = some (.int .i64 x.l) := by rw [HX9.out.cell]; rfl
    exact bodyPost_ret (v := dRes x 0) (by simp [results, Try.results24, go_sem, dRes, sV, sR, z0, z1]) rfl ⟨fun x1 h1 => by cases h1; exact ⟨rfl, HF.out⟩, fun h1 => by cases h1⟩
theorem draw_any {base pt : Nat} {vb vr : Value} {t : SpS} (o k n : Int) (w : World) (h : SpM w base pt vb vr t) (hl9 : t.l.length ≤ 900) :
    Calls Try.prog 24 #[.pointer (some ⟨pt, 0, none⟩), .int .i64 o, .int .i64 k, .int .i64 n] w fun e w' => e = .returned (dRes (t.draw o k n).2.1 (t.draw o k n).2.2) ∧ SpTo w w' base pt vb vr (t.draw o k n).1 := by
  unfold SpS.draw
  by_cases hbad : o < 1 ∨ k < 0 ∨ 2 < k ∨ n < 1
  · rw [if_pos hbad]
    exact draw_bad o k n w h hbad
  · rw [if_neg hbad]
    have hgood : ∀ (e : Ending) (w' : World), ((∀ x, firstS n (normS (t.left k)) = some x → e = .returned (dRes x 0) ∧ SpTo w w' base pt vb vr (t.put ⟨x, o, k⟩)) ∧ (firstS n (normS (t.left k)) = none → e = .returned (dRes ⟨0, 0⟩ 43) ∧ SpTo w w' base pt vb vr t)) →
        (e = .returned (dRes (match firstS n (normS (t.left k)) with | none => (t, (⟨0, 0⟩ : Spn), (43 : Int)) | some x => (t.put ⟨x, o, k⟩, x, 0)).2.1 (match firstS n (normS (t.left k)) with | none => (t, (⟨0, 0⟩ : Spn), (43 : Int)) | some x => (t.put ⟨x, o, k⟩, x, 0)).2.2) ∧ SpTo w w' base pt vb vr (match firstS n (normS (t.left k)) with | none => (t, (⟨0, 0⟩ : Spn), (43 : Int)) | some x => (t.put ⟨x, o, k⟩, x, 0)).1) := fun e w' h1 => by
      cases hf : firstS n (normS (t.left k)) with
      | none => exact h1.2 hf
      | some x => exact h1.1 x hf
    by_cases hk : k = 0
    · rw [if_neg (show ¬ (0 < k ∧ (t.ar k).f = 0) by omega)]
      exact (draw_zero o k n w h hl9 (by omega) (by omega) hk).mono hgood
    · by_cases hf : (t.ar k).f = 0
      · rw [if_pos (show 0 < k ∧ (t.ar k).f = 0 from ⟨by omega, hf⟩)]
        exact draw_none o k n w h (by omega) (by omega) (by omega) hf
      · rw [if_neg (show ¬ (0 < k ∧ (t.ar k).f = 0) from fun h9 => hf h9.2)]
        exact (draw_area o k n w h hl9 (by omega) (by omega) (by omega) hf).mono hgood
end Go.Proofs.Ytgelbeglffjdaaa
