/- The document's table of stage 13: Put and Delete that are done; of anything. -/
import Derived.Test.YtoliijajhikhgaaR13b
import Derived.Test.YtoliijajhikhgaaSl5
import Derived.Test.YtoliijajhikhgaaSl8
namespace Go.Proofs.Ytoliijajhikhgaa
open Go Go.RowKit

set_option maxRecDepth 100000 in
set_option maxHeartbeats 8000000 in
theorem rput13_ok (room : Int) (a : Option Addr) (n cap : Nat) (L : List (Int × Int)) (x v : Int) (w : World) (hC : IsI13 w (.slice a n cap) L) (h0 : ¬ x < 0) (h1 : ¬ x > 1048575) (hl : L.length ≤ 900000) (hf : ¬ (is13 x L = false ∧ (L.length : Int) = room)) :
    Calls Try.prog 10 #[t3V true room (.slice a n cap), .int .i64 x, .int .i64 v] w (RefT13 w a L true room (put13 x v L) 0) := by
  obtain ⟨rfl, hcap, hcm, _⟩ := hC.shape
  unfold maxLen at hcm
  have HZ := Lib.hid (putB13_new w (t3R true room (.slice a L.length cap)))
  have ez : (#[.bool false, .int .i64 0, .slice none 0 0] : Array Value) = (t3R false 0 (.slice none 0 0)).toArray := rfl
  have HC := Lib.hid hC
  have c0 : ((w.alloc (.cells (t3R true room (.slice a L.length cap)).toArray 28)).alloc (.cells (t3R false 0 (.slice none 0 0)).toArray 28)).cell? ⟨w.heap.size, 0, none⟩ = some (.bool true) := by rw [HZ.out.1.cell]; rfl
  have c2 : ((w.alloc (.cells (t3R true room (.slice a L.length cap)).toArray 28)).alloc (.cells (t3R false 0 (.slice none 0 0)).toArray 28)).cell? ⟨w.heap.size, 2, none⟩ = some (.slice a L.length cap) := by rw [HZ.out.1.cell]; rfl
  have HF := Lib.hid (rfind13 a L.length cap L x _ (hC.below HZ.out.2.2) (by omega))
  have hix := idx13_le x L
  have hjT : is13 x L = true → idx13 x L + 1 ≤ L.length := fun h => by
    obtain ⟨u, hu, _⟩ := is13_parts h
    exact (List.getElem?_eq_some_iff.1 hu).1
  have HJT := Lib.hid hjT
  have hpf : put13 x v L = L.take (idx13 x L) ++ (x, v) :: L.drop (if is13 x L = true then idx13 x L + 1 else idx13 x L) := rfl
  have hhf0 : is13 x L = true ∨ (is13 x L = false ∧ ((L.length : Int) == room) = false) := by
    cases h : is13 x L
    · exact .inr ⟨rfl, by simpa using fun e => hf ⟨h, e⟩⟩
    · exact .inl rfl
  have HHF := Lib.hid hhf0
  clear hjT hhf0 hf
  generalize hjj : idx13 x L = j at *
  generalize hbb : is13 x L = ib at *
  have HPF := Lib.hid hpf
  clear hpf hjj hbb
  unfold RefT13
  rw [show t3V true room (.slice a L.length cap) = .agg (t3R true room (.slice a L.length cap)).toArray from rfl]
  clear hC
  go_enter Try.func10, Try.ntmps10
  go_wp2_with (go_at_call 20; refine HF.out.mono ?_; rintro e w2 ⟨rfl, b2⟩; refine Hid.out ?_)
  refine Lib.hid ?_
  have z2 := HZ.out.up b2
  clear HZ c0 c2 b2 HF
  have c3 : w2.cell? ⟨w.heap.size, 2, none⟩ = some (.slice a L.length cap) := by rw [z2.1.cell]; rfl
  have c1 : w2.cell? ⟨w.heap.size, 1, none⟩ = some (.int .i64 room) := by rw [z2.1.cell]; rfl
  obtain ⟨ti, hti, htz, hts, htb⟩ := info_parts i13_infoF
  have hCt := (HC.out.below z2.2.2).take j (by omega)
  have htl : (L.take j).length = j := by rw [List.length_take]; omega
  have HCT := Lib.hid hCt
  have HZ2 := Lib.hid z2
  have hws := z2.2.2.size
  clear z2 hCt
  rcases HHF.out with rfl | ⟨rfl, hqq⟩
  · have hjl := HJT.out rfl
    go_wp2_with (first
      | (refine plV rfl (.slice a j cap) (slice_to13 (.tmp 42) (.tmp 43) rfl a L.length cap j rfl rfl (by omega)) ?_)
      | (at_builtin; refine append_flat rfl (.tmp 40) (.tmp 44) 26 rfl w.heap.size 46 ti (iV (0, 0)) 16 Try.underlying26 hti htz hts htb rfl (by decide) (by decide) (.slice none 0 0) 0 [] rfl (World.ownsRow_nil _ _ _ _) a j cap (L.take j) rfl HCT.out (iR_ones _) (by rw [htl]; omega) (by omega) ?_; intro v3 W3 hown hgr; refine Hid.out ?_))
    refine Lib.hid ?_
    have z3 := HZ2.out.grown hgr (fun k e => by cases e)
    have hws3 := z3.2.2.size
    rw [List.nil_append, Nat.zero_add, htl] at hown
    have hbA : Below W3.heap.size W3 (W3.alloc (.cells (iR (x, v)).toArray 46)) := (Below.refl _ _).alloc (Nat.le_refl _) _
    have z4 := z3.up hbA
    have hown4 := own_below hown hbA
    have HO1 := Lib.hid (isI_one (x := (x, v)) (show Bx (W3.alloc (.cells (iR (x, v)).toArray 46)) W3.heap.size 46 (iR (x, v)) from Bx.new W3 _ _))
    have HOWN4 := Lib.hid hown4
    have HZ4 := Lib.hid z4
    have hws4 := z4.2.2.size
    clear hgr HCT HZ2 c3 c1 hown z3 hbA z4 hown4 hws hws3
    go_wp2_with (first
      | (refine plV rfl (iV (x, v)) (exec_build2 _ 0 1 (.tmp 47) (.tmp 48) rfl (.int .i64 x) (.int .i64 v) (iR (x, v)) rfl rfl (built_i13 x v)) ?_)
      | (refine plV rfl (.slice (some ⟨W3.heap.size, 0, none⟩) 1 1) (exec_one_i13 (.tmp 49) rfl (x, v) rfl _ rfl) ?_)
      | (at_builtin; refine append_flat rfl (.tmp 46) (.tmp 50) 26 rfl w.heap.size 46 ti (iV (0, 0)) 16 Try.underlying26 hti htz hts htb rfl (by decide) (by decide) v3 j ((L.take j).flatMap iR) rfl HOWN4.out (some ⟨W3.heap.size, 0, none⟩) 1 1 [(x, v)] rfl HO1.out (iR_ones _) (by simp; omega) (by omega) ?_; intro v5 W5 hown hgr; refine Hid.out ?_))
    refine Lib.hid ?_
    have z5 := HZ4.out.grown hgr (own_apart13 HZ4.out HOWN4.out)
    have hws5 := z5.2.2.size
    have c3 : W5.cell? ⟨w.heap.size, 2, none⟩ = some (.slice a L.length cap) := by rw [z5.1.cell]; rfl
    rw [show ([(x, v)] : List (Int × Int)).length = 1 from rfl] at hown
    obtain ⟨ad, had⟩ : ∃ ad, (if cap = (j + 1) then a else a.map (fun x => x.add ((j + 1) * 2))) = ad := ⟨_, rfl⟩
    have hcd := isI_from (HC.out.below z5.2.2) (j + 1) (by omega)
    rw [had] at hcd
    have HCD := Lib.hid hcd
    have HAD := Lib.hid had
    clear hcd had
    have hdl : (L.drop (j + 1)).length = L.length - (j + 1) := List.length_drop
    have HOWN5 := Lib.hid hown
    have HZ5 := Lib.hid z5
    clear hgr HO1 HOWN4 HZ4 z5 hown hws4
    go_wp2_with (first
      | (refine plV rfl (.slice ad (L.length - (j + 1)) (cap - (j + 1))) (HAD.out ▸ slice_from13 (.tmp 57) (.tmp 58) rfl a L.length cap (j + 1) rfl rfl (by omega) hcap) ?_)
      | (at_builtin; refine append_flat rfl (.tmp 55) (.tmp 59) 26 rfl w.heap.size 46 ti (iV (0, 0)) 16 Try.underlying26 hti htz hts htb rfl (by decide) (by decide) v5 (j + 1) ((L.take j).flatMap iR ++ [(x, v)].flatMap iR) rfl HOWN5.out _ _ _ (L.drop (j + 1)) rfl HCD.out (iR_ones _) (by rw [hdl]; omega) (by omega) ?_; intro v6 W6 hown hgr; refine Hid.out ?_))
    refine Lib.hid ?_
    have z6 := HZ5.out.grown hgr (own_apart13 HZ5.out HOWN5.out)
    have hfin : (L.take j).flatMap iR ++ [(x, v)].flatMap iR ++ (L.drop (j + 1)).flatMap iR = (put13 x v L).flatMap iR := by
      rw [HPF.out]
      simp [List.flatMap_append]
    have hflen : j + 1 + (L.drop (j + 1)).length = (put13 x v L).length := by
      rw [HPF.out, List.length_append, htl, List.length_cons]
      simp only [if_true]
      simp only [List.length_drop]
      omega
    rw [hfin, hflen] at hown
    obtain ⟨a6, cap6, rfl⟩ := own_slice13 hown
    have c36 : W6.cell? ⟨w.heap.size, 2, none⟩ = some (.slice a L.length cap) := by rw [z6.1.cell]; rfl
    have y36 := z6.1.frozen 2
    have hs6 := z6.1.set 2 (.slice a6 (put13 x v L).length cap6)
    rw [show (t3R true room (.slice a L.length cap)).set 2 (.slice a6 (put13 x v L).length cap6) = t3R true room (.slice a6 (put13 x v L).length cap6) from rfl] at hs6
    have hr6 := z6.2.1.setOther (k := w.heap.size) (by omega) 2 (.slice a6 (put13 x v L).length cap6)
    have hb6 := z6.2.2.setCell (p := ⟨w.heap.size, 2, none⟩) (Nat.le_refl _) (.slice a6 (put13 x v L).length cap6)
    have hT6 : ∀ k, Value.ownBlock (.slice a6 (put13 x v L).length cap6) = some k → k ≠ w.heap.size ∧ k ≠ w.heap.size + 1 := fun k e => by
      have := own_apart13 z6 hown k e
      omega
    have hown7 := own_keep (w' := (W6.setCell ⟨w.heap.size, 2, none⟩ (.slice a6 (put13 x v L).length cap6)).setRow (w.heap.size + 1) (t3R true room (.slice a6 (put13 x v L).length cap6)).toArray) hown (fun k e => (setRow_other _ _ k _ (hT6 k e).2).trans (Below.heap_setCell W6 _ _ k (fun e2 => (hT6 k e).1 e2)))
    have R7 := Lib.hid (rangeAll hs6)
    have H7 := Lib.hid (⟨hr6, hb6, IsC.of_owned (iR_all _) hown7, fun x e => (own_apart13 z6 hown x.block (by rw [e]; rfl)).1⟩ : _ ∧ _ ∧ _ ∧ ∀ x : Addr, a6 = some x → w.heap.size ≤ x.block)
    clear hgr HOWN5 HZ5 z6 hown hs6 hr6 hb6 hown7 HCD hT6
    obtain ⟨LN, hLN⟩ : ∃ LN, LN = (put13 x v L).length := ⟨_, rfl⟩
    rw [← hLN] at R7 H7 ⊢
    have HLN := Lib.hid hLN
    clear hLN
    go_wp2_with (first
      | (refine plV rfl (t3V true room (.slice a6 LN cap6)) (exec_load_any _ (.tmp 3) rfl w.heap.size 0 (t3R true room (.slice a6 LN cap6)) _ rfl R7.out Try.underlying28 rfl t3_info) ?_)
      | (refine wpList_store_bx rfl 28 (.tmp 6) (.tmp 63) rfl (w.heap.size + 1) (t3R true room (.slice a6 LN cap6)) (t3R false 0 (.slice none 0 0)) rfl rfl H7.out.1 t3_info rfl (t3_one _ _ _ rfl) ?_; refine Hid.out ?_))
    refine Lib.hid ?_
    go_wp2
    exact bodyPost_ret (results_t3 Try.results10 _ _ (w.heap.size + 1) (t3R true room (.slice a6 LN cap6)) rfl rfl (H7.out.1.row _)) rfl ⟨⟨a6, _, cap6, rfl, H7.out.2.2.1, .inr H7.out.2.2.2⟩, below_row H7.out.2.1 (by omega) _⟩
  · go_wp2_with (first
      | (refine plV rfl (.slice a j cap) (slice_to13 (.tmp 42) (.tmp 43) rfl a L.length cap j rfl rfl (by omega)) ?_)
      | (at_builtin; refine append_flat rfl (.tmp 40) (.tmp 44) 26 rfl w.heap.size 46 ti (iV (0, 0)) 16 Try.underlying26 hti htz hts htb rfl (by decide) (by decide) (.slice none 0 0) 0 [] rfl (World.ownsRow_nil _ _ _ _) a j cap (L.take j) rfl HCT.out (iR_ones _) (by rw [htl]; omega) (by omega) ?_; intro v3 W3 hown hgr; refine Hid.out ?_))
    refine Lib.hid ?_
    have z3 := HZ2.out.grown hgr (fun k e => by cases e)
    have hws3 := z3.2.2.size
    rw [List.nil_append, Nat.zero_add, htl] at hown
    have hbA : Below W3.heap.size W3 (W3.alloc (.cells (iR (x, v)).toArray 46)) := (Below.refl _ _).alloc (Nat.le_refl _) _
    have z4 := z3.up hbA
    have hown4 := own_below hown hbA
    have HO1 := Lib.hid (isI_one (x := (x, v)) (show Bx (W3.alloc (.cells (iR (x, v)).toArray 46)) W3.heap.size 46 (iR (x, v)) from Bx.new W3 _ _))
    have HOWN4 := Lib.hid hown4
    have HZ4 := Lib.hid z4
    have hws4 := z4.2.2.size
    clear hgr HCT HZ2 c3 c1 hown z3 hbA z4 hown4 hws hws3
    go_wp2_with (first
      | (refine plV rfl (iV (x, v)) (exec_build2 _ 0 1 (.tmp 47) (.tmp 48) rfl (.int .i64 x) (.int .i64 v) (iR (x, v)) rfl rfl (built_i13 x v)) ?_)
      | (refine plV rfl (.slice (some ⟨W3.heap.size, 0, none⟩) 1 1) (exec_one_i13 (.tmp 49) rfl (x, v) rfl _ rfl) ?_)
      | (at_builtin; refine append_flat rfl (.tmp 46) (.tmp 50) 26 rfl w.heap.size 46 ti (iV (0, 0)) 16 Try.underlying26 hti htz hts htb rfl (by decide) (by decide) v3 j ((L.take j).flatMap iR) rfl HOWN4.out (some ⟨W3.heap.size, 0, none⟩) 1 1 [(x, v)] rfl HO1.out (iR_ones _) (by simp; omega) (by omega) ?_; intro v5 W5 hown hgr; refine Hid.out ?_))
    refine Lib.hid ?_
    have z5 := HZ4.out.grown hgr (own_apart13 HZ4.out HOWN4.out)
    have hws5 := z5.2.2.size
    have c3 : W5.cell? ⟨w.heap.size, 2, none⟩ = some (.slice a L.length cap) := by rw [z5.1.cell]; rfl
    rw [show ([(x, v)] : List (Int × Int)).length = 1 from rfl] at hown
    obtain ⟨ad, had⟩ : ∃ ad, (if cap = j then a else a.map (fun x => x.add (j * 2))) = ad := ⟨_, rfl⟩
    have hcd := isI_from (HC.out.below z5.2.2) j (by omega)
    rw [had] at hcd
    have HCD := Lib.hid hcd
    have HAD := Lib.hid had
    clear hcd had
    have hdl : (L.drop j).length = L.length - j := List.length_drop
    have HOWN5 := Lib.hid hown
    have HZ5 := Lib.hid z5
    clear hgr HO1 HOWN4 HZ4 z5 hown hws4
    go_wp2_with (first
      | (refine plV rfl (.slice ad (L.length - j) (cap - j)) (HAD.out ▸ slice_from13 (.tmp 57) (.tmp 58) rfl a L.length cap j rfl rfl (by omega) hcap) ?_)
      | (at_builtin; refine append_flat rfl (.tmp 55) (.tmp 59) 26 rfl w.heap.size 46 ti (iV (0, 0)) 16 Try.underlying26 hti htz hts htb rfl (by decide) (by decide) v5 (j + 1) ((L.take j).flatMap iR ++ [(x, v)].flatMap iR) rfl HOWN5.out _ _ _ (L.drop j) rfl HCD.out (iR_ones _) (by rw [hdl]; omega) (by omega) ?_; intro v6 W6 hown hgr; refine Hid.out ?_))
    refine Lib.hid ?_
    have z6 := HZ5.out.grown hgr (own_apart13 HZ5.out HOWN5.out)
    have hfin : (L.take j).flatMap iR ++ [(x, v)].flatMap iR ++ (L.drop j).flatMap iR = (put13 x v L).flatMap iR := by
      rw [HPF.out]
      simp [List.flatMap_append]
    have hflen : j + 1 + (L.drop j).length = (put13 x v L).length := by
      rw [HPF.out, List.length_append, htl, List.length_cons]
      simp only [Bool.false_eq_true, if_false]
      simp only [List.length_drop]
      omega
    rw [hfin, hflen] at hown
    obtain ⟨a6, cap6, rfl⟩ := own_slice13 hown
    have c36 : W6.cell? ⟨w.heap.size, 2, none⟩ = some (.slice a L.length cap) := by rw [z6.1.cell]; rfl
    have y36 := z6.1.frozen 2
    have hs6 := z6.1.set 2 (.slice a6 (put13 x v L).length cap6)
    rw [show (t3R true room (.slice a L.length cap)).set 2 (.slice a6 (put13 x v L).length cap6) = t3R true room (.slice a6 (put13 x v L).length cap6) from rfl] at hs6
    have hr6 := z6.2.1.setOther (k := w.heap.size) (by omega) 2 (.slice a6 (put13 x v L).length cap6)
    have hb6 := z6.2.2.setCell (p := ⟨w.heap.size, 2, none⟩) (Nat.le_refl _) (.slice a6 (put13 x v L).length cap6)
    have hT6 : ∀ k, Value.ownBlock (.slice a6 (put13 x v L).length cap6) = some k → k ≠ w.heap.size ∧ k ≠ w.heap.size + 1 := fun k e => by
      have := own_apart13 z6 hown k e
      omega
    have hown7 := own_keep (w' := (W6.setCell ⟨w.heap.size, 2, none⟩ (.slice a6 (put13 x v L).length cap6)).setRow (w.heap.size + 1) (t3R true room (.slice a6 (put13 x v L).length cap6)).toArray) hown (fun k e => (setRow_other _ _ k _ (hT6 k e).2).trans (Below.heap_setCell W6 _ _ k (fun e2 => (hT6 k e).1 e2)))
    have R7 := Lib.hid (rangeAll hs6)
    have H7 := Lib.hid (⟨hr6, hb6, IsC.of_owned (iR_all _) hown7, fun x e => (own_apart13 z6 hown x.block (by rw [e]; rfl)).1⟩ : _ ∧ _ ∧ _ ∧ ∀ x : Addr, a6 = some x → w.heap.size ≤ x.block)
    clear hgr HOWN5 HZ5 z6 hown hs6 hr6 hb6 hown7 HCD hT6
    obtain ⟨LN, hLN⟩ : ∃ LN, LN = (put13 x v L).length := ⟨_, rfl⟩
    rw [← hLN] at R7 H7 ⊢
    have HLN := Lib.hid hLN
    clear hLN
    go_wp2_with (first
      | (refine plV rfl (t3V true room (.slice a6 LN cap6)) (exec_load_any _ (.tmp 3) rfl w.heap.size 0 (t3R true room (.slice a6 LN cap6)) _ rfl R7.out Try.underlying28 rfl t3_info) ?_)
      | (refine wpList_store_bx rfl 28 (.tmp 6) (.tmp 63) rfl (w.heap.size + 1) (t3R true room (.slice a6 LN cap6)) (t3R false 0 (.slice none 0 0)) rfl rfl H7.out.1 t3_info rfl (t3_one _ _ _ rfl) ?_; refine Hid.out ?_))
    refine Lib.hid ?_
    go_wp2
    exact bodyPost_ret (results_t3 Try.results10 _ _ (w.heap.size + 1) (t3R true room (.slice a6 LN cap6)) rfl rfl (H7.out.1.row _)) rfl ⟨⟨a6, _, cap6, rfl, H7.out.2.2.1, .inr H7.out.2.2.2⟩, below_row H7.out.2.1 (by omega) _⟩
set_option maxRecDepth 100000 in
set_option maxHeartbeats 8000000 in
theorem rdel13_some (room : Int) (a : Option Addr) (n cap : Nat) (L : List (Int × Int)) (x : Int) (w : World) (hC : IsI13 w (.slice a n cap) L) (h0 : ¬ x < 0) (h1 : ¬ x > 1048575) (hl : L.length ≤ 900000) (hi : is13 x L = true) :
    Calls Try.prog 12 #[t3V true room (.slice a n cap), .int .i64 x] w (RefT13 w a L true room (del13 x L) 0) := by
  obtain ⟨rfl, hcap, hcm, _⟩ := hC.shape
  unfold maxLen at hcm
  have HZ := Lib.hid (putB13_new w (t3R true room (.slice a L.length cap)))
  have ez : (#[.bool false, .int .i64 0, .slice none 0 0] : Array Value) = (t3R false 0 (.slice none 0 0)).toArray := rfl
  have HC := Lib.hid hC
  have c0 : ((w.alloc (.cells (t3R true room (.slice a L.length cap)).toArray 28)).alloc (.cells (t3R false 0 (.slice none 0 0)).toArray 28)).cell? ⟨w.heap.size, 0, none⟩ = some (.bool true) := by rw [HZ.out.1.cell]; rfl
  have c2 : ((w.alloc (.cells (t3R true room (.slice a L.length cap)).toArray 28)).alloc (.cells (t3R false 0 (.slice none 0 0)).toArray 28)).cell? ⟨w.heap.size, 2, none⟩ = some (.slice a L.length cap) := by rw [HZ.out.1.cell]; rfl
  have HF := Lib.hid (rfind13 a L.length cap L x _ (hC.below HZ.out.2.2) (by omega))
  have hjl : idx13 x L + 1 ≤ L.length := by
    obtain ⟨u, hu, _⟩ := is13_parts hi
    exact (List.getElem?_eq_some_iff.1 hu).1
  have hpf : del13 x L = L.take (idx13 x L) ++ L.drop (idx13 x L + 1) := rfl
  rw [hi] at HF
  clear hi
  generalize hjj : idx13 x L = j at *
  have HPF := Lib.hid hpf
  clear hpf hjj
  unfold RefT13
  rw [show t3V true room (.slice a L.length cap) = .agg (t3R true room (.slice a L.length cap)).toArray from rfl]
  clear hC
  go_enter Try.func12, Try.ntmps12
  go_wp2_with (go_at_call 20; refine HF.out.mono ?_; rintro e w2 ⟨rfl, b2⟩; refine Hid.out ?_)
  refine Lib.hid ?_
  have z2 := HZ.out.up b2
  clear HZ c0 c2 b2 HF
  have c3 : w2.cell? ⟨w.heap.size, 2, none⟩ = some (.slice a L.length cap) := by rw [z2.1.cell]; rfl
  have c1 : w2.cell? ⟨w.heap.size, 1, none⟩ = some (.int .i64 room) := by rw [z2.1.cell]; rfl
  obtain ⟨ti, hti, htz, hts, htb⟩ := info_parts i13_infoF
  have hCt := (HC.out.below z2.2.2).take j (by omega)
  have htl : (L.take j).length = j := by rw [List.length_take]; omega
  have HCT := Lib.hid hCt
  have HZ2 := Lib.hid z2
  have hws := z2.2.2.size
  clear z2 hCt
  go_wp2_with (first
    | (refine plV rfl (.slice a j cap) (slice_to13 (.tmp 32) (.tmp 33) rfl a L.length cap j rfl rfl (by omega)) ?_)
    | (at_builtin; refine append_flat rfl (.tmp 30) (.tmp 34) 26 rfl w.heap.size 46 ti (iV (0, 0)) 16 Try.underlying26 hti htz hts htb rfl (by decide) (by decide) (.slice none 0 0) 0 [] rfl (World.ownsRow_nil _ _ _ _) a j cap (L.take j) rfl HCT.out (iR_ones _) (by rw [htl]; omega) (by omega) ?_; intro v5 W5 hown hgr; refine Hid.out ?_))
  refine Lib.hid ?_
  have z5 := HZ2.out.grown hgr (fun k e => by cases e)
  have hws5 := z5.2.2.size
  rw [List.nil_append, Nat.zero_add, htl] at hown
  clear c3 c1
  have c3 : W5.cell? ⟨w.heap.size, 2, none⟩ = some (.slice a L.length cap) := by rw [z5.1.cell]; rfl
  obtain ⟨ad, had⟩ : ∃ ad, (if cap = (j + 1) then a else a.map (fun x => x.add ((j + 1) * 2))) = ad := ⟨_, rfl⟩
  have hcd := isI_from (HC.out.below z5.2.2) (j + 1) (by omega)
  rw [had] at hcd
  have HCD := Lib.hid hcd
  have HAD := Lib.hid had
  clear hcd had
  have hdl : (L.drop (j + 1)).length = L.length - (j + 1) := List.length_drop
  have HOWN5 := Lib.hid hown
  have HZ5 := Lib.hid z5
  clear hgr HZ2 HCT z5 hown hws
  go_wp2_with (first
    | (refine plV rfl (.slice ad (L.length - (j + 1)) (cap - (j + 1))) (HAD.out ▸ slice_from13 (.tmp 38) (.tmp 40) rfl a L.length cap (j + 1) rfl rfl (by omega) hcap) ?_)
    | (at_builtin; refine append_flat rfl (.tmp 36) (.tmp 41) 26 rfl w.heap.size 46 ti (iV (0, 0)) 16 Try.underlying26 hti htz hts htb rfl (by decide) (by decide) v5 j ((L.take j).flatMap iR) rfl HOWN5.out _ _ _ (L.drop (j + 1)) rfl HCD.out (iR_ones _) (by rw [hdl]; omega) (by omega) ?_; intro v6 W6 hown hgr; refine Hid.out ?_))
  refine Lib.hid ?_
  have z6 := HZ5.out.grown hgr (own_apart13 HZ5.out HOWN5.out)
  have hfin : (L.take j).flatMap iR ++ (L.drop (j + 1)).flatMap iR = (del13 x L).flatMap iR := by
    rw [HPF.out]
    simp [List.flatMap_append]
  have hflen : j + (L.drop (j + 1)).length = (del13 x L).length := by
    rw [HPF.out, List.length_append, htl]
  rw [hfin, hflen] at hown
  obtain ⟨a6, cap6, rfl⟩ := own_slice13 hown
  have c36 : W6.cell? ⟨w.heap.size, 2, none⟩ = some (.slice a L.length cap) := by rw [z6.1.cell]; rfl
  have y36 := z6.1.frozen 2
  have hs6 := z6.1.set 2 (.slice a6 (del13 x L).length cap6)
  rw [show (t3R true room (.slice a L.length cap)).set 2 (.slice a6 (del13 x L).length cap6) = t3R true room (.slice a6 (del13 x L).length cap6) from rfl] at hs6
  have hr6 := z6.2.1.setOther (k := w.heap.size) (by omega) 2 (.slice a6 (del13 x L).length cap6)
  have hb6 := z6.2.2.setCell (p := ⟨w.heap.size, 2, none⟩) (Nat.le_refl _) (.slice a6 (del13 x L).length cap6)
  have hT6 : ∀ k, Value.ownBlock (.slice a6 (del13 x L).length cap6) = some k → k ≠ w.heap.size ∧ k ≠ w.heap.size + 1 := fun k e => by
    have := own_apart13 z6 hown k e
    omega
  have hown7 := own_keep (w' := (W6.setCell ⟨w.heap.size, 2, none⟩ (.slice a6 (del13 x L).length cap6)).setRow (w.heap.size + 1) (t3R true room (.slice a6 (del13 x L).length cap6)).toArray) hown (fun k e => (setRow_other _ _ k _ (hT6 k e).2).trans (Below.heap_setCell W6 _ _ k (fun e2 => (hT6 k e).1 e2)))
  have R7 := Lib.hid (rangeAll hs6)
  have H7 := Lib.hid (⟨hr6, hb6, IsC.of_owned (iR_all _) hown7, fun x e => (own_apart13 z6 hown x.block (by rw [e]; rfl)).1⟩ : _ ∧ _ ∧ _ ∧ ∀ x : Addr, a6 = some x → w.heap.size ≤ x.block)
  clear hgr HOWN5 HZ5 z6 hown hs6 hr6 hb6 hown7 HCD hT6
  obtain ⟨LN, hLN⟩ : ∃ LN, LN = (del13 x L).length := ⟨_, rfl⟩
  rw [← hLN] at R7 H7 ⊢
  have HLN := Lib.hid hLN
  clear hLN
  go_wp2_with (first
    | (refine plV rfl (t3V true room (.slice a6 LN cap6)) (exec_load_any _ (.tmp 2) rfl w.heap.size 0 (t3R true room (.slice a6 LN cap6)) _ rfl R7.out Try.underlying28 rfl t3_info) ?_)
    | (refine wpList_store_bx rfl 28 (.tmp 4) (.tmp 45) rfl (w.heap.size + 1) (t3R true room (.slice a6 LN cap6)) (t3R false 0 (.slice none 0 0)) rfl rfl H7.out.1 t3_info rfl (t3_one _ _ _ rfl) ?_; refine Hid.out ?_))
  refine Lib.hid ?_
  go_wp2
  exact bodyPost_ret (results_t3 Try.results12 _ _ (w.heap.size + 1) (t3R true room (.slice a6 LN cap6)) rfl rfl (H7.out.1.row _)) rfl ⟨⟨a6, _, cap6, rfl, H7.out.2.2.1, .inr H7.out.2.2.2⟩, below_row H7.out.2.1 (by omega) _⟩
/-- what the document's Put and Delete answer, at a table that is one -/
theorem rput13_any (room : Nat) (a : Option Addr) (n cap : Nat) (L : List (Int × Int)) (x v : Int) (w : World) (hC : IsI13 w (.slice a n cap) L) (hl : L.length ≤ 900000) (hr : L.length ≤ room) :
    Calls Try.prog 10 #[t3V true (room : Int) (.slice a n cap), .int .i64 x, .int .i64 v] w (RefT13 w a L true (room : Int) (putQ room x v L).2 (putQ room x v L).1) := by
  have hc : chk13 x = if x < 0 ∨ 1048575 < x then 40 else 0 := rfl
  unfold putQ
  by_cases h0 : x < 0
  · rw [if_pos (.inl h0)] at hc
    rw [hc, if_neg (by decide)]
    exact rput13_low (room : Int) a n cap L x v w hC h0
  · by_cases h1 : x > 1048575
    · rw [if_pos (.inr h1)] at hc
      rw [hc, if_neg (by decide)]
      exact rput13_high (room : Int) a n cap L x v w hC h0 h1
    · rw [if_neg (by omega)] at hc
      rw [hc, if_pos rfl]
      by_cases hf : is13 x L = false ∧ room ≤ L.length
      · rw [if_pos hf]
        exact rput13_full (room : Int) a n cap L x v w hC h0 h1 hl hf.1 (by omega)
      · rw [if_neg hf]
        exact rput13_ok (room : Int) a n cap L x v w hC h0 h1 hl (fun h => hf ⟨h.1, by omega⟩)
theorem rdel13_any (room : Int) (a : Option Addr) (n cap : Nat) (L : List (Int × Int)) (x : Int) (w : World) (hC : IsI13 w (.slice a n cap) L) (hl : L.length ≤ 900000) :
    Calls Try.prog 12 #[t3V true room (.slice a n cap), .int .i64 x] w (RefT13 w a L true room (delQ x L).2 (delQ x L).1) := by
  have hc : chk13 x = if x < 0 ∨ 1048575 < x then 40 else 0 := rfl
  unfold delQ
  by_cases h0 : x < 0
  · rw [if_pos (.inl h0)] at hc
    rw [hc, if_neg (by decide)]
    exact rdel13_low room a n cap L x w hC h0
  · by_cases h1 : x > 1048575
    · rw [if_pos (.inr h1)] at hc
      rw [hc, if_neg (by decide)]
      exact rdel13_high room a n cap L x w hC h0 h1
    · rw [if_neg (by omega)] at hc
      rw [hc, if_pos rfl]
      cases hi : is13 x L with
      | false =>
        rw [if_neg (by decide)]
        exact rdel13_none room a n cap L x w hC h0 h1 hl hi
      | true =>
        rw [if_pos rfl]
        exact rdel13_some room a n cap L x w hC h0 h1 hl hi
end Go.Proofs.Ytoliijajhikhgaa
