/- PrefixPairs returns true, whatever it is given, and turns no old memory. -/
import Derived.Test.YtlbgmpjeckigjaaDoorAw8
import Derived.Test.YtlbgmpjeckigjaaDoorRp3
namespace Go.Proofs.YtlbgmpjeckigjaaDoor
open Go Go.RowKit

theorem comV_len (p q : Pfx) : (comV p q).addr.length = 16 := by
  unfold comV
  split
  · exact of_len _ _ _
  · rfl
/-- What is held: the prefixes and both common ones. -/
def PrZ (w : World) (p q X : Pfx) (g6 g8 : Nat) (W : World) : Prop := PairZ w p q W ∧ PfxT W g6 X ∧ PfxT W g8 X
theorem PrZ.up {w : World} {p q X : Pfx} {g6 g8 : Nat} {W W' : World} (h : PrZ w p q X g6 g8 W) (hb : Below W.heap.size W W') : PrZ w p q X g6 g8 W' := ⟨h.1.up hb, h.2.1.up hb, h.2.2.up hb⟩
set_option maxRecDepth 100000 in
set_option maxHeartbeats 8000000 in
theorem ppairs_walk (p q : Pfx) (w : World) (f : p.addr.length = 16) (_f0 : -9223372036854775808 ≤ p.len) (_f1 : p.len ≤ 9223372036854775807) (g : q.addr.length = 16) (_g0 : -9223372036854775808 ≤ q.len) (_g1 : q.len ≤ 9223372036854775807) (hE : Env8 w) :
    Calls Tryd.prog 4 #[p.val, q.val] w fun e w' => e = .returned (.bool true) ∧ Below w.heap.size w w' := by
  have HA := Lib.hid (fun W h => awake8_any W h)
  have Z : Hid (PairZ w p q ((w.alloc (.cells p.cells 24)).alloc (.cells q.cells 24)) ∧ Env8 ((w.alloc (.cells p.cells 24)).alloc (.cells q.cells 24))) := ⟨pairZ_new w p q, (hE.al _).al _⟩
  have HF := Lib.hid f
  have HG := Lib.hid g
  have HC1 := Lib.hid (fun W => common_any p q W f g)
  have HC2 := Lib.hid (fun W => qcommon_any p q W f g)
  have H1 := Lib.hid (fun W => covers_any p q W f g)
  have H2 := Lib.hid (fun W => qcovers_any p q W f g)
  have H3 := Lib.hid (fun W => compare_any p q W f g)
  have H4 := Lib.hid (fun W => qcompare_any p q W f g)
  have HX := Lib.hid (comV_len p q)
  rw [show p.val = .agg p.cells from rfl, show q.val = .agg q.cells from rfl]
  clear f g _f0 _f1 _g0 _g1 hE
  generalize comV p q = X at *
  generalize (p.six == q.six) = b at *
  generalize covP p q = c at *
  generalize cmpP p q = r at *
  go_enter Tryd.func4, Tryd.ntmps4
  go_wp2_with (go_at_call 9; refine (HA.out _ Z.out.2).mono ?_; rintro e w1 ⟨rfl, b1⟩; refine Hid.out ?_)
  refine Lib.hid ?_
  have Z1 := Lib.hid (Z.out.1.up b1)
  clear Z b1 HA
  rw [show p.val = .agg p.cells from rfl, show q.val = .agg q.cells from rfl] at HC1 HC2
  go_wp2_with (first | (refine wpList_load_pfx rfl (.tmp 2) rfl w.heap.size p HF.out rfl Z1.out.1 ?_) | (refine wpList_load_pfx rfl (.tmp 3) rfl (w.heap.size + 1) q HG.out rfl Z1.out.2.1 ?_) | (go_at_call 20; refine (HC1.out _).mono ?_; rintro e w2 ⟨rfl, b2⟩; refine Hid.out ?_))
  refine Lib.hid ?_
  have Z2 : Hid (PairZ w p q (w2.alloc (.cells X.cells 24)) ∧ PfxT (w2.alloc (.cells X.cells 24)) w2.heap.size X) := ⟨(Z1.out.up b2).al _, pfxT_new w2 X⟩
  clear Z1 b2 HC1
  go_wp2_with (first | (refine wpList_store_newP rfl (.tmp 6) (.tmp 17) rfl X HX.out _ rfl rfl rfl ?_) | (refine wpList_load_pfx rfl (.tmp 2) rfl w.heap.size p HF.out rfl Z2.out.1.1 ?_) | (refine wpList_load_pfx rfl (.tmp 3) rfl (w.heap.size + 1) q HG.out rfl Z2.out.1.2.1 ?_) | (go_at_call 21; refine (HC2.out _).mono ?_; rintro e w3 ⟨rfl, b3⟩; refine Hid.out ?_))
  refine Lib.hid ?_
  have Z3 : Hid (PrZ w p q X w2.heap.size w3.heap.size (w3.alloc (.cells X.cells 24))) := ⟨(Z2.out.1.up b3).al _, (Z2.out.2.up b3).al _, pfxT_new w3 X⟩
  clear Z2 b3 HC2
  generalize w2.heap.size = g6 at *
  go_wp2_with (first | (refine wpList_store_newP rfl (.tmp 8) (.tmp 23) rfl X HX.out _ rfl rfl rfl ?_))
  generalize w3.heap.size = g8 at *
  refine wp_region_noPanic ?_
  refine wp_region_held_drew (S := PrZ w p q X g6 g8) (by kernel_rfl) ⟨Z3.out.1.drew, Z3.out.2.1, Z3.out.2.2⟩ (fun hHeld => ?_)
  clear Z3
  refine held_take (v := p.val) 0 rfl (by kernel_rfl) (by kernel_rfl) (by kernel_rfl) (fun _ _ _ h => h) (by rfl) (fun W hSw => exec_load_pfx (.tmp 2) rfl w.heap.size p HF.out rfl hSw.1.1) (by assumption) ?_
  simp only [List.setIfInBounds_toArray, List.set_cons_zero, List.set_cons_succ]
  refine held_take (v := q.val) 1 rfl (by kernel_rfl) (by kernel_rfl) (by kernel_rfl) (fun _ _ _ h => h) (by rfl) (fun W hSw => exec_load_pfx (.tmp 3) rfl (w.heap.size + 1) q HG.out rfl hSw.1.2.1) (by assumption) ?_
  simp only [List.setIfInBounds_toArray, List.set_cons_zero, List.set_cons_succ]
  refine held_take (v := p.val) 3 rfl (by kernel_rfl) (by kernel_rfl) (by kernel_rfl) (fun _ _ _ h => h) (by rfl) (fun W hSw => exec_load_pfx (.tmp 2) rfl w.heap.size p HF.out rfl hSw.1.1) (by assumption) ?_
  simp only [List.setIfInBounds_toArray, List.set_cons_zero, List.set_cons_succ]
  refine held_take (v := q.val) 4 rfl (by kernel_rfl) (by kernel_rfl) (by kernel_rfl) (fun _ _ _ h => h) (by rfl) (fun W hSw => exec_load_pfx (.tmp 3) rfl (w.heap.size + 1) q HG.out rfl hSw.1.2.1) (by assumption) ?_
  simp only [List.setIfInBounds_toArray, List.set_cons_zero, List.set_cons_succ]
  refine held_one 2 rfl (by kernel_rfl) (by rfl) (fun K hK => ?_)
  go_simp
  refine (H1.out _).mono ?_
  rintro e v2 ⟨rfl, b2⟩
  refine hK.out _ _ (PrZ.up hHeld b2) (fun hHeld => ?_)
  clear hK K b2
  refine held_one 5 rfl (by kernel_rfl) (by rfl) (fun K hK => ?_)
  go_simp
  refine (H2.out _).mono ?_
  rintro e v5 ⟨rfl, b5⟩
  refine hK.out _ _ (PrZ.up hHeld b5) (fun hHeld => ?_)
  clear hK K b5
  refine held_take (v := ?v75) 6 rfl (by kernel_rfl) (by kernel_rfl) (by kernel_rfl) (fun _ _ _ h => h) (by rfl) ?y75 (by assumption) ?_
  case y75 => (intro w hSw; unfold PrZ at hSw; go_simp; (try with_reducible rfl); (try omega))
  simp only [List.setIfInBounds_toArray, List.set_cons_zero, List.set_cons_succ]
  refine held_take (v := ?v78) 7 rfl (by kernel_rfl) (by kernel_rfl) (by kernel_rfl) (fun _ _ _ h => h) (by rfl) ?y78 (by assumption) ?_
  case y78 => (intro w hSw; unfold PrZ at hSw; go_simp; (try with_reducible rfl); (try omega))
  simp only [List.setIfInBounds_toArray, List.set_cons_zero, List.set_cons_succ]
  refine held_take (v := X.val) 8 rfl (by kernel_rfl) (by kernel_rfl) (by kernel_rfl) (fun _ _ _ h => h) (by rfl) (fun W hSw => exec_load_pfx (.tmp 6) rfl g6 X HX.out rfl hSw.2.1) (by assumption) ?_
  simp only [List.setIfInBounds_toArray, List.set_cons_zero, List.set_cons_succ]
  refine held_take (v := X.val) 9 rfl (by kernel_rfl) (by kernel_rfl) (by kernel_rfl) (fun _ _ _ h => h) (by rfl) (fun W hSw => exec_load_pfx (.tmp 8) rfl g8 X HX.out rfl hSw.2.2) (by assumption) ?_
  simp only [List.setIfInBounds_toArray, List.set_cons_zero, List.set_cons_succ]
  refine held_take (v := .bool true) 10 rfl (by kernel_rfl) (by kernel_rfl) (by kernel_rfl) (fun _ _ _ h => h) (by rfl) (fun W hSw => by rw [exec_eql_pfx 33 34 _ rfl X X HX.out HX.out rfl rfl, eqP_self]) (by assumption) ?_
  simp only [List.setIfInBounds_toArray, List.set_cons_zero, List.set_cons_succ]
  refine held_take (v := ?v87) 11 rfl (by kernel_rfl) (by kernel_rfl) (by kernel_rfl) (fun _ _ _ h => h) (by rfl) ?y87 (by assumption) ?_
  case y87 => (intro w hSw; unfold PrZ at hSw; go_simp; (try with_reducible rfl); (try omega))
  simp only [List.setIfInBounds_toArray, List.set_cons_zero, List.set_cons_succ]
  refine held_take (v := ?v90) 12 rfl (by kernel_rfl) (by kernel_rfl) (by kernel_rfl) (fun _ _ _ h => h) (by rfl) ?y90 (by assumption) ?_
  case y90 => (intro w hSw; unfold PrZ at hSw; go_simp; (try with_reducible rfl); (try omega))
  simp only [List.setIfInBounds_toArray, List.set_cons_zero, List.set_cons_succ]
  refine held_take (v := ?v93) 13 rfl (by kernel_rfl) (by kernel_rfl) (by kernel_rfl) (fun _ _ _ h => h) (by rfl) ?y93 (by assumption) ?_
  case y93 => (intro w hSw; unfold PrZ at hSw; go_simp; (try with_reducible rfl); (try omega))
  simp only [List.setIfInBounds_toArray, List.set_cons_zero, List.set_cons_succ]
  refine held_take (v := ?v96) 14 rfl (by kernel_rfl) (by kernel_rfl) (by kernel_rfl) (fun _ _ _ h => h) (by rfl) ?y96 (by assumption) ?_
  case y96 => (intro w hSw; unfold PrZ at hSw; go_simp; (try with_reducible rfl); (try omega))
  simp only [List.setIfInBounds_toArray, List.set_cons_zero, List.set_cons_succ]
  refine held_take (v := ?v99) 15 rfl (by kernel_rfl) (by kernel_rfl) (by kernel_rfl) (fun _ _ _ h => h) (by rfl) ?y99 (by assumption) ?_
  case y99 => (intro w hSw; unfold PrZ at hSw; go_simp; (try with_reducible rfl); (try omega))
  simp only [List.setIfInBounds_toArray, List.set_cons_zero, List.set_cons_succ]
  refine held_take (v := ?v102) 16 rfl (by kernel_rfl) (by kernel_rfl) (by kernel_rfl) (fun _ _ _ h => h) (by rfl) ?y102 (by assumption) ?_
  case y102 => (intro w hSw; unfold PrZ at hSw; go_simp; (try with_reducible rfl); (try omega))
  simp only [List.setIfInBounds_toArray, List.set_cons_zero, List.set_cons_succ]
  refine held_take (v := ?v105) 17 rfl (by kernel_rfl) (by kernel_rfl) (by kernel_rfl) (fun _ _ _ h => h) (by rfl) ?y105 (by assumption) ?_
  case y105 => (intro w hSw; unfold PrZ at hSw; go_simp; (try with_reducible rfl); (try omega))
  simp only [List.setIfInBounds_toArray, List.set_cons_zero, List.set_cons_succ]
  refine held_take (v := p.val) 18 rfl (by kernel_rfl) (by kernel_rfl) (by kernel_rfl) (fun _ _ _ h => h) (by rfl) (fun W hSw => exec_load_pfx (.tmp 2) rfl w.heap.size p HF.out rfl hSw.1.1) (by assumption) ?_
  simp only [List.setIfInBounds_toArray, List.set_cons_zero, List.set_cons_succ]
  refine held_take (v := q.val) 19 rfl (by kernel_rfl) (by kernel_rfl) (by kernel_rfl) (fun _ _ _ h => h) (by rfl) (fun W hSw => exec_load_pfx (.tmp 3) rfl (w.heap.size + 1) q HG.out rfl hSw.1.2.1) (by assumption) ?_
  simp only [List.setIfInBounds_toArray, List.set_cons_zero, List.set_cons_succ]
  refine held_take (v := p.val) 21 rfl (by kernel_rfl) (by kernel_rfl) (by kernel_rfl) (fun _ _ _ h => h) (by rfl) (fun W hSw => exec_load_pfx (.tmp 2) rfl w.heap.size p HF.out rfl hSw.1.1) (by assumption) ?_
  simp only [List.setIfInBounds_toArray, List.set_cons_zero, List.set_cons_succ]
  refine held_take (v := q.val) 22 rfl (by kernel_rfl) (by kernel_rfl) (by kernel_rfl) (fun _ _ _ h => h) (by rfl) (fun W hSw => exec_load_pfx (.tmp 3) rfl (w.heap.size + 1) q HG.out rfl hSw.1.2.1) (by assumption) ?_
  simp only [List.setIfInBounds_toArray, List.set_cons_zero, List.set_cons_succ]
  refine held_one 20 rfl (by kernel_rfl) (by rfl) (fun K hK => ?_)
  go_simp
  refine (H3.out _).mono ?_
  rintro e v20 ⟨rfl, b20⟩
  refine hK.out _ _ (PrZ.up hHeld b20) (fun hHeld => ?_)
  clear hK K b20
  refine held_one 23 rfl (by kernel_rfl) (by rfl) (fun K hK => ?_)
  go_simp
  refine (H4.out _).mono ?_
  rintro e v23 ⟨rfl, b23⟩
  refine hK.out _ _ (PrZ.up hHeld b23) (fun hHeld => ?_)
  clear hK K b23
  refine held_take (v := ?v128) 24 rfl (by kernel_rfl) (by kernel_rfl) (by kernel_rfl) (fun _ _ _ h => h) (by rfl) ?y128 (by assumption) ?_
  case y128 => (intro w hSw; unfold PrZ at hSw; go_simp; (try with_reducible rfl); (try omega))
  simp only [List.setIfInBounds_toArray, List.set_cons_zero, List.set_cons_succ]
  refine held_take (v := ?v131) 25 rfl (by kernel_rfl) (by kernel_rfl) (by kernel_rfl) (fun _ _ _ h => h) (by rfl) ?y131 (by assumption) ?_
  case y131 => (intro w hSw; unfold PrZ at hSw; go_simp; (try with_reducible rfl); (try omega))
  simp only [List.setIfInBounds_toArray, List.set_cons_zero, List.set_cons_succ]
  refine held_take (v := ?v134) 26 rfl (by kernel_rfl) (by kernel_rfl) (by kernel_rfl) (fun _ _ _ h => h) (by rfl) ?y134 (by assumption) ?_
  case y134 => (intro w hSw; unfold PrZ at hSw; go_simp; (try with_reducible rfl); (try omega))
  simp only [List.setIfInBounds_toArray, List.set_cons_zero, List.set_cons_succ]
  refine wpAnyH_done (by kernel_rfl) ?_ _
  refine NoPanic.normal ?_
  have HH := Lib.hid hHeld
  clear hHeld
  go_wp2
  go_ret
  exact ⟨rfl, HH.out.1.2.2⟩
end Go.Proofs.YtlbgmpjeckigjaaDoor
