/- PrefixTells returns true, whatever it is given, and turns no old memory. -/
import Derived.Test.YtlbgmpjeckigjaaDoorAw8
import Derived.Test.YtlbgmpjeckigjaaDoorRp3
namespace Go.Proofs.YtlbgmpjeckigjaaDoor
open Go Go.RowKit

/-- What is held: the prefix, the address, the library's cells. -/
def TeZ (w : World) (p : Pfx) (a : List UInt8) (W : World) : Prop := TwoZ w p a W ∧ Env8 W
theorem TeZ.up {w : World} {p : Pfx} {a : List UInt8} {W W' : World} (h : TeZ w p a W) (hb : Below W.heap.size W W') : TeZ w p a W' := ⟨h.1.up hb, h.2.up hb⟩
set_option maxRecDepth 100000 in
set_option maxHeartbeats 8000000 in
theorem ptells_walk (p : Pfx) (a : List UInt8) (n : Int) (w : World) (f : p.addr.length = 16) (f0 : -9223372036854775808 ≤ p.len) (f1 : p.len ≤ 9223372036854775807) (ha : a.length = 16) (_n0 : -9223372036854775808 ≤ n) (_n1 : n ≤ 9223372036854775807) (hE : Env8 w) :
    Calls Tryd.prog 3 #[p.val, arrV a, .int .i64 n] w fun e w' => e = .returned (.bool true) ∧ Below w.heap.size w w' := by
  have HAw := Lib.hid (fun W h => awake8_any W h)
  have Z : Hid (TeZ w p a ((w.alloc (.cells p.cells 24)).alloc (.cells (byteVals a).toArray 22))) := ⟨twoZ_new w p a, (hE.al _).al _⟩
  have HF := Lib.hid f
  have HA16 := Lib.hid ha
  have H1 := Lib.hid (fun W => pcheck_any p W f)
  have H2 := Lib.hid (fun W => qcheck_any p W f)
  have H3 := Lib.hid (fun W h => pshow_any p W f f0 f1 h)
  have H4 := Lib.hid (fun W => qshow_any p W f f0 f1)
  have H5 := Lib.hid (fun W => pof_any p.six a n W ha)
  have H6 := Lib.hid (fun W => qof_any p.six a n W ha)
  have H7 := Lib.hid (fun W => has_any p a W f ha)
  have H8 := Lib.hid (fun W => qhas_any p a W f ha)
  have H9 := Lib.hid (fun W => bit_any a n W ha)
  have H10 := Lib.hid (fun W => qbit_any a n W ha)
  have HX := Lib.hid (of_len p.six a n)
  rw [show p.val = .agg p.cells from rfl, show arrV a = .agg (byteVals a).toArray from rfl]
  clear f ha f0 f1 _n0 _n1 hE
  generalize (if chkP p = true then (0 : Int) else 1) = k at *
  generalize showP p = T at *
  generalize ofP p.six a n = X at *
  generalize hasP p a = c at *
  generalize bitI a n = r at *
  go_enter Tryd.func3, Tryd.ntmps3
  go_wp2_with (go_at_call 9; refine (HAw.out _ Z.out.2).mono ?_; rintro e w1 ⟨rfl, b1⟩; refine Hid.out ?_)
  refine Lib.hid ?_
  have Z1 := Lib.hid (Z.out.up b1)
  clear Z b1 HAw
  go_wp2_with fail
  refine wp_region_noPanic ?_
  refine wp_region_held_drew (S := TeZ w p a) (by kernel_rfl) ⟨Z1.out.1.drew, Z1.out.2.drew⟩ (fun hHeld => ?_)
  clear Z1
  refine held_take (v := p.val) 0 rfl (by kernel_rfl) (by kernel_rfl) (by kernel_rfl) (fun _ _ _ h => h) (by rfl) (fun W hSw => exec_load_pfx (.tmp 3) rfl w.heap.size p HF.out rfl hSw.1.1) (by assumption) ?_
  simp only [List.setIfInBounds_toArray, List.set_cons_zero, List.set_cons_succ]
  refine held_take (v := p.val) 2 rfl (by kernel_rfl) (by kernel_rfl) (by kernel_rfl) (fun _ _ _ h => h) (by rfl) (fun W hSw => exec_load_pfx (.tmp 3) rfl w.heap.size p HF.out rfl hSw.1.1) (by assumption) ?_
  simp only [List.setIfInBounds_toArray, List.set_cons_zero, List.set_cons_succ]
  refine held_one 1 rfl (by kernel_rfl) (by rfl) (fun K hK => ?_)
  go_simp
  refine (H1.out _).mono ?_
  rintro e v1 ⟨rfl, b1⟩
  refine hK.out _ _ (TeZ.up hHeld b1) (fun hHeld => ?_)
  clear hK K b1
  refine held_one 3 rfl (by kernel_rfl) (by rfl) (fun K hK => ?_)
  go_simp
  refine (H2.out _).mono ?_
  rintro e v3 ⟨rfl, b3⟩
  refine hK.out _ _ (TeZ.up hHeld b3) (fun hHeld => ?_)
  clear hK K b3
  refine held_take (v := ?v60) 4 rfl (by kernel_rfl) (by kernel_rfl) (by kernel_rfl) (fun _ _ _ h => h) (by rfl) ?y60 (by assumption) ?_
  case y60 => (intro w hSw; unfold TeZ at hSw; go_simp; (try with_reducible rfl); (try omega))
  simp only [List.setIfInBounds_toArray, List.set_cons_zero, List.set_cons_succ]
  refine held_take (v := ?v63) 5 rfl (by kernel_rfl) (by kernel_rfl) (by kernel_rfl) (fun _ _ _ h => h) (by rfl) ?y63 (by assumption) ?_
  case y63 => (intro w hSw; unfold TeZ at hSw; go_simp; (try with_reducible rfl); (try omega))
  simp only [List.setIfInBounds_toArray, List.set_cons_zero, List.set_cons_succ]
  refine held_take (v := p.val) 6 rfl (by kernel_rfl) (by kernel_rfl) (by kernel_rfl) (fun _ _ _ h => h) (by rfl) (fun W hSw => exec_load_pfx (.tmp 3) rfl w.heap.size p HF.out rfl hSw.1.1) (by assumption) ?_
  simp only [List.setIfInBounds_toArray, List.set_cons_zero, List.set_cons_succ]
  refine held_take (v := p.val) 8 rfl (by kernel_rfl) (by kernel_rfl) (by kernel_rfl) (fun _ _ _ h => h) (by rfl) (fun W hSw => exec_load_pfx (.tmp 3) rfl w.heap.size p HF.out rfl hSw.1.1) (by assumption) ?_
  simp only [List.setIfInBounds_toArray, List.set_cons_zero, List.set_cons_succ]
  refine held_one 7 rfl (by kernel_rfl) (by rfl) (fun K hK => ?_)
  go_simp
  refine (H3.out _ hHeld.2).mono ?_
  rintro e v7 ⟨rfl, b7⟩
  refine hK.out _ _ (TeZ.up hHeld b7) (fun hHeld => ?_)
  clear hK K b7
  refine held_one 9 rfl (by kernel_rfl) (by rfl) (fun K hK => ?_)
  go_simp
  refine (H4.out _).mono ?_
  rintro e v9 ⟨rfl, b9⟩
  refine hK.out _ _ (TeZ.up hHeld b9) (fun hHeld => ?_)
  clear hK K b9
  refine held_take (v := ?v82) 10 rfl (by kernel_rfl) (by kernel_rfl) (by kernel_rfl) (fun _ _ _ h => h) (by rfl) ?y82 (by assumption) ?_
  case y82 => (intro w hSw; unfold TeZ at hSw; go_simp; (try with_reducible rfl); (try omega))
  simp only [List.setIfInBounds_toArray, List.set_cons_zero, List.set_cons_succ]
  refine held_take (v := ?v85) 11 rfl (by kernel_rfl) (by kernel_rfl) (by kernel_rfl) (fun _ _ _ h => h) (by rfl) ?y85 (by assumption) ?_
  case y85 => (intro w hSw; unfold TeZ at hSw; go_simp; (try with_reducible rfl); (try omega))
  simp only [List.setIfInBounds_toArray, List.set_cons_zero, List.set_cons_succ]
  refine held_take (v := ?v88) 12 rfl (by kernel_rfl) (by kernel_rfl) (by kernel_rfl) (fun _ _ _ h => h) (by rfl) ?y88 (by assumption) ?_
  case y88 => (intro w hSw; unfold TeZ at hSw; go_simp; (try with_reducible rfl); (try omega))
  simp only [List.setIfInBounds_toArray, List.set_cons_zero, List.set_cons_succ]
  refine held_take (v := ?v91) 13 rfl (by kernel_rfl) (by kernel_rfl) (by kernel_rfl) (fun _ _ _ h => h) (by rfl) ?y91 (by assumption) ?_
  case y91 => (intro w hSw; unfold TeZ at hSw; go_simp; (try with_reducible rfl); (try omega))
  simp only [List.setIfInBounds_toArray, List.set_cons_zero, List.set_cons_succ]
  refine held_take (v := .bool p.six) 14 rfl (by kernel_rfl) (by kernel_rfl) (by kernel_rfl) (fun _ _ _ h => h) (by rfl) (fun W hSw => exec_load_six (.tmp 24) rfl w.heap.size p rfl hSw.1.1) (by assumption) ?_
  simp only [List.setIfInBounds_toArray, List.set_cons_zero, List.set_cons_succ]
  refine held_take (v := arrV a) 15 rfl (by kernel_rfl) (by kernel_rfl) (by kernel_rfl) (fun _ _ _ h => h) (by rfl) (fun W hSw => exec_load_arrT (.tmp 4) rfl (w.heap.size + 1) a (by rw [HA16.out]; exact arr16P) rfl hSw.1.2.1) (by assumption) ?_
  simp only [List.setIfInBounds_toArray, List.set_cons_zero, List.set_cons_succ]
  refine held_take (v := ?v98) 16 rfl (by kernel_rfl) (by kernel_rfl) (by kernel_rfl) (fun _ _ _ h => h) (by rfl) ?y98 (by assumption) ?_
  case y98 => (intro w hSw; unfold TeZ at hSw; go_simp; (try with_reducible rfl); (try omega))
  simp only [List.setIfInBounds_toArray, List.set_cons_zero, List.set_cons_succ]
  refine held_take (v := ?v101) 18 rfl (by kernel_rfl) (by kernel_rfl) (by kernel_rfl) (fun _ _ _ h => h) (by rfl) ?y101 (by assumption) ?_
  case y101 => (intro w hSw; unfold TeZ at hSw; go_simp; (try with_reducible rfl); (try omega))
  simp only [List.setIfInBounds_toArray, List.set_cons_zero, List.set_cons_succ]
  refine held_take (v := .bool p.six) 19 rfl (by kernel_rfl) (by kernel_rfl) (by kernel_rfl) (fun _ _ _ h => h) (by rfl) (fun W hSw => exec_load_six (.tmp 29) rfl w.heap.size p rfl hSw.1.1) (by assumption) ?_
  simp only [List.setIfInBounds_toArray, List.set_cons_zero, List.set_cons_succ]
  refine held_take (v := arrV a) 20 rfl (by kernel_rfl) (by kernel_rfl) (by kernel_rfl) (fun _ _ _ h => h) (by rfl) (fun W hSw => exec_load_arrT (.tmp 4) rfl (w.heap.size + 1) a (by rw [HA16.out]; exact arr16P) rfl hSw.1.2.1) (by assumption) ?_
  simp only [List.setIfInBounds_toArray, List.set_cons_zero, List.set_cons_succ]
  refine held_take (v := ?v108) 21 rfl (by kernel_rfl) (by kernel_rfl) (by kernel_rfl) (fun _ _ _ h => h) (by rfl) ?y108 (by assumption) ?_
  case y108 => (intro w hSw; unfold TeZ at hSw; go_simp; (try with_reducible rfl); (try omega))
  simp only [List.setIfInBounds_toArray, List.set_cons_zero, List.set_cons_succ]
  refine held_one 17 rfl (by kernel_rfl) (by rfl) (fun K hK => ?_)
  go_simp
  refine (H5.out _).mono ?_
  rintro e v17 ⟨rfl, b17⟩
  refine hK.out _ _ (TeZ.up hHeld b17) (fun hHeld => ?_)
  clear hK K b17
  refine held_one 22 rfl (by kernel_rfl) (by rfl) (fun K hK => ?_)
  go_simp
  refine (H6.out _).mono ?_
  rintro e v22 ⟨rfl, b22⟩
  refine hK.out _ _ (TeZ.up hHeld b22) (fun hHeld => ?_)
  clear hK K b22
  refine held_take (v := .bool true) 23 rfl (by kernel_rfl) (by kernel_rfl) (by kernel_rfl) (fun _ _ _ h => h) (by rfl) (fun W hSw => by rw [exec_eql_pfx 28 33 _ rfl X X HX.out HX.out rfl rfl, eqP_self]) (by assumption) ?_
  simp only [List.setIfInBounds_toArray, List.set_cons_zero, List.set_cons_succ]
  refine held_take (v := ?v125) 24 rfl (by kernel_rfl) (by kernel_rfl) (by kernel_rfl) (fun _ _ _ h => h) (by rfl) ?y125 (by assumption) ?_
  case y125 => (intro w hSw; unfold TeZ at hSw; go_simp; (try with_reducible rfl); (try omega))
  simp only [List.setIfInBounds_toArray, List.set_cons_zero, List.set_cons_succ]
  refine held_take (v := ?v128) 25 rfl (by kernel_rfl) (by kernel_rfl) (by kernel_rfl) (fun _ _ _ h => h) (by rfl) ?y128 (by assumption) ?_
  case y128 => (intro w hSw; unfold TeZ at hSw; go_simp; (try with_reducible rfl); (try omega))
  simp only [List.setIfInBounds_toArray, List.set_cons_zero, List.set_cons_succ]
  refine held_take (v := p.val) 26 rfl (by kernel_rfl) (by kernel_rfl) (by kernel_rfl) (fun _ _ _ h => h) (by rfl) (fun W hSw => exec_load_pfx (.tmp 3) rfl w.heap.size p HF.out rfl hSw.1.1) (by assumption) ?_
  simp only [List.setIfInBounds_toArray, List.set_cons_zero, List.set_cons_succ]
  refine held_take (v := arrV a) 27 rfl (by kernel_rfl) (by kernel_rfl) (by kernel_rfl) (fun _ _ _ h => h) (by rfl) (fun W hSw => exec_load_arrT (.tmp 4) rfl (w.heap.size + 1) a (by rw [HA16.out]; exact arr16P) rfl hSw.1.2.1) (by assumption) ?_
  simp only [List.setIfInBounds_toArray, List.set_cons_zero, List.set_cons_succ]
  refine held_take (v := p.val) 29 rfl (by kernel_rfl) (by kernel_rfl) (by kernel_rfl) (fun _ _ _ h => h) (by rfl) (fun W hSw => exec_load_pfx (.tmp 3) rfl w.heap.size p HF.out rfl hSw.1.1) (by assumption) ?_
  simp only [List.setIfInBounds_toArray, List.set_cons_zero, List.set_cons_succ]
  refine held_take (v := arrV a) 30 rfl (by kernel_rfl) (by kernel_rfl) (by kernel_rfl) (fun _ _ _ h => h) (by rfl) (fun W hSw => exec_load_arrT (.tmp 4) rfl (w.heap.size + 1) a (by rw [HA16.out]; exact arr16P) rfl hSw.1.2.1) (by assumption) ?_
  simp only [List.setIfInBounds_toArray, List.set_cons_zero, List.set_cons_succ]
  refine held_one 28 rfl (by kernel_rfl) (by rfl) (fun K hK => ?_)
  go_simp
  refine (H7.out _).mono ?_
  rintro e v28 ⟨rfl, b28⟩
  refine hK.out _ _ (TeZ.up hHeld b28) (fun hHeld => ?_)
  clear hK K b28
  refine held_one 31 rfl (by kernel_rfl) (by rfl) (fun K hK => ?_)
  go_simp
  refine (H8.out _).mono ?_
  rintro e v31 ⟨rfl, b31⟩
  refine hK.out _ _ (TeZ.up hHeld b31) (fun hHeld => ?_)
  clear hK K b31
  refine held_take (v := ?v151) 32 rfl (by kernel_rfl) (by kernel_rfl) (by kernel_rfl) (fun _ _ _ h => h) (by rfl) ?y151 (by assumption) ?_
  case y151 => (intro w hSw; unfold TeZ at hSw; go_simp; (try with_reducible rfl); (try omega))
  simp only [List.setIfInBounds_toArray, List.set_cons_zero, List.set_cons_succ]
  refine held_take (v := ?v154) 33 rfl (by kernel_rfl) (by kernel_rfl) (by kernel_rfl) (fun _ _ _ h => h) (by rfl) ?y154 (by assumption) ?_
  case y154 => (intro w hSw; unfold TeZ at hSw; go_simp; (try with_reducible rfl); (try omega))
  simp only [List.setIfInBounds_toArray, List.set_cons_zero, List.set_cons_succ]
  refine held_take (v := ?v157) 34 rfl (by kernel_rfl) (by kernel_rfl) (by kernel_rfl) (fun _ _ _ h => h) (by rfl) ?y157 (by assumption) ?_
  case y157 => (intro w hSw; unfold TeZ at hSw; go_simp; (try with_reducible rfl); (try omega))
  simp only [List.setIfInBounds_toArray, List.set_cons_zero, List.set_cons_succ]
  refine held_take (v := arrV a) 35 rfl (by kernel_rfl) (by kernel_rfl) (by kernel_rfl) (fun _ _ _ h => h) (by rfl) (fun W hSw => exec_load_arrT (.tmp 4) rfl (w.heap.size + 1) a (by rw [HA16.out]; exact arr16P) rfl hSw.1.2.1) (by assumption) ?_
  simp only [List.setIfInBounds_toArray, List.set_cons_zero, List.set_cons_succ]
  refine held_take (v := ?v162) 36 rfl (by kernel_rfl) (by kernel_rfl) (by kernel_rfl) (fun _ _ _ h => h) (by rfl) ?y162 (by assumption) ?_
  case y162 => (intro w hSw; unfold TeZ at hSw; go_simp; (try with_reducible rfl); (try omega))
  simp only [List.setIfInBounds_toArray, List.set_cons_zero, List.set_cons_succ]
  refine held_take (v := arrV a) 38 rfl (by kernel_rfl) (by kernel_rfl) (by kernel_rfl) (fun _ _ _ h => h) (by rfl) (fun W hSw => exec_load_arrT (.tmp 4) rfl (w.heap.size + 1) a (by rw [HA16.out]; exact arr16P) rfl hSw.1.2.1) (by assumption) ?_
  simp only [List.setIfInBounds_toArray, List.set_cons_zero, List.set_cons_succ]
  refine held_take (v := ?v167) 39 rfl (by kernel_rfl) (by kernel_rfl) (by kernel_rfl) (fun _ _ _ h => h) (by rfl) ?y167 (by assumption) ?_
  case y167 => (intro w hSw; unfold TeZ at hSw; go_simp; (try with_reducible rfl); (try omega))
  simp only [List.setIfInBounds_toArray, List.set_cons_zero, List.set_cons_succ]
  refine held_one 37 rfl (by kernel_rfl) (by rfl) (fun K hK => ?_)
  go_simp
  refine (H9.out _).mono ?_
  rintro e v37 ⟨rfl, b37⟩
  refine hK.out _ _ (TeZ.up hHeld b37) (fun hHeld => ?_)
  clear hK K b37
  refine held_one 40 rfl (by kernel_rfl) (by rfl) (fun K hK => ?_)
  go_simp
  refine (H10.out _).mono ?_
  rintro e v40 ⟨rfl, b40⟩
  refine hK.out _ _ (TeZ.up hHeld b40) (fun hHeld => ?_)
  clear hK K b40
  refine held_take (v := ?v182) 41 rfl (by kernel_rfl) (by kernel_rfl) (by kernel_rfl) (fun _ _ _ h => h) (by rfl) ?y182 (by assumption) ?_
  case y182 => (intro w hSw; unfold TeZ at hSw; go_simp; (try with_reducible rfl); (try omega))
  simp only [List.setIfInBounds_toArray, List.set_cons_zero, List.set_cons_succ]
  refine held_take (v := ?v185) 42 rfl (by kernel_rfl) (by kernel_rfl) (by kernel_rfl) (fun _ _ _ h => h) (by rfl) ?y185 (by assumption) ?_
  case y185 => (intro w hSw; unfold TeZ at hSw; go_simp; (try with_reducible rfl); (try omega))
  simp only [List.setIfInBounds_toArray, List.set_cons_zero, List.set_cons_succ]
  refine held_take (v := ?v188) 43 rfl (by kernel_rfl) (by kernel_rfl) (by kernel_rfl) (fun _ _ _ h => h) (by rfl) ?y188 (by assumption) ?_
  case y188 => (intro w hSw; unfold TeZ at hSw; go_simp; (try with_reducible rfl); (try omega))
  simp only [List.setIfInBounds_toArray, List.set_cons_zero, List.set_cons_succ]
  refine wpAnyH_done (by kernel_rfl) ?_ _
  refine NoPanic.normal ?_
  have HH := Lib.hid hHeld
  clear hHeld
  go_wp2
  go_ret
  exact ⟨rfl, HH.out.1.2.2⟩
end Go.Proofs.YtlbgmpjeckigjaaDoor
