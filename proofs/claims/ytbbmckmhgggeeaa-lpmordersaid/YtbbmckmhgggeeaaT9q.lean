/- Put and Delete of package lpm, where they are done. -/
import Derived.Test.YtbbmckmhgggeeaaT9p
namespace Go.Proofs.Ytbbmckmhgggeeaa
open Go Go.RowKit

set_option maxRecDepth 100000 in
set_option maxHeartbeats 4000000 in
theorem put_over (T T1 : Tb) (p : Pfx) (x : Int) (w : World) (X : Nat → Prop) (g : Nat) (h : TabM w X g T) (hp : p.addr.length = 16) (ht : (chkP p && (p.six == T.six)) = true) (f : Nat) (items : List (Pfx × Int)) (hI : aboveN f T.nds T.root p = some items) (v0 : Int) (hg : getI p items = some v0)
    (r F : Nat) (hput : putN F T T.root p x = some (r, T1)) (hl : T.nds.length + F ≤ 1000000) :
    Calls Try.prog 11 #[.pointer (some ⟨g, 0, none⟩), p.val, .int .i64 x] w fun e w' => e = .returned (.int .i64 0) ∧ ∃ X', TabM w' X' g { T1 with root := r } ∧ Upd w X w' X' := by
  have hb : Below w.heap.size w (w.alloc (.cells p.row.toArray 32)) := (Below.refl _ _).alloc (Nat.le_refl _) _
  have HT := Lib.hid (fun W (hW : TabM W X g T) => takes_any T p W X g hW hp)
  rw [ht] at HT
  have HGT := Lib.hid (fun W (hW : TabM W X g T) => get_tab T p W X g hW hp ht f items hI)
  rw [hg] at HGT
  have H1 := Lib.hid (h.up hb)
  have HX := Lib.hid (Bx.new w 32 p.row)
  have R0 := Lib.hid (rangeAll HX.out)
  have HP := Lib.hid hp
  have HB := Lib.hid hb
  have HXL := Lib.hid h.low
  rw [show p.val = .agg p.row.toArray from rfl]
  have HPUT := Lib.hid (fun W X (hW : TabM W X g T) => put_any F T T1 T.root r p x W X g hW hp hput hl)
  unfold LaidT at HPUT
  clear h hp hb
  go_enter Try.func11, Try.ntmps11
  go_wp2_with (first
    | (refine wpList_load_any rfl 32 (.tmp 4) rfl w.heap.size 0 p.row _ rfl R0.out Try.underlying32 rfl (pf_infoC HP.out) ?_)
    | (go_at_call 25; refine (HT.out _ H1.out).mono ?_; rintro e w1 ⟨rfl, b1⟩; refine Hid.out ?_))
  refine Lib.hid ?_
  have h2 := H1.out.up b1
  have B2 := below_up HB.out b1 HB.out.size
  have hx2 := HX.out.up b1
  have R1 := Lib.hid (rangeAll hx2)
  clear H1 HB R0 b1
  go_wp2_with (first
    | (refine wpList_load_any rfl 32 (.tmp 4) rfl w.heap.size 0 p.row _ rfl R1.out Try.underlying32 rfl (pf_infoC HP.out) ?_)
    | (go_at_call 14; refine (HGT.out _ h2).mono ?_; rintro e w2 ⟨rfl, b2⟩; refine Hid.out ?_))
  refine Lib.hid ?_
  have h3 := h2.up b2
  have B3 := below_up B2 b2 B2.size
  have hx3 := hx2.up b2
  clear h2 B2 R1 b2 hx2
  obtain ⟨gn, cap, vf, h3⟩ := h3
  have h4 := h3
  have hu4 := Upd.of_below X B3
  have hx4 := hx3
  clear h3 B3 hx3
  go_wp2
  refine wp_region_noPanic ?_
  refine wp_region_held_drew (S := HeldR w.heap.size 32 p.row) (by kernel_rfl) hx4 (fun hHeld => ?_)
  have h5 := tab_drew h4
  have hu5 := upd_drew hu4
  clear h4 hu4 hx4
  generalize hWd : w2.drew = W5 at *
  clear hWd
  have c3 := h5.c3
  refine held_take (v := ?v57) 0 rfl (by kernel_rfl) (by kernel_rfl) (by kernel_rfl) (fun _ _ _ h => h) (by rfl) ?y57 (by assumption) ?_
  case y57 => (intro w hSw; unfold HeldR at hSw; go_simp; (try with_reducible rfl); (try omega))
  simp only [List.setIfInBounds_toArray, List.set_cons_zero, List.set_cons_succ]
  refine held_take (v := ?v60) 1 rfl (by kernel_rfl) (by kernel_rfl) (by kernel_rfl) (fun _ _ _ h => h) (by rfl) ?y60 (by assumption) ?_
  case y60 => (intro w hSw; unfold HeldR at hSw; go_simp; (try with_reducible rfl); (try omega))
  simp only [List.setIfInBounds_toArray, List.set_cons_zero, List.set_cons_succ]
  refine held_take (v := ?v63) 2 rfl (by kernel_rfl) (by kernel_rfl) (by kernel_rfl) (fun _ _ _ h => h) (by rfl) ?y63 (by assumption) ?_
  case y63 => (intro w hSw; unfold HeldR at hSw; go_simp; (try with_reducible rfl); (try omega))
  simp only [List.setIfInBounds_toArray, List.set_cons_zero, List.set_cons_succ]
  refine held_take (v := ?v66) 3 rfl (by kernel_rfl) (by kernel_rfl) (by kernel_rfl) (fun _ _ _ h => h) (by rfl) ?y66 (by assumption) ?_
  case y66 => (intro w hSw; unfold HeldR at hSw; go_simp; (try with_reducible rfl); (try omega))
  simp only [List.setIfInBounds_toArray, List.set_cons_zero, List.set_cons_succ]
  refine held_take (v := ?v69) 4 rfl (by kernel_rfl) (by kernel_rfl) (by kernel_rfl) (fun _ _ _ h => h) (by rfl) ?y69 (by assumption) ?_
  case y69 => (intro w hSw; unfold HeldR at hSw; go_simp; (try with_reducible rfl); (try omega))
  simp only [List.setIfInBounds_toArray, List.set_cons_zero, List.set_cons_succ]
  refine held_take (v := p.val) 6 rfl (by kernel_rfl) (by kernel_rfl) (by kernel_rfl) (fun _ _ _ h => h) (by rfl) (fun W hSw => exec_load_any _ (.tmp 4) rfl w.heap.size 0 p.row _ rfl (rangeAll hSw) Try.underlying32 rfl (pf_infoC HP.out)) (by assumption) ?_
  simp only [List.setIfInBounds_toArray, List.set_cons_zero, List.set_cons_succ]
  refine held_take (v := ?v74) 7 rfl (by kernel_rfl) (by kernel_rfl) (by kernel_rfl) (fun _ _ _ h => h) (by rfl) ?y74 (by assumption) ?_
  case y74 => (intro w hSw; unfold HeldR at hSw; go_simp; (try with_reducible rfl); (try omega))
  simp only [List.setIfInBounds_toArray, List.set_cons_zero, List.set_cons_succ]
  refine held_take (v := itV p x) 8 rfl (by kernel_rfl) (by kernel_rfl) (by kernel_rfl) (fun _ _ _ h => h) (by rfl) (fun W hSw => exec_build2 _ 0 1 (.tmp 43) (.tmp 44) rfl p.val (.int .i64 x) (itR p x) rfl rfl (built_it2 p HP.out x)) (by assumption) ?_
  simp only [List.setIfInBounds_toArray, List.set_cons_zero, List.set_cons_succ]
  refine held_one 5 rfl (by kernel_rfl) (by rfl) (fun K hK => ?_)
  go_simp
  refine hK.out _ _ hHeld (fun _ => ?_)
  clear hK K
  (try simp only [List.setIfInBounds_toArray, List.set_cons_zero, List.set_cons_succ])
  refine held_one 9 rfl (by kernel_rfl) (by rfl) (fun K hK => ?_)
  go_simp
  refine (HPUT.out _ X ⟨_, _, _, h5⟩).mono ?_
  rintro e w6 ⟨rfl, X6, ⟨gn6, cap6, vf6, h6⟩, hu6⟩
  have hX0 : ¬ X w.heap.size := fun hx => by have := HXL.out _ hx; omega
  have hH6 : HeldR w.heap.size 32 p.row w6 := Bx.upd hHeld hu6 hX0
  refine hK.out _ _ hH6 (fun _ => ?_)
  clear hK K c3
  refine held_take (v := ?v92) 10 rfl (by kernel_rfl) (by kernel_rfl) (by kernel_rfl) (fun _ _ _ h => h) (by rfl) ?y92 (by assumption) ?_
  case y92 => (intro w hSw; unfold HeldR at hSw; go_simp; (try with_reducible rfl); (try omega))
  simp only [List.setIfInBounds_toArray, List.set_cons_zero, List.set_cons_succ]
  refine held_take (v := ?v95) 11 rfl (by kernel_rfl) (by kernel_rfl) (by kernel_rfl) (fun _ _ _ h => h) (by rfl) ?y95 (by assumption) ?_
  case y95 => (intro w hSw; unfold HeldR at hSw; go_simp; (try with_reducible rfl); (try omega))
  simp only [List.setIfInBounds_toArray, List.set_cons_zero, List.set_cons_succ]
  have c3 := h6.c3
  have z3 : w6.frozen? ⟨g, 3, none⟩ = false := h6.box.frozen 3
  have h7 := h6.setRoot r
  have hu7 := (hu5.trans hu6).trans (Upd.setCell g 3 (.int .i64 (r : Int)) h6.inG)
  have hgw : g < w.heap.size := HXL.out g h5.inG
  have hH7 : HeldR w.heap.size 32 p.row (w6.setCell ⟨g, 3, none⟩ (.int .i64 (r : Int))) := Bx.setOther hH6 (by omega) _ _
  refine held_none 12 rfl (by kernel_rfl) (by rfl) (fun K hK => ?_)
  go_simp
  refine hK.out _ _ hH7 (fun _ => ?_)
  clear hK K c3 z3
  refine wpAnyH_done (by kernel_rfl) ?_ _
  refine NoPanic.normal ?_
  go_wp2
  go_ret
  exact ⟨rfl, X6, ⟨_, _, _, h7⟩, hu7⟩
set_option maxRecDepth 100000 in
set_option maxHeartbeats 4000000 in
theorem put_new (T T1 : Tb) (p : Pfx) (x : Int) (w : World) (X : Nat → Prop) (g : Nat) (h : TabM w X g T) (hp : p.addr.length = 16) (ht : (chkP p && (p.six == T.six)) = true) (f : Nat) (items : List (Pfx × Int)) (hI : aboveN f T.nds T.root p = some items) (hg : getI p items = none) (hroom : T.count < T.room) (hc0 : 0 ≤ T.count) (hc1 : T.count ≤ 1000000)
    (r F : Nat) (hput : putN F { T with count := T.count + 1 } T.root p x = some (r, T1)) (hl : T.nds.length + F ≤ 1000000) :
    Calls Try.prog 11 #[.pointer (some ⟨g, 0, none⟩), p.val, .int .i64 x] w fun e w' => e = .returned (.int .i64 0) ∧ ∃ X', TabM w' X' g { T1 with root := r } ∧ Upd w X w' X' := by
  have hb : Below w.heap.size w (w.alloc (.cells p.row.toArray 32)) := (Below.refl _ _).alloc (Nat.le_refl _) _
  have HT := Lib.hid (fun W (hW : TabM W X g T) => takes_any T p W X g hW hp)
  rw [ht] at HT
  have HGT := Lib.hid (fun W (hW : TabM W X g T) => get_tab T p W X g hW hp ht f items hI)
  rw [hg] at HGT
  have H1 := Lib.hid (h.up hb)
  have HX := Lib.hid (Bx.new w 32 p.row)
  have R0 := Lib.hid (rangeAll HX.out)
  have HP := Lib.hid hp
  have HB := Lib.hid hb
  have HXL := Lib.hid h.low
  rw [show p.val = .agg p.row.toArray from rfl]
  have HPUT := Lib.hid (fun W X (hW : TabM W X g { T with count := T.count + 1 }) => put_any F { T with count := T.count + 1 } T1 T.root r p x W X g hW hp hput hl)
  unfold LaidT at HPUT
  clear h hp hb
  go_enter Try.func11, Try.ntmps11
  go_wp2_with (first
    | (refine wpList_load_any rfl 32 (.tmp 4) rfl w.heap.size 0 p.row _ rfl R0.out Try.underlying32 rfl (pf_infoC HP.out) ?_)
    | (go_at_call 25; refine (HT.out _ H1.out).mono ?_; rintro e w1 ⟨rfl, b1⟩; refine Hid.out ?_))
  refine Lib.hid ?_
  have h2 := H1.out.up b1
  have B2 := below_up HB.out b1 HB.out.size
  have hx2 := HX.out.up b1
  have R1 := Lib.hid (rangeAll hx2)
  clear H1 HB R0 b1
  go_wp2_with (first
    | (refine wpList_load_any rfl 32 (.tmp 4) rfl w.heap.size 0 p.row _ rfl R1.out Try.underlying32 rfl (pf_infoC HP.out) ?_)
    | (go_at_call 14; refine (HGT.out _ h2).mono ?_; rintro e w2 ⟨rfl, b2⟩; refine Hid.out ?_))
  refine Lib.hid ?_
  have h3 := h2.up b2
  have B3 := below_up B2 b2 B2.size
  have hx3 := hx2.up b2
  clear h2 B2 R1 b2 hx2
  obtain ⟨gn, cap, vf, h3⟩ := h3
  go_wp2
  refine wp_region_noPanic ?_
  refine wp_region_held_drew (S := HeldC g T.count T.room) (by kernel_rfl) ⟨h3.c2, h3.c1⟩ (fun hHeld => ?_)
  have h4 := tab_drew h3
  have hu4 := upd_drew (Upd.of_below X B3)
  have hx4 : Bx w2.drew w.heap.size 32 p.row := hx3
  clear h3 B3 hx3
  generalize w2.drew = W4 at *
  refine held_take (v := ?v160) 0 rfl (by kernel_rfl) (by kernel_rfl) (by kernel_rfl) (fun _ _ _ h => h) (by rfl) ?y160 (by assumption) ?_
  case y160 => (intro w hSw; unfold HeldC at hSw; go_simp; (try with_reducible rfl); (try omega))
  simp only [List.setIfInBounds_toArray, List.set_cons_zero, List.set_cons_succ]
  refine held_take (v := ?v163) 1 rfl (by kernel_rfl) (by kernel_rfl) (by kernel_rfl) (fun _ _ _ h => h) (by rfl) ?y163 (by assumption) ?_
  case y163 => (intro w hSw; unfold HeldC at hSw; go_simp; (try with_reducible rfl); (try omega))
  simp only [List.setIfInBounds_toArray, List.set_cons_zero, List.set_cons_succ]
  refine held_take (v := ?v166) 2 rfl (by kernel_rfl) (by kernel_rfl) (by kernel_rfl) (fun _ _ _ h => h) (by rfl) ?y166 (by assumption) ?_
  case y166 => (intro w hSw; unfold HeldC at hSw; go_simp; (try with_reducible rfl); (try omega))
  simp only [List.setIfInBounds_toArray, List.set_cons_zero, List.set_cons_succ]
  refine held_take (v := ?v169) 3 rfl (by kernel_rfl) (by kernel_rfl) (by kernel_rfl) (fun _ _ _ h => h) (by rfl) ?y169 (by assumption) ?_
  case y169 => (intro w hSw; unfold HeldC at hSw; go_simp; (try with_reducible rfl); (try omega))
  simp only [List.setIfInBounds_toArray, List.set_cons_zero, List.set_cons_succ]
  refine held_take (v := ?v172) 4 rfl (by kernel_rfl) (by kernel_rfl) (by kernel_rfl) (fun _ _ _ h => h) (by rfl) ?y172 (by assumption) ?_
  case y172 => (intro w hSw; unfold HeldC at hSw; go_simp; (try with_reducible rfl); (try omega))
  simp only [List.setIfInBounds_toArray, List.set_cons_zero, List.set_cons_succ]
  refine held_take (v := ?v175) 5 rfl (by kernel_rfl) (by kernel_rfl) (by kernel_rfl) (fun _ _ _ h => h) (by rfl) ?y175 (by assumption) ?_
  case y175 => (intro w hSw; unfold HeldC at hSw; go_simp; (try with_reducible rfl); (try omega))
  simp only [List.setIfInBounds_toArray, List.set_cons_zero, List.set_cons_succ]
  refine held_take (v := ?v178) 6 rfl (by kernel_rfl) (by kernel_rfl) (by kernel_rfl) (fun _ _ _ h => h) (by rfl) ?y178 (by assumption) ?_
  case y178 => (intro w hSw; unfold HeldC at hSw; go_simp; (try with_reducible rfl); (try omega))
  simp only [List.setIfInBounds_toArray, List.set_cons_zero, List.set_cons_succ]
  refine held_take (v := ?v181) 7 rfl (by kernel_rfl) (by kernel_rfl) (by kernel_rfl) (fun _ _ _ h => h) (by rfl) ?y181 (by assumption) ?_
  case y181 => (intro w hSw; unfold HeldC at hSw; go_simp; (try with_reducible rfl); (try omega))
  simp only [List.setIfInBounds_toArray, List.set_cons_zero, List.set_cons_succ]
  refine held_take (v := .bool false) 8 rfl (by kernel_rfl) (by kernel_rfl) (by kernel_rfl) (fun _ _ _ h => h) (by rfl) (fun W hSw => (by have hq : decide (T.room ≤ T.count) = false := decide_eq_false (by omega); go_simp; (try simp [hroom]))) (by assumption) ?_
  simp only [List.setIfInBounds_toArray, List.set_cons_zero, List.set_cons_succ]
  refine wpAnyH_done (by kernel_rfl) ?_ _
  refine NoPanic.normal ?_
  have c2 := h4.c2
  have z2 : W4.frozen? ⟨g, 2, none⟩ = false := h4.box.frozen 2
  have H5 := Lib.hid (h4.setCount (T.count + 1))
  have HU5 := Lib.hid (hu4.trans (Upd.setCell g 2 (.int .i64 (T.count + 1)) h4.inG))
  have hgw : g < w.heap.size := HXL.out g h4.inG
  have HX5 := Lib.hid (hx4.setOther (k := g) (by omega) 2 (.int .i64 (T.count + 1)))
  clear h4 hu4 hx4 hHeld
  go_wp2
  have h4 := H5.out
  have hu4 := HU5.out
  have hx4 := HX5.out
  clear H5 HU5 HX5 c2 z2
  generalize hWW : W4.setCell ⟨g, 2, none⟩ (.int .i64 (T.count + 1)) = W45 at *
  clear hWW
  refine wp_region_noPanic ?_
  refine wp_region_held_drew (S := HeldR w.heap.size 32 p.row) (by kernel_rfl) hx4 (fun hHeld => ?_)
  have h5 := tab_drew h4
  have hu5 := upd_drew hu4
  clear h4 hu4 hx4
  generalize hWd : W45.drew = W5 at *
  clear hWd
  have c3 := h5.c3
  refine held_take (v := ?v210) 0 rfl (by kernel_rfl) (by kernel_rfl) (by kernel_rfl) (fun _ _ _ h => h) (by rfl) ?y210 (by assumption) ?_
  case y210 => (intro w hSw; unfold HeldR at hSw; go_simp; (try with_reducible rfl); (try omega))
  simp only [List.setIfInBounds_toArray, List.set_cons_zero, List.set_cons_succ]
  refine held_take (v := ?v213) 1 rfl (by kernel_rfl) (by kernel_rfl) (by kernel_rfl) (fun _ _ _ h => h) (by rfl) ?y213 (by assumption) ?_
  case y213 => (intro w hSw; unfold HeldR at hSw; go_simp; (try with_reducible rfl); (try omega))
  simp only [List.setIfInBounds_toArray, List.set_cons_zero, List.set_cons_succ]
  refine held_take (v := ?v216) 2 rfl (by kernel_rfl) (by kernel_rfl) (by kernel_rfl) (fun _ _ _ h => h) (by rfl) ?y216 (by assumption) ?_
  case y216 => (intro w hSw; unfold HeldR at hSw; go_simp; (try with_reducible rfl); (try omega))
  simp only [List.setIfInBounds_toArray, List.set_cons_zero, List.set_cons_succ]
  refine held_take (v := ?v219) 3 rfl (by kernel_rfl) (by kernel_rfl) (by kernel_rfl) (fun _ _ _ h => h) (by rfl) ?y219 (by assumption) ?_
  case y219 => (intro w hSw; unfold HeldR at hSw; go_simp; (try with_reducible rfl); (try omega))
  simp only [List.setIfInBounds_toArray, List.set_cons_zero, List.set_cons_succ]
  refine held_take (v := ?v222) 4 rfl (by kernel_rfl) (by kernel_rfl) (by kernel_rfl) (fun _ _ _ h => h) (by rfl) ?y222 (by assumption) ?_
  case y222 => (intro w hSw; unfold HeldR at hSw; go_simp; (try with_reducible rfl); (try omega))
  simp only [List.setIfInBounds_toArray, List.set_cons_zero, List.set_cons_succ]
  refine held_take (v := p.val) 6 rfl (by kernel_rfl) (by kernel_rfl) (by kernel_rfl) (fun _ _ _ h => h) (by rfl) (fun W hSw => exec_load_any _ (.tmp 4) rfl w.heap.size 0 p.row _ rfl (rangeAll hSw) Try.underlying32 rfl (pf_infoC HP.out)) (by assumption) ?_
  simp only [List.setIfInBounds_toArray, List.set_cons_zero, List.set_cons_succ]
  refine held_take (v := ?v227) 7 rfl (by kernel_rfl) (by kernel_rfl) (by kernel_rfl) (fun _ _ _ h => h) (by rfl) ?y227 (by assumption) ?_
  case y227 => (intro w hSw; unfold HeldR at hSw; go_simp; (try with_reducible rfl); (try omega))
  simp only [List.setIfInBounds_toArray, List.set_cons_zero, List.set_cons_succ]
  refine held_take (v := itV p x) 8 rfl (by kernel_rfl) (by kernel_rfl) (by kernel_rfl) (fun _ _ _ h => h) (by rfl) (fun W hSw => exec_build2 _ 0 1 (.tmp 43) (.tmp 44) rfl p.val (.int .i64 x) (itR p x) rfl rfl (built_it2 p HP.out x)) (by assumption) ?_
  simp only [List.setIfInBounds_toArray, List.set_cons_zero, List.set_cons_succ]
  refine held_one 5 rfl (by kernel_rfl) (by rfl) (fun K hK => ?_)
  go_simp
  refine hK.out _ _ hHeld (fun _ => ?_)
  clear hK K
  (try simp only [List.setIfInBounds_toArray, List.set_cons_zero, List.set_cons_succ])
  refine held_one 9 rfl (by kernel_rfl) (by rfl) (fun K hK => ?_)
  go_simp
  refine (HPUT.out _ X ⟨_, _, _, h5⟩).mono ?_
  rintro e w6 ⟨rfl, X6, ⟨gn6, cap6, vf6, h6⟩, hu6⟩
  have hX0 : ¬ X w.heap.size := fun hx => by have := HXL.out _ hx; omega
  have hH6 : HeldR w.heap.size 32 p.row w6 := Bx.upd hHeld hu6 hX0
  refine hK.out _ _ hH6 (fun _ => ?_)
  clear hK K c3
  refine held_take (v := ?v245) 10 rfl (by kernel_rfl) (by kernel_rfl) (by kernel_rfl) (fun _ _ _ h => h) (by rfl) ?y245 (by assumption) ?_
  case y245 => (intro w hSw; unfold HeldR at hSw; go_simp; (try with_reducible rfl); (try omega))
  simp only [List.setIfInBounds_toArray, List.set_cons_zero, List.set_cons_succ]
  refine held_take (v := ?v248) 11 rfl (by kernel_rfl) (by kernel_rfl) (by kernel_rfl) (fun _ _ _ h => h) (by rfl) ?y248 (by assumption) ?_
  case y248 => (intro w hSw; unfold HeldR at hSw; go_simp; (try with_reducible rfl); (try omega))
  simp only [List.setIfInBounds_toArray, List.set_cons_zero, List.set_cons_succ]
  have c3 := h6.c3
  have z3 : w6.frozen? ⟨g, 3, none⟩ = false := h6.box.frozen 3
  have h7 := h6.setRoot r
  have hu7 := (hu5.trans hu6).trans (Upd.setCell g 3 (.int .i64 (r : Int)) h6.inG)
  have hH7 : HeldR w.heap.size 32 p.row (w6.setCell ⟨g, 3, none⟩ (.int .i64 (r : Int))) := Bx.setOther hH6 (by omega) _ _
  refine held_none 12 rfl (by kernel_rfl) (by rfl) (fun K hK => ?_)
  go_simp
  refine hK.out _ _ hH7 (fun _ => ?_)
  clear hK K c3 z3
  refine wpAnyH_done (by kernel_rfl) ?_ _
  refine NoPanic.normal ?_
  go_wp2
  go_ret
  exact ⟨rfl, X6, ⟨_, _, _, h7⟩, hu7⟩
set_option maxRecDepth 100000 in
set_option maxHeartbeats 4000000 in
theorem del_some (T T1 : Tb) (p : Pfx) (w : World) (X : Nat → Prop) (g : Nat) (h : TabM w X g T) (hp : p.addr.length = 16) (ht : (chkP p && (p.six == T.six)) = true) (f : Nat) (items : List (Pfx × Int)) (hI : aboveN f T.nds T.root p = some items) (v0 : Int) (hg : getI p items = some v0) (hc0 : 0 ≤ T.count) (hc1 : T.count ≤ 1000000)
    (r F : Nat) (hput : remN F { T with count := T.count - 1 } T.root p = some (r, T1)) (hl : T.free.length + F ≤ 1000000) :
    Calls Try.prog 12 #[.pointer (some ⟨g, 0, none⟩), p.val] w fun e w' => e = .returned (.int .i64 0) ∧ ∃ X', TabM w' X' g { T1 with root := r } ∧ Upd w X w' X' := by
  have hb : Below w.heap.size w (w.alloc (.cells p.row.toArray 32)) := (Below.refl _ _).alloc (Nat.le_refl _) _
  have HT := Lib.hid (fun W (hW : TabM W X g T) => takes_any T p W X g hW hp)
  rw [ht] at HT
  have HGT := Lib.hid (fun W (hW : TabM W X g T) => get_tab T p W X g hW hp ht f items hI)
  rw [hg] at HGT
  have H1 := Lib.hid (h.up hb)
  have HX := Lib.hid (Bx.new w 32 p.row)
  have R0 := Lib.hid (rangeAll HX.out)
  have HP := Lib.hid hp
  have HB := Lib.hid hb
  have HXL := Lib.hid h.low
  rw [show p.val = .agg p.row.toArray from rfl]
  have HPUT := Lib.hid (fun W X (hW : TabM W X g { T with count := T.count - 1 }) => rem_any F { T with count := T.count - 1 } T1 T.root r p W X g hW hp hput hl)
  unfold LaidT at HPUT
  clear h hp hb
  go_enter Try.func12, Try.ntmps12
  go_wp2_with (first
    | (refine wpList_load_any rfl 32 (.tmp 3) rfl w.heap.size 0 p.row _ rfl R0.out Try.underlying32 rfl (pf_infoC HP.out) ?_)
    | (go_at_call 25; refine (HT.out _ H1.out).mono ?_; rintro e w1 ⟨rfl, b1⟩; refine Hid.out ?_))
  refine Lib.hid ?_
  have h2 := H1.out.up b1
  have B2 := below_up HB.out b1 HB.out.size
  have hx2 := HX.out.up b1
  have R1 := Lib.hid (rangeAll hx2)
  clear H1 HB R0 b1
  go_wp2_with (first
    | (refine wpList_load_any rfl 32 (.tmp 3) rfl w.heap.size 0 p.row _ rfl R1.out Try.underlying32 rfl (pf_infoC HP.out) ?_)
    | (go_at_call 14; refine (HGT.out _ h2).mono ?_; rintro e w2 ⟨rfl, b2⟩; refine Hid.out ?_))
  refine Lib.hid ?_
  have h3 := h2.up b2
  have B3 := below_up B2 b2 B2.size
  have hx3 := hx2.up b2
  clear h2 B2 R1 b2 hx2
  obtain ⟨gn, cap, vf, h3⟩ := h3
  have h4 := h3
  have hu4 := Upd.of_below X B3
  have hx4 := hx3
  clear h3 B3 hx3
  have c2 := h4.c2
  have z2 : w2.frozen? ⟨g, 2, none⟩ = false := h4.box.frozen 2
  have H5 := Lib.hid (h4.setCount (T.count - 1))
  have HU5 := Lib.hid (hu4.trans (Upd.setCell g 2 (.int .i64 (T.count - 1)) h4.inG))
  have hgw : g < w.heap.size := HXL.out g h4.inG
  have HX5 := Lib.hid (hx4.setOther (k := g) (by omega) 2 (.int .i64 (T.count - 1)))
  clear h4 hu4 hx4
  go_wp2
  have h4 := H5.out
  have hu4 := HU5.out
  have hx4 := HX5.out
  clear H5 HU5 HX5 c2 z2
  generalize hWW : w2.setCell ⟨g, 2, none⟩ (.int .i64 (T.count - 1)) = W45 at *
  clear hWW
  refine wp_region_noPanic ?_
  refine wp_region_held_drew (S := HeldR w.heap.size 32 p.row) (by kernel_rfl) hx4 (fun hHeld => ?_)
  have h5 := tab_drew h4
  have hu5 := upd_drew hu4
  clear h4 hu4 hx4
  generalize hWd : W45.drew = W5 at *
  clear hWd
  have c3 := h5.c3
  refine held_take (v := ?v330) 0 rfl (by kernel_rfl) (by kernel_rfl) (by kernel_rfl) (fun _ _ _ h => h) (by rfl) ?y330 (by assumption) ?_
  case y330 => (intro w hSw; unfold HeldR at hSw; go_simp; (try with_reducible rfl); (try omega))
  simp only [List.setIfInBounds_toArray, List.set_cons_zero, List.set_cons_succ]
  refine held_take (v := ?v333) 1 rfl (by kernel_rfl) (by kernel_rfl) (by kernel_rfl) (fun _ _ _ h => h) (by rfl) ?y333 (by assumption) ?_
  case y333 => (intro w hSw; unfold HeldR at hSw; go_simp; (try with_reducible rfl); (try omega))
  simp only [List.setIfInBounds_toArray, List.set_cons_zero, List.set_cons_succ]
  refine held_take (v := ?v336) 2 rfl (by kernel_rfl) (by kernel_rfl) (by kernel_rfl) (fun _ _ _ h => h) (by rfl) ?y336 (by assumption) ?_
  case y336 => (intro w hSw; unfold HeldR at hSw; go_simp; (try with_reducible rfl); (try omega))
  simp only [List.setIfInBounds_toArray, List.set_cons_zero, List.set_cons_succ]
  refine held_take (v := ?v339) 3 rfl (by kernel_rfl) (by kernel_rfl) (by kernel_rfl) (fun _ _ _ h => h) (by rfl) ?y339 (by assumption) ?_
  case y339 => (intro w hSw; unfold HeldR at hSw; go_simp; (try with_reducible rfl); (try omega))
  simp only [List.setIfInBounds_toArray, List.set_cons_zero, List.set_cons_succ]
  refine held_take (v := ?v342) 4 rfl (by kernel_rfl) (by kernel_rfl) (by kernel_rfl) (fun _ _ _ h => h) (by rfl) ?y342 (by assumption) ?_
  case y342 => (intro w hSw; unfold HeldR at hSw; go_simp; (try with_reducible rfl); (try omega))
  simp only [List.setIfInBounds_toArray, List.set_cons_zero, List.set_cons_succ]
  refine held_take (v := p.val) 6 rfl (by kernel_rfl) (by kernel_rfl) (by kernel_rfl) (fun _ _ _ h => h) (by rfl) (fun W hSw => exec_load_any _ (.tmp 3) rfl w.heap.size 0 p.row _ rfl (rangeAll hSw) Try.underlying32 rfl (pf_infoC HP.out)) (by assumption) ?_
  simp only [List.setIfInBounds_toArray, List.set_cons_zero, List.set_cons_succ]
  refine held_one 5 rfl (by kernel_rfl) (by rfl) (fun K hK => ?_)
  go_simp
  refine hK.out _ _ hHeld (fun _ => ?_)
  clear hK K
  (try simp only [List.setIfInBounds_toArray, List.set_cons_zero, List.set_cons_succ])
  refine held_one 7 rfl (by kernel_rfl) (by rfl) (fun K hK => ?_)
  go_simp
  refine (HPUT.out _ X ⟨_, _, _, h5⟩).mono ?_
  rintro e w6 ⟨rfl, X6, ⟨gn6, cap6, vf6, h6⟩, hu6⟩
  have hX0 : ¬ X w.heap.size := fun hx => by have := HXL.out _ hx; omega
  have hH6 : HeldR w.heap.size 32 p.row w6 := Bx.upd hHeld hu6 hX0
  refine hK.out _ _ hH6 (fun _ => ?_)
  clear hK K c3
  refine held_take (v := ?v360) 8 rfl (by kernel_rfl) (by kernel_rfl) (by kernel_rfl) (fun _ _ _ h => h) (by rfl) ?y360 (by assumption) ?_
  case y360 => (intro w hSw; unfold HeldR at hSw; go_simp; (try with_reducible rfl); (try omega))
  simp only [List.setIfInBounds_toArray, List.set_cons_zero, List.set_cons_succ]
  refine held_take (v := ?v363) 9 rfl (by kernel_rfl) (by kernel_rfl) (by kernel_rfl) (fun _ _ _ h => h) (by rfl) ?y363 (by assumption) ?_
  case y363 => (intro w hSw; unfold HeldR at hSw; go_simp; (try with_reducible rfl); (try omega))
  simp only [List.setIfInBounds_toArray, List.set_cons_zero, List.set_cons_succ]
  have c3 := h6.c3
  have z3 : w6.frozen? ⟨g, 3, none⟩ = false := h6.box.frozen 3
  have h7 := h6.setRoot r
  have hu7 := (hu5.trans hu6).trans (Upd.setCell g 3 (.int .i64 (r : Int)) h6.inG)
  have hH7 : HeldR w.heap.size 32 p.row (w6.setCell ⟨g, 3, none⟩ (.int .i64 (r : Int))) := Bx.setOther hH6 (by omega) _ _
  refine held_none 10 rfl (by kernel_rfl) (by rfl) (fun K hK => ?_)
  go_simp
  refine hK.out _ _ hH7 (fun _ => ?_)
  clear hK K c3 z3
  refine wpAnyH_done (by kernel_rfl) ?_ _
  refine NoPanic.normal ?_
  go_wp2
  go_ret
  exact ⟨rfl, X6, ⟨_, _, _, h7⟩, hu7⟩
set_option maxRecDepth 100000 in
set_option maxHeartbeats 4000000 in
theorem del_none (T : Tb) (p : Pfx) (w : World) (X : Nat → Prop) (g : Nat) (h : TabM w X g T) (hp : p.addr.length = 16) (ht : (chkP p && (p.six == T.six)) = true) (f : Nat) (items : List (Pfx × Int)) (hI : aboveN f T.nds T.root p = some items) (hg : getI p items = none):
    Calls Try.prog 12 #[.pointer (some ⟨g, 0, none⟩), p.val] w fun e w' => e = .returned (.int .i64 31) ∧ Below w.heap.size w w' := by
  have hb : Below w.heap.size w (w.alloc (.cells p.row.toArray 32)) := (Below.refl _ _).alloc (Nat.le_refl _) _
  have HT := Lib.hid (fun W (hW : TabM W X g T) => takes_any T p W X g hW hp)
  rw [ht] at HT
  have HGT := Lib.hid (fun W (hW : TabM W X g T) => get_tab T p W X g hW hp ht f items hI)
  rw [hg] at HGT
  have H1 := Lib.hid (h.up hb)
  have HX := Lib.hid (Bx.new w 32 p.row)
  have R0 := Lib.hid (rangeAll HX.out)
  have HP := Lib.hid hp
  have HB := Lib.hid hb
  rw [show p.val = .agg p.row.toArray from rfl]
  clear h hp hb
  go_enter Try.func12, Try.ntmps12
  go_wp2_with (first
    | (refine wpList_load_any rfl 32 (.tmp 3) rfl w.heap.size 0 p.row _ rfl R0.out Try.underlying32 rfl (pf_infoC HP.out) ?_)
    | (go_at_call 25; refine (HT.out _ H1.out).mono ?_; rintro e w1 ⟨rfl, b1⟩; refine Hid.out ?_))
  refine Lib.hid ?_
  have h2 := H1.out.up b1
  have B2 := below_up HB.out b1 HB.out.size
  have hx2 := HX.out.up b1
  have R1 := Lib.hid (rangeAll hx2)
  clear H1 HB R0 b1
  go_wp2_with (first
    | (refine wpList_load_any rfl 32 (.tmp 3) rfl w.heap.size 0 p.row _ rfl R1.out Try.underlying32 rfl (pf_infoC HP.out) ?_)
    | (go_at_call 14; refine (HGT.out _ h2).mono ?_; rintro e w2 ⟨rfl, b2⟩; refine Hid.out ?_))
  refine Lib.hid ?_
  have B3 := below_up B2 b2 B2.size
  clear h2 B2 R1 b2 hx2
  go_wp2
  go_ret
  exact ⟨rfl, B3⟩
end Go.Proofs.Ytbbmckmhgggeeaa
