/- New, Put and Delete of package lpm. Put and Delete of package lpm, where they are done. -/
import Derived.Test.YtgimcapcnidjjaaT9l
import Derived.Test.YtgimcapcnidjjaaTabB
namespace Go.Proofs.Ytgimcapcnidjjaa
open Go Go.RowKit

def tab0 (six : Bool) (room : Int) : Tb := ⟨six, room, 0, 0, [nd0], []⟩
theorem new_none (six : Bool) (room : Int) (w : World) (h : room < 1 ∨ 65536 < room) : Calls Try.prog 29 #[.bool six, .int .i64 room] w fun e w' => e = .returned (.pointer none) ∧ w' = w := by
  rcases h with h | h
  · go_enter Try.func29, Try.ntmps29
    go_wp2
    go_ret
    exact ⟨rfl, rfl⟩
  · have h1 : ¬ room < 1 := by omega
    go_enter Try.func29, Try.ntmps29
    go_wp2
    go_ret
    exact ⟨rfl, rfl⟩
theorem nd0_cells : (#[.bool false, .int .u8 0, .int .u8 0, .int .u8 0, .int .u8 0, .int .u8 0, .int .u8 0, .int .u8 0, .int .u8 0, .int .u8 0, .int .u8 0, .int .u8 0, .int .u8 0, .int .u8 0, .int .u8 0, .int .u8 0, .int .u8 0, .int .i64 0, .int .i64 0, .bool false, .int .i64 0, .int .i64 0] : Array Value) = nd0.row.toArray := rfl
set_option maxRecDepth 100000 in
theorem new_some (six : Bool) (room : Int) (w : World) (h1 : 1 ≤ room) (h2 : room ≤ 65536) : Calls Try.prog 29 #[.bool six, .int .i64 room] w fun e w' => ∃ g X, e = .returned (.pointer (some ⟨g, 0, none⟩)) ∧ TabM w' X g (tab0 six room) ∧ Below w.heap.size w w' ∧ (∀ k, X k → w.heap.size ≤ k) := by
  have hm : (Instr.makeSlice 95 (.int .i64 1) (.int .i64 1)).run Try.prog w = .ok (.slice (some ⟨w.heap.size, 0, none⟩) 1 1) (w.alloc (.cells nd0.row.toArray 111)) := by
    obtain ⟨ti, hti, htz, hts, htb⟩ := info_parts nd_infoF
    have := run_makeSlice (P := Try.prog) w 95 111 ti nd0.val Try.underlying95 hti htz .i64 .i64 1 1 (by omega) (by omega) (by rw [hts]; decide) (by rw [htb]; decide) (by omega)
    rw [hts] at this
    rw [this, show madeCells nd0.val.cells (Int.toNat 1 * 22) = nd0.row.toArray by kernel_rfl]
    rfl
  have HB := Lib.hid (show Below w.heap.size w ((w.alloc (.cells nd0.row.toArray 111)).alloc (.cells #[.bool six, .int .i64 room, .int .i64 0, .int .i64 0, .slice (some ⟨w.heap.size, 0, none⟩) 1 1, .slice none 0 0] 98)) from ((Below.refl _ _).alloc (Nat.le_refl _) _).alloc (by simp) _)
  go_enter Try.func29, Try.ntmps29
  go_wp2
  go_ret
  refine ⟨w.heap.size + 1, fun k => k = w.heap.size ∨ k = w.heap.size + 1, rfl, ⟨w.heap.size, 1, .slice none 0 0, ?_, ?_, World.ownsRow_nil _ _ _ _, ?_, .inr rfl, .inl rfl, (fun k e => by cases e), ?_⟩, HB.out, ?_⟩
  · have := Bx.new (w.alloc (.cells nd0.row.toArray 111)) 98 ((tab0 six room).head (.slice (some ⟨w.heap.size, 0, none⟩) 1 1) (.slice none 0 0))
    rw [World.size_alloc] at this
    exact this
  · refine ⟨rfl, .inr ⟨w.heap.size, 1, nd0.row.toArray, rfl, by omega, ?_, by simp [tab0], by simp [maxLen], rfl, rfl⟩⟩
    exact ((Bx.new w 111 nd0.row).al _)
  · intro d hd
    simp only [tab0, List.mem_singleton] at hd
    rw [hd]
    rfl
  · intro k hk
    simp
    omega
  · intro k hk
    omega
def ItemP (X : Nat → Prop) (w : World) (g : Nat) (T' : Tb) (e : Ending) (c : Int) (w' : World) : Prop := e = .returned (.int .i64 c) ∧ ∃ X', TabM w' X' g T' ∧ Upd w X w' X'
set_option maxRecDepth 100000 in
set_option maxHeartbeats 4000000 in
theorem put_no (v : Value) (p : Pfx) (x : Int) (w : World) (hp : p.addr.length = 16)
    (HT : ∀ W, Below w.heap.size w W → Calls Try.prog 53 #[v, p.val] W fun e w' => e = .returned (.bool false) ∧ Below W.heap.size W w') :
    Calls Try.prog 31 #[v, p.val, .int .i64 x] w fun e w' => e = .returned (.int .i64 1) ∧ Below w.heap.size w w' := by
  have hb : Below w.heap.size w (w.alloc (.cells p.row.toArray 25)) := (Below.refl _ _).alloc (Nat.le_refl _) _
  have HT2 := Lib.hid (HT _ hb)
  have R0 := Lib.hid (rangeAll (Bx.new w 25 p.row))
  have HP := Lib.hid hp
  have HB := Lib.hid hb
  rw [show p.val = .agg p.row.toArray from rfl]
  clear hp HT hb
  go_enter Try.func31, Try.ntmps31
  go_wp2_with (first
    | (refine wpList_load_any rfl 25 (.tmp 4) rfl w.heap.size 0 p.row _ rfl R0.out Try.underlying25 rfl (pf_infoC HP.out) ?_)
    | (go_at_call 53; refine HT2.out.mono ?_; rintro e w1 ⟨rfl, b1⟩; refine Hid.out ?_))
  refine Lib.hid ?_
  go_wp2
  go_ret
  exact ⟨rfl, below_up HB.out b1 HB.out.size⟩
set_option maxRecDepth 100000 in
set_option maxHeartbeats 4000000 in
theorem del_no (v : Value) (p : Pfx) (w : World) (hp : p.addr.length = 16)
    (HT : ∀ W, Below w.heap.size w W → Calls Try.prog 53 #[v, p.val] W fun e w' => e = .returned (.bool false) ∧ Below W.heap.size W w') :
    Calls Try.prog 34 #[v, p.val] w fun e w' => e = .returned (.int .i64 1) ∧ Below w.heap.size w w' := by
  have hb : Below w.heap.size w (w.alloc (.cells p.row.toArray 25)) := (Below.refl _ _).alloc (Nat.le_refl _) _
  have HT2 := Lib.hid (HT _ hb)
  have R0 := Lib.hid (rangeAll (Bx.new w 25 p.row))
  have HP := Lib.hid hp
  have HB := Lib.hid hb
  rw [show p.val = .agg p.row.toArray from rfl]
  clear hp HT hb
  go_enter Try.func34, Try.ntmps34
  go_wp2_with (first
    | (refine wpList_load_any rfl 25 (.tmp 3) rfl w.heap.size 0 p.row _ rfl R0.out Try.underlying25 rfl (pf_infoC HP.out) ?_)
    | (go_at_call 53; refine HT2.out.mono ?_; rintro e w1 ⟨rfl, b1⟩; refine Hid.out ?_))
  refine Lib.hid ?_
  go_wp2
  go_ret
  exact ⟨rfl, below_up HB.out b1 HB.out.size⟩
def HeldC (g : Nat) (c r : Int) (W : World) : Prop := W.cell? ⟨g, 2, none⟩ = some (.int .i64 c) ∧ W.cell? ⟨g, 1, none⟩ = some (.int .i64 r)
/-- Put of a prefix that may be: what it answers, by what Get told. -/
theorem upd_drew {w W : World} {X X' : Nat → Prop} (h : Upd w X W X') : Upd w X W.drew X' := ⟨h.os, h.tape, h.output, h.size, h.block, h.sub⟩
theorem tab_drew {W : World} {X : Nat → Prop} {g gn cap : Nat} {T : Tb} {vf : Value} (h : TabG W X g T gn cap vf) : TabG W.drew X g T gn cap vf := ⟨h.box, h.nds, h.free, h.addr, h.inG, h.inN, h.inF, h.low⟩
set_option maxRecDepth 100000 in
set_option maxHeartbeats 4000000 in
theorem put_full (T : Tb) (p : Pfx) (x : Int) (w : World) (X : Nat → Prop) (g : Nat) (h : TabM w X g T) (hp : p.addr.length = 16) (ht : (chkP p && (p.six == T.six)) = true) (f : Nat) (items : List (Pfx × Int)) (hI : aboveN f T.nds T.root p = some items) (hg : getI p items = none) (hfull : T.room ≤ T.count) :
    Calls Try.prog 31 #[.pointer (some ⟨g, 0, none⟩), p.val, .int .i64 x] w fun e w' => e = .returned (.int .i64 30) ∧ Below w.heap.size w w' := by
  have hb : Below w.heap.size w (w.alloc (.cells p.row.toArray 25)) := (Below.refl _ _).alloc (Nat.le_refl _) _
  have HT := Lib.hid (fun W (hW : TabM W X g T) => takes_any T p W X g hW hp)
  rw [ht] at HT
  have HGT := Lib.hid (fun W (hW : TabM W X g T) => get_tab T p W X g hW hp ht f items hI)
  rw [hg] at HGT
  have H1 := Lib.hid (h.up hb)
  have HX := Lib.hid (Bx.new w 25 p.row)
  have R0 := Lib.hid (rangeAll HX.out)
  have HP := Lib.hid hp
  have HB := Lib.hid hb
  rw [show p.val = .agg p.row.toArray from rfl]
  clear h hp hb
  go_enter Try.func31, Try.ntmps31
  go_wp2_with (first
    | (refine wpList_load_any rfl 25 (.tmp 4) rfl w.heap.size 0 p.row _ rfl R0.out Try.underlying25 rfl (pf_infoC HP.out) ?_)
    | (go_at_call 53; refine (HT.out _ H1.out).mono ?_; rintro e w1 ⟨rfl, b1⟩; refine Hid.out ?_))
  refine Lib.hid ?_
  have h2 := H1.out.up b1
  have B2 := below_up HB.out b1 HB.out.size
  have R1 := Lib.hid (rangeAll (HX.out.up b1))
  clear H1 HB R0 b1
  go_wp2_with (first
    | (refine wpList_load_any rfl 25 (.tmp 4) rfl w.heap.size 0 p.row _ rfl R1.out Try.underlying25 rfl (pf_infoC HP.out) ?_)
    | (go_at_call 38; refine (HGT.out _ h2).mono ?_; rintro e w2 ⟨rfl, b2⟩; refine Hid.out ?_))
  refine Lib.hid ?_
  have h3 := h2.up b2
  have B3 := below_up B2 b2 B2.size
  clear h2 B2 R1 b2
  obtain ⟨gn, cap, vf, h3⟩ := h3
  go_wp2
  refine wp_region_noPanic ?_
  refine wp_region_held_drew (S := HeldC g T.count T.room) (by kernel_rfl) ⟨h3.c2, h3.c1⟩ (fun hHeld => ?_)
  refine held_take (v := ?v127) 0 rfl (by kernel_rfl) (by kernel_rfl) (by kernel_rfl) (fun _ _ _ h => h) (by rfl) ?y127 (by assumption) ?_
  case y127 => (intro w hSw; unfold HeldC at hSw; go_simp; (try with_reducible rfl); (try omega))
  simp only [List.setIfInBounds_toArray, List.set_cons_zero, List.set_cons_succ]
  refine held_take (v := ?v130) 1 rfl (by kernel_rfl) (by kernel_rfl) (by kernel_rfl) (fun _ _ _ h => h) (by rfl) ?y130 (by assumption) ?_
  case y130 => (intro w hSw; unfold HeldC at hSw; go_simp; (try with_reducible rfl); (try omega))
  simp only [List.setIfInBounds_toArray, List.set_cons_zero, List.set_cons_succ]
  refine held_take (v := ?v133) 2 rfl (by kernel_rfl) (by kernel_rfl) (by kernel_rfl) (fun _ _ _ h => h) (by rfl) ?y133 (by assumption) ?_
  case y133 => (intro w hSw; unfold HeldC at hSw; go_simp; (try with_reducible rfl); (try omega))
  simp only [List.setIfInBounds_toArray, List.set_cons_zero, List.set_cons_succ]
  refine held_take (v := ?v136) 3 rfl (by kernel_rfl) (by kernel_rfl) (by kernel_rfl) (fun _ _ _ h => h) (by rfl) ?y136 (by assumption) ?_
  case y136 => (intro w hSw; unfold HeldC at hSw; go_simp; (try with_reducible rfl); (try omega))
  simp only [List.setIfInBounds_toArray, List.set_cons_zero, List.set_cons_succ]
  refine held_take (v := ?v139) 4 rfl (by kernel_rfl) (by kernel_rfl) (by kernel_rfl) (fun _ _ _ h => h) (by rfl) ?y139 (by assumption) ?_
  case y139 => (intro w hSw; unfold HeldC at hSw; go_simp; (try with_reducible rfl); (try omega))
  simp only [List.setIfInBounds_toArray, List.set_cons_zero, List.set_cons_succ]
  refine held_take (v := ?v142) 5 rfl (by kernel_rfl) (by kernel_rfl) (by kernel_rfl) (fun _ _ _ h => h) (by rfl) ?y142 (by assumption) ?_
  case y142 => (intro w hSw; unfold HeldC at hSw; go_simp; (try with_reducible rfl); (try omega))
  simp only [List.setIfInBounds_toArray, List.set_cons_zero, List.set_cons_succ]
  refine held_take (v := ?v145) 6 rfl (by kernel_rfl) (by kernel_rfl) (by kernel_rfl) (fun _ _ _ h => h) (by rfl) ?y145 (by assumption) ?_
  case y145 => (intro w hSw; unfold HeldC at hSw; go_simp; (try with_reducible rfl); (try omega))
  simp only [List.setIfInBounds_toArray, List.set_cons_zero, List.set_cons_succ]
  refine held_take (v := ?v148) 7 rfl (by kernel_rfl) (by kernel_rfl) (by kernel_rfl) (fun _ _ _ h => h) (by rfl) ?y148 (by assumption) ?_
  case y148 => (intro w hSw; unfold HeldC at hSw; go_simp; (try with_reducible rfl); (try omega))
  simp only [List.setIfInBounds_toArray, List.set_cons_zero, List.set_cons_succ]
  refine held_take (v := .bool true) 8 rfl (by kernel_rfl) (by kernel_rfl) (by kernel_rfl) (fun _ _ _ h => h) (by rfl) (fun W hSw => (by have hq : decide (T.room ≤ T.count) = true := decide_eq_true hfull; go_simp; (try simp [hfull]))) (by assumption) ?_
  simp only [List.setIfInBounds_toArray, List.set_cons_zero, List.set_cons_succ]
  refine wpAnyH_done (by kernel_rfl) ?_ _
  refine NoPanic.normal ?_
  go_wp2
  go_ret
  exact ⟨rfl, B3.drew⟩
end Go.Proofs.Ytgimcapcnidjjaa
namespace Go.Proofs.Ytgimcapcnidjjaa
open Go Go.RowKit

set_option maxRecDepth 100000 in
set_option maxHeartbeats 4000000 in
theorem put_over (T T1 : Tb) (p : Pfx) (x : Int) (w : World) (X : Nat → Prop) (g : Nat) (h : TabM w X g T) (hp : p.addr.length = 16) (ht : (chkP p && (p.six == T.six)) = true) (f : Nat) (items : List (Pfx × Int)) (hI : aboveN f T.nds T.root p = some items) (v0 : Int) (hg : getI p items = some v0)
    (r F : Nat) (hput : putN F T T.root p x = some (r, T1)) (hl : T.nds.length + F ≤ 1000000) :
    Calls Try.prog 31 #[.pointer (some ⟨g, 0, none⟩), p.val, .int .i64 x] w fun e w' => e = .returned (.int .i64 0) ∧ ∃ X', TabM w' X' g { T1 with root := r } ∧ Upd w X w' X' := by
  have hb : Below w.heap.size w (w.alloc (.cells p.row.toArray 25)) := (Below.refl _ _).alloc (Nat.le_refl _) _
  have HT := Lib.hid (fun W (hW : TabM W X g T) => takes_any T p W X g hW hp)
  rw [ht] at HT
  have HGT := Lib.hid (fun W (hW : TabM W X g T) => get_tab T p W X g hW hp ht f items hI)
  rw [hg] at HGT
  have H1 := Lib.hid (h.up hb)
  have HX := Lib.hid (Bx.new w 25 p.row)
  have R0 := Lib.hid (rangeAll HX.out)
  have HP := Lib.hid hp
  have HB := Lib.hid hb
  have HXL := Lib.hid h.low
  rw [show p.val = .agg p.row.toArray from rfl]
  have HPUT := Lib.hid (fun W X (hW : TabM W X g T) => put_any F T T1 T.root r p x W X g hW hp hput hl)
  unfold LaidT at HPUT
  clear h hp hb
  go_enter Try.func31, Try.ntmps31
  go_wp2_with (first
    | (refine wpList_load_any rfl 25 (.tmp 4) rfl w.heap.size 0 p.row _ rfl R0.out Try.underlying25 rfl (pf_infoC HP.out) ?_)
    | (go_at_call 53; refine (HT.out _ H1.out).mono ?_; rintro e w1 ⟨rfl, b1⟩; refine Hid.out ?_))
  refine Lib.hid ?_
  have h2 := H1.out.up b1
  have B2 := below_up HB.out b1 HB.out.size
  have hx2 := HX.out.up b1
  have R1 := Lib.hid (rangeAll hx2)
  clear H1 HB R0 b1
  go_wp2_with (first
    | (refine wpList_load_any rfl 25 (.tmp 4) rfl w.heap.size 0 p.row _ rfl R1.out Try.underlying25 rfl (pf_infoC HP.out) ?_)
    | (go_at_call 38; refine (HGT.out _ h2).mono ?_; rintro e w2 ⟨rfl, b2⟩; refine Hid.out ?_))
  refine Lib.hid ?_
  have h3 := h2.up b2
  have B3 := below_up B2 b2 B2.size
  have hx3 := hx2.up b2
  clear h2 B2 R1 b2 hx2
  obtain ⟨gn, cap, vf, h3⟩ := h3
  have h4 := h3
  have hu4 := Upd.of_below X B3
  have hx4 := hx3
  clear h3 B3 hx3
  go_wp2
  refine wp_region_noPanic ?_
  refine wp_region_held_drew (S := HeldR w.heap.size 25 p.row) (by kernel_rfl) hx4 (fun hHeld => ?_)
  have h5 := tab_drew h4
  have hu5 := upd_drew hu4
  clear h4 hu4 hx4
  generalize hWd : w2.drew = W5 at *
  clear hWd
  have c3 := h5.c3
  refine held_take (v := ?v214) 0 rfl (by kernel_rfl) (by kernel_rfl) (by kernel_rfl) (fun _ _ _ h => h) (by rfl) ?y214 (by assumption) ?_
  case y214 => (intro w hSw; unfold HeldR at hSw; go_simp; (try with_reducible rfl); (try omega))
  simp only [List.setIfInBounds_toArray, List.set_cons_zero, List.set_cons_succ]
  refine held_take (v := ?v217) 1 rfl (by kernel_rfl) (by kernel_rfl) (by kernel_rfl) (fun _ _ _ h => h) (by rfl) ?y217 (by assumption) ?_
  case y217 => (intro w hSw; unfold HeldR at hSw; go_simp; (try with_reducible rfl); (try omega))
  simp only [List.setIfInBounds_toArray, List.set_cons_zero, List.set_cons_succ]
  refine held_take (v := ?v220) 2 rfl (by kernel_rfl) (by kernel_rfl) (by kernel_rfl) (fun _ _ _ h => h) (by rfl) ?y220 (by assumption) ?_
  case y220 => (intro w hSw; unfold HeldR at hSw; go_simp; (try with_reducible rfl); (try omega))
  simp only [List.setIfInBounds_toArray, List.set_cons_zero, List.set_cons_succ]
  refine held_take (v := ?v223) 3 rfl (by kernel_rfl) (by kernel_rfl) (by kernel_rfl) (fun _ _ _ h => h) (by rfl) ?y223 (by assumption) ?_
  case y223 => (intro w hSw; unfold HeldR at hSw; go_simp; (try with_reducible rfl); (try omega))
  simp only [List.setIfInBounds_toArray, List.set_cons_zero, List.set_cons_succ]
  refine held_take (v := ?v226) 4 rfl (by kernel_rfl) (by kernel_rfl) (by kernel_rfl) (fun _ _ _ h => h) (by rfl) ?y226 (by assumption) ?_
  case y226 => (intro w hSw; unfold HeldR at hSw; go_simp; (try with_reducible rfl); (try omega))
  simp only [List.setIfInBounds_toArray, List.set_cons_zero, List.set_cons_succ]
  refine held_take (v := p.val) 6 rfl (by kernel_rfl) (by kernel_rfl) (by kernel_rfl) (fun _ _ _ h => h) (by rfl) (fun W hSw => exec_load_any _ (.tmp 4) rfl w.heap.size 0 p.row _ rfl (rangeAll hSw) Try.underlying25 rfl (pf_infoC HP.out)) (by assumption) ?_
  simp only [List.setIfInBounds_toArray, List.set_cons_zero, List.set_cons_succ]
  refine held_take (v := ?v231) 7 rfl (by kernel_rfl) (by kernel_rfl) (by kernel_rfl) (fun _ _ _ h => h) (by rfl) ?y231 (by assumption) ?_
  case y231 => (intro w hSw; unfold HeldR at hSw; go_simp; (try with_reducible rfl); (try omega))
  simp only [List.setIfInBounds_toArray, List.set_cons_zero, List.set_cons_succ]
  refine held_take (v := itV p x) 8 rfl (by kernel_rfl) (by kernel_rfl) (by kernel_rfl) (fun _ _ _ h => h) (by rfl) (fun W hSw => exec_build2 _ 0 1 (.tmp 43) (.tmp 44) rfl p.val (.int .i64 x) (itR p x) rfl rfl (built_it2 p HP.out x)) (by assumption) ?_
  simp only [List.setIfInBounds_toArray, List.set_cons_zero, List.set_cons_succ]
  refine held_one 5 rfl (by kernel_rfl) (by rfl) (fun K hK => ?_)
  go_simp
  refine hK.out _ _ hHeld (fun _ => ?_)
  clear hK K
  (try simp only [List.setIfInBounds_toArray, List.set_cons_zero, List.set_cons_succ])
  refine held_one 9 rfl (by kernel_rfl) (by rfl) (fun K hK => ?_)
  go_simp
  refine (HPUT.out _ X ⟨_, _, _, h5⟩).mono ?_
  rintro e w6 ⟨rfl, X6, ⟨gn6, cap6, vf6, h6⟩, hu6⟩
  have hX0 : ¬ X w.heap.size := fun hx => by have := HXL.out _ hx; omega
  have hH6 : HeldR w.heap.size 25 p.row w6 := Bx.upd hHeld hu6 hX0
  refine hK.out _ _ hH6 (fun _ => ?_)
  clear hK K c3
  refine held_take (v := ?v249) 10 rfl (by kernel_rfl) (by kernel_rfl) (by kernel_rfl) (fun _ _ _ h => h) (by rfl) ?y249 (by assumption) ?_
  case y249 => (intro w hSw; unfold HeldR at hSw; go_simp; (try with_reducible rfl); (try omega))
  simp only [List.setIfInBounds_toArray, List.set_cons_zero, List.set_cons_succ]
  refine held_take (v := ?v252) 11 rfl (by kernel_rfl) (by kernel_rfl) (by kernel_rfl) (fun _ _ _ h => h) (by rfl) ?y252 (by assumption) ?_
  case y252 => (intro w hSw; unfold HeldR at hSw; go_simp; (try with_reducible rfl); (try omega))
  simp only [List.setIfInBounds_toArray, List.set_cons_zero, List.set_cons_succ]
  have c3 := h6.c3
  have z3 : w6.frozen? ⟨g, 3, none⟩ = false := h6.box.frozen 3
  have h7 := h6.setRoot r
  have hu7 := (hu5.trans hu6).trans (Upd.setCell g 3 (.int .i64 (r : Int)) h6.inG)
  have hgw : g < w.heap.size := HXL.out g h5.inG
  have hH7 : HeldR w.heap.size 25 p.row (w6.setCell ⟨g, 3, none⟩ (.int .i64 (r : Int))) := Bx.setOther hH6 (by omega) _ _
  refine held_none 12 rfl (by kernel_rfl) (by rfl) (fun K hK => ?_)
  go_simp
  refine hK.out _ _ hH7 (fun _ => ?_)
  clear hK K c3 z3
  refine wpAnyH_done (by kernel_rfl) ?_ _
  refine NoPanic.normal ?_
  go_wp2
  go_ret
  exact ⟨rfl, X6, ⟨_, _, _, h7⟩, hu7⟩
set_option maxRecDepth 100000 in
set_option maxHeartbeats 4000000 in
theorem put_new (T T1 : Tb) (p : Pfx) (x : Int) (w : World) (X : Nat → Prop) (g : Nat) (h : TabM w X g T) (hp : p.addr.length = 16) (ht : (chkP p && (p.six == T.six)) = true) (f : Nat) (items : List (Pfx × Int)) (hI : aboveN f T.nds T.root p = some items) (hg : getI p items = none) (hroom : T.count < T.room) (hc0 : 0 ≤ T.count) (hc1 : T.count ≤ 1000000)
    (r F : Nat) (hput : putN F { T with count := T.count + 1 } T.root p x = some (r, T1)) (hl : T.nds.length + F ≤ 1000000) :
    Calls Try.prog 31 #[.pointer (some ⟨g, 0, none⟩), p.val, .int .i64 x] w fun e w' => e = .returned (.int .i64 0) ∧ ∃ X', TabM w' X' g { T1 with root := r } ∧ Upd w X w' X' := by
  have hb : Below w.heap.size w (w.alloc (.cells p.row.toArray 25)) := (Below.refl _ _).alloc (Nat.le_refl _) _
  have HT := Lib.hid (fun W (hW : TabM W X g T) => takes_any T p W X g hW hp)
  rw [ht] at HT
  have HGT := Lib.hid (fun W (hW : TabM W X g T) => get_tab T p W X g hW hp ht f items hI)
  rw [hg] at HGT
  have H1 := Lib.hid (h.up hb)
  have HX := Lib.hid (Bx.new w 25 p.row)
  have R0 := Lib.hid (rangeAll HX.out)
  have HP := Lib.hid hp
  have HB := Lib.hid hb
  have HXL := Lib.hid h.low
  rw [show p.val = .agg p.row.toArray from rfl]
  have HPUT := Lib.hid (fun W X (hW : TabM W X g { T with count := T.count + 1 }) => put_any F { T with count := T.count + 1 } T1 T.root r p x W X g hW hp hput hl)
  unfold LaidT at HPUT
  clear h hp hb
  go_enter Try.func31, Try.ntmps31
  go_wp2_with (first
    | (refine wpList_load_any rfl 25 (.tmp 4) rfl w.heap.size 0 p.row _ rfl R0.out Try.underlying25 rfl (pf_infoC HP.out) ?_)
    | (go_at_call 53; refine (HT.out _ H1.out).mono ?_; rintro e w1 ⟨rfl, b1⟩; refine Hid.out ?_))
  refine Lib.hid ?_
  have h2 := H1.out.up b1
  have B2 := below_up HB.out b1 HB.out.size
  have hx2 := HX.out.up b1
  have R1 := Lib.hid (rangeAll hx2)
  clear H1 HB R0 b1
  go_wp2_with (first
    | (refine wpList_load_any rfl 25 (.tmp 4) rfl w.heap.size 0 p.row _ rfl R1.out Try.underlying25 rfl (pf_infoC HP.out) ?_)
    | (go_at_call 38; refine (HGT.out _ h2).mono ?_; rintro e w2 ⟨rfl, b2⟩; refine Hid.out ?_))
  refine Lib.hid ?_
  have h3 := h2.up b2
  have B3 := below_up B2 b2 B2.size
  have hx3 := hx2.up b2
  clear h2 B2 R1 b2 hx2
  obtain ⟨gn, cap, vf, h3⟩ := h3
  go_wp2
  refine wp_region_noPanic ?_
  refine wp_region_held_drew (S := HeldC g T.count T.room) (by kernel_rfl) ⟨h3.c2, h3.c1⟩ (fun hHeld => ?_)
  have h4 := tab_drew h3
  have hu4 := upd_drew (Upd.of_below X B3)
  have hx4 : Bx w2.drew w.heap.size 25 p.row := hx3
  clear h3 B3 hx3
  generalize w2.drew = W4 at *
  refine held_take (v := ?v317) 0 rfl (by kernel_rfl) (by kernel_rfl) (by kernel_rfl) (fun _ _ _ h => h) (by rfl) ?y317 (by assumption) ?_
  case y317 => (intro w hSw; unfold HeldC at hSw; go_simp; (try with_reducible rfl); (try omega))
  simp only [List.setIfInBounds_toArray, List.set_cons_zero, List.set_cons_succ]
  refine held_take (v := ?v320) 1 rfl (by kernel_rfl) (by kernel_rfl) (by kernel_rfl) (fun _ _ _ h => h) (by rfl) ?y320 (by assumption) ?_
  case y320 => (intro w hSw; unfold HeldC at hSw; go_simp; (try with_reducible rfl); (try omega))
  simp only [List.setIfInBounds_toArray, List.set_cons_zero, List.set_cons_succ]
  refine held_take (v := ?v323) 2 rfl (by kernel_rfl) (by kernel_rfl) (by kernel_rfl) (fun _ _ _ h => h) (by rfl) ?y323 (by assumption) ?_
  case y323 => (intro w hSw; unfold HeldC at hSw; go_simp; (try with_reducible rfl); (try omega))
  simp only [List.setIfInBounds_toArray, List.set_cons_zero, List.set_cons_succ]
  refine held_take (v := ?v326) 3 rfl (by kernel_rfl) (by kernel_rfl) (by kernel_rfl) (fun _ _ _ h => h) (by rfl) ?y326 (by assumption) ?_
  case y326 => (intro w hSw; unfold HeldC at hSw; go_simp; (try with_reducible rfl); (try omega))
  simp only [List.setIfInBounds_toArray, List.set_cons_zero, List.set_cons_succ]
  refine held_take (v := ?v329) 4 rfl (by kernel_rfl) (by kernel_rfl) (by kernel_rfl) (fun _ _ _ h => h) (by rfl) ?y329 (by assumption) ?_
  case y329 => (intro w hSw; unfold HeldC at hSw; go_simp; (try with_reducible rfl); (try omega))
  simp only [List.setIfInBounds_toArray, List.set_cons_zero, List.set_cons_succ]
  refine held_take (v := ?v332) 5 rfl (by kernel_rfl) (by kernel_rfl) (by kernel_rfl) (fun _ _ _ h => h) (by rfl) ?y332 (by assumption) ?_
  case y332 => (intro w hSw; unfold HeldC at hSw; go_simp; (try with_reducible rfl); (try omega))
  simp only [List.setIfInBounds_toArray, List.set_cons_zero, List.set_cons_succ]
  refine held_take (v := ?v335) 6 rfl (by kernel_rfl) (by kernel_rfl) (by kernel_rfl) (fun _ _ _ h => h) (by rfl) ?y335 (by assumption) ?_
  case y335 => (intro w hSw; unfold HeldC at hSw; go_simp; (try with_reducible rfl); (try omega))
  simp only [List.setIfInBounds_toArray, List.set_cons_zero, List.set_cons_succ]
  refine held_take (v := ?v338) 7 rfl (by kernel_rfl) (by kernel_rfl) (by kernel_rfl) (fun _ _ _ h => h) (by rfl) ?y338 (by assumption) ?_
  case y338 => (intro w hSw; unfold HeldC at hSw; go_simp; (try with_reducible rfl); (try omega))
  simp only [List.setIfInBounds_toArray, List.set_cons_zero, List.set_cons_succ]
  refine held_take (v := .bool false) 8 rfl (by kernel_rfl) (by kernel_rfl) (by kernel_rfl) (fun _ _ _ h => h) (by rfl) (fun W hSw => (by have hq : decide (T.room ≤ T.count) = false := decide_eq_false (by omega); go_simp; (try simp [hroom]))) (by assumption) ?_
  simp only [List.setIfInBounds_toArray, List.set_cons_zero, List.set_cons_succ]
  refine wpAnyH_done (by kernel_rfl) ?_ _
  refine NoPanic.normal ?_
  have c2 := h4.c2
  have z2 : W4.frozen? ⟨g, 2, none⟩ = false := h4.box.frozen 2
  have H5 := Lib.hid (h4.setCount (T.count + 1))
  have HU5 := Lib.hid (hu4.trans (Upd.setCell g 2 (.int .i64 (T.count + 1)) h4.inG))
  have hgw : g < w.heap.size := HXL.out g h4.inG
  have HX5 := Lib.hid (hx4.setOther (k := g) (by omega) 2 (.int .i64 (T.count + 1)))
  clear h4 hu4 hx4 hHeld
  go_wp2
  have h4 := H5.out
  have hu4 := HU5.out
  have hx4 := HX5.out
  clear H5 HU5 HX5 c2 z2
  generalize hWW : W4.setCell ⟨g, 2, none⟩ (.int .i64 (T.count + 1)) = W45 at *
  clear hWW
  refine wp_region_noPanic ?_
  refine wp_region_held_drew (S := HeldR w.heap.size 25 p.row) (by kernel_rfl) hx4 (fun hHeld => ?_)
  have h5 := tab_drew h4
  have hu5 := upd_drew hu4
  clear h4 hu4 hx4
  generalize hWd : W45.drew = W5 at *
  clear hWd
  have c3 := h5.c3
  refine held_take (v := ?v367) 0 rfl (by kernel_rfl) (by kernel_rfl) (by kernel_rfl) (fun _ _ _ h => h) (by rfl) ?y367 (by assumption) ?_
  case y367 => (intro w hSw; unfold HeldR at hSw; go_simp; (try with_reducible rfl); (try omega))
  simp only [List.setIfInBounds_toArray, List.set_cons_zero, List.set_cons_succ]
  refine held_take (v := ?v370) 1 rfl (by kernel_rfl) (by kernel_rfl) (by kernel_rfl) (fun _ _ _ h => h) (by rfl) ?y370 (by assumption) ?_
  case y370 => (intro w hSw; unfold HeldR at hSw; go_simp; (try with_reducible rfl); (try omega))
  simp only [List.setIfInBounds_toArray, List.set_cons_zero, List.set_cons_succ]
  refine held_take (v := ?v373) 2 rfl (by kernel_rfl) (by kernel_rfl) (by kernel_rfl) (fun _ _ _ h => h) (by rfl) ?y373 (by assumption) ?_
  case y373 => (intro w hSw; unfold HeldR at hSw; go_simp; (try with_reducible rfl); (try omega))
  simp only [List.setIfInBounds_toArray, List.set_cons_zero, List.set_cons_succ]
  refine held_take (v := ?v376) 3 rfl (by kernel_rfl) (by kernel_rfl) (by kernel_rfl) (fun _ _ _ h => h) (by rfl) ?y376 (by assumption) ?_
  case y376 => (intro w hSw; unfold HeldR at hSw; go_simp; (try with_reducible rfl); (try omega))
  simp only [List.setIfInBounds_toArray, List.set_cons_zero, List.set_cons_succ]
  refine held_take (v := ?v379) 4 rfl (by kernel_rfl) (by kernel_rfl) (by kernel_rfl) (fun _ _ _ h => h) (by rfl) ?y379 (by assumption) ?_
  case y379 => (intro w hSw; unfold HeldR at hSw; go_simp; (try with_reducible rfl); (try omega))
  simp only [List.setIfInBounds_toArray, List.set_cons_zero, List.set_cons_succ]
  refine held_take (v := p.val) 6 rfl (by kernel_rfl) (by kernel_rfl) (by kernel_rfl) (fun _ _ _ h => h) (by rfl) (fun W hSw => exec_load_any _ (.tmp 4) rfl w.heap.size 0 p.row _ rfl (rangeAll hSw) Try.underlying25 rfl (pf_infoC HP.out)) (by assumption) ?_
  simp only [List.setIfInBounds_toArray, List.set_cons_zero, List.set_cons_succ]
  refine held_take (v := ?v384) 7 rfl (by kernel_rfl) (by kernel_rfl) (by kernel_rfl) (fun _ _ _ h => h) (by rfl) ?y384 (by assumption) ?_
  case y384 => (intro w hSw; unfold HeldR at hSw; go_simp; (try with_reducible rfl); (try omega))
  simp only [List.setIfInBounds_toArray, List.set_cons_zero, List.set_cons_succ]
  refine held_take (v := itV p x) 8 rfl (by kernel_rfl) (by kernel_rfl) (by kernel_rfl) (fun _ _ _ h => h) (by rfl) (fun W hSw => exec_build2 _ 0 1 (.tmp 43) (.tmp 44) rfl p.val (.int .i64 x) (itR p x) rfl rfl (built_it2 p HP.out x)) (by assumption) ?_
  simp only [List.setIfInBounds_toArray, List.set_cons_zero, List.set_cons_succ]
  refine held_one 5 rfl (by kernel_rfl) (by rfl) (fun K hK => ?_)
  go_simp
  refine hK.out _ _ hHeld (fun _ => ?_)
  clear hK K
  (try simp only [List.setIfInBounds_toArray, List.set_cons_zero, List.set_cons_succ])
  refine held_one 9 rfl (by kernel_rfl) (by rfl) (fun K hK => ?_)
  go_simp
  refine (HPUT.out _ X ⟨_, _, _, h5⟩).mono ?_
  rintro e w6 ⟨rfl, X6, ⟨gn6, cap6, vf6, h6⟩, hu6⟩
  have hX0 : ¬ X w.heap.size := fun hx => by have := HXL.out _ hx; omega
  have hH6 : HeldR w.heap.size 25 p.row w6 := Bx.upd hHeld hu6 hX0
  refine hK.out _ _ hH6 (fun _ => ?_)
  clear hK K c3
  refine held_take (v := ?v402) 10 rfl (by kernel_rfl) (by kernel_rfl) (by kernel_rfl) (fun _ _ _ h => h) (by rfl) ?y402 (by assumption) ?_
  case y402 => (intro w hSw; unfold HeldR at hSw; go_simp; (try with_reducible rfl); (try omega))
  simp only [List.setIfInBounds_toArray, List.set_cons_zero, List.set_cons_succ]
  refine held_take (v := ?v405) 11 rfl (by kernel_rfl) (by kernel_rfl) (by kernel_rfl) (fun _ _ _ h => h) (by rfl) ?y405 (by assumption) ?_
  case y405 => (intro w hSw; unfold HeldR at hSw; go_simp; (try with_reducible rfl); (try omega))
  simp only [List.setIfInBounds_toArray, List.set_cons_zero, List.set_cons_succ]
  have c3 := h6.c3
  have z3 : w6.frozen? ⟨g, 3, none⟩ = false := h6.box.frozen 3
  have h7 := h6.setRoot r
  have hu7 := (hu5.trans hu6).trans (Upd.setCell g 3 (.int .i64 (r : Int)) h6.inG)
  have hH7 : HeldR w.heap.size 25 p.row (w6.setCell ⟨g, 3, none⟩ (.int .i64 (r : Int))) := Bx.setOther hH6 (by omega) _ _
  refine held_none 12 rfl (by kernel_rfl) (by rfl) (fun K hK => ?_)
  go_simp
  refine hK.out _ _ hH7 (fun _ => ?_)
  clear hK K c3 z3
  refine wpAnyH_done (by kernel_rfl) ?_ _
  refine NoPanic.normal ?_
  go_wp2
  go_ret
  exact ⟨rfl, X6, ⟨_, _, _, h7⟩, hu7⟩
set_option maxRecDepth 100000 in
set_option maxHeartbeats 4000000 in
theorem del_some (T T1 : Tb) (p : Pfx) (w : World) (X : Nat → Prop) (g : Nat) (h : TabM w X g T) (hp : p.addr.length = 16) (ht : (chkP p && (p.six == T.six)) = true) (f : Nat) (items : List (Pfx × Int)) (hI : aboveN f T.nds T.root p = some items) (v0 : Int) (hg : getI p items = some v0) (hc0 : 0 ≤ T.count) (hc1 : T.count ≤ 1000000)
    (r F : Nat) (hput : remN F { T with count := T.count - 1 } T.root p = some (r, T1)) (hl : T.free.length + F ≤ 1000000) :
    Calls Try.prog 34 #[.pointer (some ⟨g, 0, none⟩), p.val] w fun e w' => e = .returned (.int .i64 0) ∧ ∃ X', TabM w' X' g { T1 with root := r } ∧ Upd w X w' X' := by
  have hb : Below w.heap.size w (w.alloc (.cells p.row.toArray 25)) := (Below.refl _ _).alloc (Nat.le_refl _) _
  have HT := Lib.hid (fun W (hW : TabM W X g T) => takes_any T p W X g hW hp)
  rw [ht] at HT
  have HGT := Lib.hid (fun W (hW : TabM W X g T) => get_tab T p W X g hW hp ht f items hI)
  rw [hg] at HGT
  have H1 := Lib.hid (h.up hb)
  have HX := Lib.hid (Bx.new w 25 p.row)
  have R0 := Lib.hid (rangeAll HX.out)
  have HP := Lib.hid hp
  have HB := Lib.hid hb
  have HXL := Lib.hid h.low
  rw [show p.val = .agg p.row.toArray from rfl]
  have HPUT := Lib.hid (fun W X (hW : TabM W X g { T with count := T.count - 1 }) => rem_any F { T with count := T.count - 1 } T1 T.root r p W X g hW hp hput hl)
  unfold LaidT at HPUT
  clear h hp hb
  go_enter Try.func34, Try.ntmps34
  go_wp2_with (first
    | (refine wpList_load_any rfl 25 (.tmp 3) rfl w.heap.size 0 p.row _ rfl R0.out Try.underlying25 rfl (pf_infoC HP.out) ?_)
    | (go_at_call 53; refine (HT.out _ H1.out).mono ?_; rintro e w1 ⟨rfl, b1⟩; refine Hid.out ?_))
  refine Lib.hid ?_
  have h2 := H1.out.up b1
  have B2 := below_up HB.out b1 HB.out.size
  have hx2 := HX.out.up b1
  have R1 := Lib.hid (rangeAll hx2)
  clear H1 HB R0 b1
  go_wp2_with (first
    | (refine wpList_load_any rfl 25 (.tmp 3) rfl w.heap.size 0 p.row _ rfl R1.out Try.underlying25 rfl (pf_infoC HP.out) ?_)
    | (go_at_call 38; refine (HGT.out _ h2).mono ?_; rintro e w2 ⟨rfl, b2⟩; refine Hid.out ?_))
  refine Lib.hid ?_
  have h3 := h2.up b2
  have B3 := below_up B2 b2 B2.size
  have hx3 := hx2.up b2
  clear h2 B2 R1 b2 hx2
  obtain ⟨gn, cap, vf, h3⟩ := h3
  have h4 := h3
  have hu4 := Upd.of_below X B3
  have hx4 := hx3
  clear h3 B3 hx3
  have c2 := h4.c2
  have z2 : w2.frozen? ⟨g, 2, none⟩ = false := h4.box.frozen 2
  have H5 := Lib.hid (h4.setCount (T.count - 1))
  have HU5 := Lib.hid (hu4.trans (Upd.setCell g 2 (.int .i64 (T.count - 1)) h4.inG))
  have hgw : g < w.heap.size := HXL.out g h4.inG
  have HX5 := Lib.hid (hx4.setOther (k := g) (by omega) 2 (.int .i64 (T.count - 1)))
  clear h4 hu4 hx4
  go_wp2
  have h4 := H5.out
  have hu4 := HU5.out
  have hx4 := HX5.out
  clear H5 HU5 HX5 c2 z2
  generalize hWW : w2.setCell ⟨g, 2, none⟩ (.int .i64 (T.count - 1)) = W45 at *
  clear hWW
  refine wp_region_noPanic ?_
  refine wp_region_held_drew (S := HeldR w.heap.size 25 p.row) (by kernel_rfl) hx4 (fun hHeld => ?_)
  have h5 := tab_drew h4
  have hu5 := upd_drew hu4
  clear h4 hu4 hx4
  generalize hWd : W45.drew = W5 at *
  clear hWd
  have c3 := h5.c3
  refine held_take (v := ?v487) 0 rfl (by kernel_rfl) (by kernel_rfl) (by kernel_rfl) (fun _ _ _ h => h) (by rfl) ?y487 (by assumption) ?_
  case y487 => (intro w hSw; unfold HeldR at hSw; go_simp; (try with_reducible rfl); (try omega))
  simp only [List.setIfInBounds_toArray, List.set_cons_zero, List.set_cons_succ]
  refine held_take (v := ?v490) 1 rfl (by kernel_rfl) (by kernel_rfl) (by kernel_rfl) (fun _ _ _ h => h) (by rfl) ?y490 (by assumption) ?_
  case y490 => (intro w hSw; unfold HeldR at hSw; go_simp; (try with_reducible rfl); (try omega))
  simp only [List.setIfInBounds_toArray, List.set_cons_zero, List.set_cons_succ]
  refine held_take (v := ?v493) 2 rfl (by kernel_rfl) (by kernel_rfl) (by kernel_rfl) (fun _ _ _ h => h) (by rfl) ?y493 (by assumption) ?_
  case y493 => (intro w hSw; unfold HeldR at hSw; go_simp; (try with_reducible rfl); (try omega))
  simp only [List.setIfInBounds_toArray, List.set_cons_zero, List.set_cons_succ]
  refine held_take (v := ?v496) 3 rfl (by kernel_rfl) (by kernel_rfl) (by kernel_rfl) (fun _ _ _ h => h) (by rfl) ?y496 (by assumption) ?_
  case y496 => (intro w hSw; unfold HeldR at hSw; go_simp; (try with_reducible rfl); (try omega))
  simp only [List.setIfInBounds_toArray, List.set_cons_zero, List.set_cons_succ]
  refine held_take (v := ?v499) 4 rfl (by kernel_rfl) (by kernel_rfl) (by kernel_rfl) (fun _ _ _ h => h) (by rfl) ?y499 (by assumption) ?_
  case y499 => (intro w hSw; unfold HeldR at hSw; go_simp; (try with_reducible rfl); (try omega))
  simp only [List.setIfInBounds_toArray, List.set_cons_zero, List.set_cons_succ]
  refine held_take (v := p.val) 6 rfl (by kernel_rfl) (by kernel_rfl) (by kernel_rfl) (fun _ _ _ h => h) (by rfl) (fun W hSw => exec_load_any _ (.tmp 3) rfl w.heap.size 0 p.row _ rfl (rangeAll hSw) Try.underlying25 rfl (pf_infoC HP.out)) (by assumption) ?_
  simp only [List.setIfInBounds_toArray, List.set_cons_zero, List.set_cons_succ]
  refine held_one 5 rfl (by kernel_rfl) (by rfl) (fun K hK => ?_)
  go_simp
  refine hK.out _ _ hHeld (fun _ => ?_)
  clear hK K
  (try simp only [List.setIfInBounds_toArray, List.set_cons_zero, List.set_cons_succ])
  refine held_one 7 rfl (by kernel_rfl) (by rfl) (fun K hK => ?_)
  go_simp
  refine (HPUT.out _ X ⟨_, _, _, h5⟩).mono ?_
  rintro e w6 ⟨rfl, X6, ⟨gn6, cap6, vf6, h6⟩, hu6⟩
  have hX0 : ¬ X w.heap.size := fun hx => by have := HXL.out _ hx; omega
  have hH6 : HeldR w.heap.size 25 p.row w6 := Bx.upd hHeld hu6 hX0
  refine hK.out _ _ hH6 (fun _ => ?_)
  clear hK K c3
  refine held_take (v := ?v517) 8 rfl (by kernel_rfl) (by kernel_rfl) (by kernel_rfl) (fun _ _ _ h => h) (by rfl) ?y517 (by assumption) ?_
  case y517 => (intro w hSw; unfold HeldR at hSw; go_simp; (try with_reducible rfl); (try omega))
  simp only [List.setIfInBounds_toArray, List.set_cons_zero, List.set_cons_succ]
  refine held_take (v := ?v520) 9 rfl (by kernel_rfl) (by kernel_rfl) (by kernel_rfl) (fun _ _ _ h => h) (by rfl) ?y520 (by assumption) ?_
  case y520 => (intro w hSw; unfold HeldR at hSw; go_simp; (try with_reducible rfl); (try omega))
  simp only [List.setIfInBounds_toArray, List.set_cons_zero, List.set_cons_succ]
  have c3 := h6.c3
  have z3 : w6.frozen? ⟨g, 3, none⟩ = false := h6.box.frozen 3
  have h7 := h6.setRoot r
  have hu7 := (hu5.trans hu6).trans (Upd.setCell g 3 (.int .i64 (r : Int)) h6.inG)
  have hH7 : HeldR w.heap.size 25 p.row (w6.setCell ⟨g, 3, none⟩ (.int .i64 (r : Int))) := Bx.setOther hH6 (by omega) _ _
  refine held_none 10 rfl (by kernel_rfl) (by rfl) (fun K hK => ?_)
  go_simp
  refine hK.out _ _ hH7 (fun _ => ?_)
  clear hK K c3 z3
  refine wpAnyH_done (by kernel_rfl) ?_ _
  refine NoPanic.normal ?_
  go_wp2
  go_ret
  exact ⟨rfl, X6, ⟨_, _, _, h7⟩, hu7⟩
set_option maxRecDepth 100000 in
set_option maxHeartbeats 4000000 in
theorem del_none (T : Tb) (p : Pfx) (w : World) (X : Nat → Prop) (g : Nat) (h : TabM w X g T) (hp : p.addr.length = 16) (ht : (chkP p && (p.six == T.six)) = true) (f : Nat) (items : List (Pfx × Int)) (hI : aboveN f T.nds T.root p = some items) (hg : getI p items = none):
    Calls Try.prog 34 #[.pointer (some ⟨g, 0, none⟩), p.val] w fun e w' => e = .returned (.int .i64 31) ∧ Below w.heap.size w w' := by
  have hb : Below w.heap.size w (w.alloc (.cells p.row.toArray 25)) := (Below.refl _ _).alloc (Nat.le_refl _) _
  have HT := Lib.hid (fun W (hW : TabM W X g T) => takes_any T p W X g hW hp)
  rw [ht] at HT
  have HGT := Lib.hid (fun W (hW : TabM W X g T) => get_tab T p W X g hW hp ht f items hI)
  rw [hg] at HGT
  have H1 := Lib.hid (h.up hb)
  have HX := Lib.hid (Bx.new w 25 p.row)
  have R0 := Lib.hid (rangeAll HX.out)
  have HP := Lib.hid hp
  have HB := Lib.hid hb
  rw [show p.val = .agg p.row.toArray from rfl]
  clear h hp hb
  go_enter Try.func34, Try.ntmps34
  go_wp2_with (first
    | (refine wpList_load_any rfl 25 (.tmp 3) rfl w.heap.size 0 p.row _ rfl R0.out Try.underlying25 rfl (pf_infoC HP.out) ?_)
    | (go_at_call 53; refine (HT.out _ H1.out).mono ?_; rintro e w1 ⟨rfl, b1⟩; refine Hid.out ?_))
  refine Lib.hid ?_
  have h2 := H1.out.up b1
  have B2 := below_up HB.out b1 HB.out.size
  have hx2 := HX.out.up b1
  have R1 := Lib.hid (rangeAll hx2)
  clear H1 HB R0 b1
  go_wp2_with (first
    | (refine wpList_load_any rfl 25 (.tmp 3) rfl w.heap.size 0 p.row _ rfl R1.out Try.underlying25 rfl (pf_infoC HP.out) ?_)
    | (go_at_call 38; refine (HGT.out _ h2).mono ?_; rintro e w2 ⟨rfl, b2⟩; refine Hid.out ?_))
  refine Lib.hid ?_
  have B3 := below_up B2 b2 B2.size
  clear h2 B2 R1 b2 hx2
  go_wp2
  go_ret
  exact ⟨rfl, B3⟩
end Go.Proofs.Ytgimcapcnidjjaa
