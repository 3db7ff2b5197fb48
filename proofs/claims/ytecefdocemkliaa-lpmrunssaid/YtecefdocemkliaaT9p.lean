/- New, Put and Delete of package lpm. Put and Delete of package lpm, where they are done. -/
import Derived.Test.YtecefdocemkliaaT9l
import Derived.Test.YtecefdocemkliaaT9i
namespace Go.Proofs.Ytecefdocemkliaa
open Go Go.RowKit

def tab0 (six : Bool) (room : Int) : Tb := ⟨six, room, 0, 0, [nd0], []⟩
theorem new_none (six : Bool) (room : Int) (w : World) (h : room < 1 ∨ 65536 < room) : Calls Try.prog 6 #[.bool six, .int .i64 room] w fun e w' => e = .returned (.pointer none) ∧ w' = w := by
  rcases h with h | h
  · go_enter Try.func6, Try.ntmps6
    go_wp2
    go_ret
    exact ⟨rfl, rfl⟩
  · have h1 : ¬ room < 1 := by omega
    go_enter Try.func6, Try.ntmps6
    go_wp2
    go_ret
    exact ⟨rfl, rfl⟩
theorem nd0_cells : (#[.bool false, .int .u8 0, .int .u8 0, .int .u8 0, .int .u8 0, .int .u8 0, .int .u8 0, .int .u8 0, .int .u8 0, .int .u8 0, .int .u8 0, .int .u8 0, .int .u8 0, .int .u8 0, .int .u8 0, .int .u8 0, .int .u8 0, .int .i64 0, .int .i64 0, .bool false, .int .i64 0, .int .i64 0] : Array Value) = nd0.row.toArray := rfl
theorem new_some (six : Bool) (room : Int) (w : World) (h1 : 1 ≤ room) (h2 : room ≤ 65536) : Calls Try.prog 6 #[.bool six, .int .i64 room] w fun e w' => ∃ g X, e = .returned (.pointer (some ⟨g, 0, none⟩)) ∧ TabM w' X g (tab0 six room) ∧ Below w.heap.size w w' ∧ (∀ k, X k → w.heap.size ≤ k) := by
  have hm : (Instr.makeSlice 57 (.int .i64 1) (.int .i64 1)).run Try.prog w = .ok (.slice (some ⟨w.heap.size, 0, none⟩) 1 1) (w.alloc (.cells nd0.row.toArray 79)) := by
    obtain ⟨ti, hti, htz, hts, htb⟩ := info_parts nd_infoF
    have := run_makeSlice (P := Try.prog) w 57 79 ti nd0.val Try.underlying57 hti htz .i64 .i64 1 1 (by omega) (by omega) (by rw [hts]; decide) (by rw [htb]; decide) (by omega)
    rw [hts] at this
    rw [this, show madeCells nd0.val.cells (Int.toNat 1 * 22) = nd0.row.toArray by kernel_rfl]
    rfl
  have HB := Lib.hid (show Below w.heap.size w ((w.alloc (.cells nd0.row.toArray 79)).alloc (.cells #[.bool six, .int .i64 room, .int .i64 0, .int .i64 0, .slice (some ⟨w.heap.size, 0, none⟩) 1 1, .slice none 0 0] 60)) from ((Below.refl _ _).alloc (Nat.le_refl _) _).alloc (by simp) _)
  go_enter Try.func6, Try.ntmps6
  go_wp2
  go_ret
  refine ⟨w.heap.size + 1, fun k => k = w.heap.size ∨ k = w.heap.size + 1, rfl, ⟨w.heap.size, 1, .slice none 0 0, ?_, ?_, World.ownsRow_nil _ _ _ _, ?_, .inr rfl, .inl rfl, (fun k e => by cases e), ?_⟩, HB.out, ?_⟩
  · have := Bx.new (w.alloc (.cells nd0.row.toArray 79)) 60 ((tab0 six room).head (.slice (some ⟨w.heap.size, 0, none⟩) 1 1) (.slice none 0 0))
    rw [World.size_alloc] at this
    exact this
  · refine ⟨rfl, .inr ⟨w.heap.size, 1, nd0.row.toArray, rfl, by omega, ?_, by simp [tab0], by simp [maxLen], rfl, rfl⟩⟩
    exact ((Bx.new w 79 nd0.row).al _)
  · intro d hd
    simp only [tab0, List.mem_singleton] at hd
    rw [hd]
    rfl
  · intro k hk
    simp
    omega
  · intro k hk
    omega
def ItemP (X : Nat → Prop) (w : World) (g : Nat) (T' : Tb) (e : Ending) (c : Int) (w' : World) : Prop := e = .returned (.int .i64 c) ∧ ∃ X', TabM w' X' g T' ∧ Upd w X w' X'
set_option maxRecDepth 100000 in
set_option maxHeartbeats 4000000 in
theorem put_no (v : Value) (p : Pfx) (x : Int) (w : World) (hp : p.addr.length = 16)
    (HT : ∀ W, Below w.heap.size w W → Calls Try.prog 20 #[v, p.val] W fun e w' => e = .returned (.bool false) ∧ Below W.heap.size W w') :
    Calls Try.prog 8 #[v, p.val, .int .i64 x] w fun e w' => e = .returned (.int .i64 1) ∧ Below w.heap.size w w' := by
  have hb : Below w.heap.size w (w.alloc (.cells p.row.toArray 32)) := (Below.refl _ _).alloc (Nat.le_refl _) _
  have HT2 := Lib.hid (HT _ hb)
  have R0 := Lib.hid (rangeAll (Bx.new w 32 p.row))
  have HP := Lib.hid hp
  have HB := Lib.hid hb
  rw [show p.val = .agg p.row.toArray from rfl]
  clear hp HT hb
  go_enter Try.func8, Try.ntmps8
  go_wp2_with (first
    | (refine wpList_load_any rfl 32 (.tmp 4) rfl w.heap.size 0 p.row _ rfl R0.out Try.underlying32 rfl (pf_infoC HP.out) ?_)
    | (go_at_call 20; refine HT2.out.mono ?_; rintro e w1 ⟨rfl, b1⟩; refine Hid.out ?_))
  refine Lib.hid ?_
  go_wp2
  go_ret
  exact ⟨rfl, below_up HB.out b1 HB.out.size⟩
set_option maxRecDepth 100000 in
set_option maxHeartbeats 4000000 in
theorem del_no (v : Value) (p : Pfx) (w : World) (hp : p.addr.length = 16)
    (HT : ∀ W, Below w.heap.size w W → Calls Try.prog 20 #[v, p.val] W fun e w' => e = .returned (.bool false) ∧ Below W.heap.size W w') :
    Calls Try.prog 9 #[v, p.val] w fun e w' => e = .returned (.int .i64 1) ∧ Below w.heap.size w w' := by
  have hb : Below w.heap.size w (w.alloc (.cells p.row.toArray 32)) := (Below.refl _ _).alloc (Nat.le_refl _) _
  have HT2 := Lib.hid (HT _ hb)
  have R0 := Lib.hid (rangeAll (Bx.new w 32 p.row))
  have HP := Lib.hid hp
  have HB := Lib.hid hb
  rw [show p.val = .agg p.row.toArray from rfl]
  clear hp HT hb
  go_enter Try.func9, Try.ntmps9
  go_wp2_with (first
    | (refine wpList_load_any rfl 32 (.tmp 3) rfl w.heap.size 0 p.row _ rfl R0.out Try.underlying32 rfl (pf_infoC HP.out) ?_)
    | (go_at_call 20; refine HT2.out.mono ?_; rintro e w1 ⟨rfl, b1⟩; refine Hid.out ?_))
  refine Lib.hid ?_
  go_wp2
  go_ret
  exact ⟨rfl, below_up HB.out b1 HB.out.size⟩
def HeldC (g : Nat) (c r : Int) (W : World) : Prop := W.cell? ⟨g, 2, none⟩ = some (.int .i64 c) ∧ W.cell? ⟨g, 1, none⟩ = some (.int .i64 r)
/-- Put of a prefix that may be: what it answers, by what Get told. -/
theorem upd_drew {w W : World} {X X' : Nat → Prop} (h : Upd w X W X') : Upd w X W.drew X' := ⟨h.os, h.tape, h.output, h.size, h.block, h.sub⟩
theorem tab_drew {W : World} {X : Nat → Prop} {g gn cap : Nat} {T : Tb} {vf : Value} (h : TabG W X g T gn cap vf) : TabG W.drew X g T gn cap vf := ⟨h.box, h.nds, h.free, h.addr, h.inG, h.inN, h.inF, h.low⟩
set_option maxRecDepth 100000 in
set_option maxHeartbeats 4000000 in
theorem put_full (T : Tb) (p : Pfx) (x : Int) (w : World) (X : Nat → Prop) (g : Nat) (h : TabM w X g T) (hp : p.addr.length = 16) (ht : (chkP p && (p.six == T.six)) = true) (f : Nat) (items : List (Pfx × Int)) (hI : aboveN f T.nds T.root p = some items) (hg : getI p items = none) (hfull : T.room ≤ T.count) :
    Calls Try.prog 8 #[.pointer (some ⟨g, 0, none⟩), p.val, .int .i64 x] w fun e w' => e = .returned (.int .i64 30) ∧ Below w.heap.size w w' := by
  have hb : Below w.heap.size w (w.alloc (.cells p.row.toArray 32)) := (Below.refl _ _).alloc (Nat.le_refl _) _
  have HT := Lib.hid (fun W (hW : TabM W X g T) => takes_any T p W X g hW hp)
  rw [ht] at HT
  have HGT := Lib.hid (fun W (hW : TabM W X g T) => get_tab T p W X g hW hp ht f items hI)
  rw [hg] at HGT
  have H1 := Lib.hid (h.up hb)
  have HX := Lib.hid (Bx.new w 32 p.row)
  have R0 := Lib.hid (rangeAll HX.out)
  have HP := Lib.hid hp
  have HB := Lib.hid hb
  rw [show p.val = .agg p.row.toArray from rfl]
  clear h hp hb
  go_enter Try.func8, Try.ntmps8
  go_wp2_with (first
    | (refine wpList_load_any rfl 32 (.tmp 4) rfl w.heap.size 0 p.row _ rfl R0.out Try.underlying32 rfl (pf_infoC HP.out) ?_)
    | (go_at_call 20; refine (HT.out _ H1.out).mono ?_; rintro e w1 ⟨rfl, b1⟩; refine Hid.out ?_))
  refine Lib.hid ?_
  have h2 := H1.out.up b1
  have B2 := below_up HB.out b1 HB.out.size
  have R1 := Lib.hid (rangeAll (HX.out.up b1))
  clear H1 HB R0 b1
  go_wp2_with (first
    | (refine wpList_load_any rfl 32 (.tmp 4) rfl w.heap.size 0 p.row _ rfl R1.out Try.underlying32 rfl (pf_infoC HP.out) ?_)
    | (go_at_call 11; refine (HGT.out _ h2).mono ?_; rintro e w2 ⟨rfl, b2⟩; refine Hid.out ?_))
  refine Lib.hid ?_
  have h3 := h2.up b2
  have B3 := below_up B2 b2 B2.size
  clear h2 B2 R1 b2
  obtain ⟨gn, cap, vf, h3⟩ := h3
  go_wp2
  refine wp_region_noPanic ?_
  refine wp_region_held_drew (S := HeldC g T.count T.room) (by kernel_rfl) ⟨h3.c2, h3.c1⟩ (fun hHeld => ?_)
  refine held_take (v := ?v126) 0 rfl (by kernel_rfl) (by kernel_rfl) (by kernel_rfl) (fun _ _ _ h => h) (by rfl) ?y126 (by assumption) ?_
  case y126 => (intro w hSw; unfold HeldC at hSw; go_simp; (try with_reducible rfl); (try omega))
  simp only [List.setIfInBounds_toArray, List.set_cons_zero, List.set_cons_succ]
  refine held_take (v := ?v129) 1 rfl (by kernel_rfl) (by kernel_rfl) (by kernel_rfl) (fun _ _ _ h => h) (by rfl) ?y129 (by assumption) ?_
  case y129 => (intro w hSw; unfold HeldC at hSw; go_simp; (try with_reducible rfl); (try omega))
  simp only [List.setIfInBounds_toArray, List.set_cons_zero, List.set_cons_succ]
  refine held_take (v := ?v132) 2 rfl (by kernel_rfl) (by kernel_rfl) (by kernel_rfl) (fun _ _ _ h => h) (by rfl) ?y132 (by assumption) ?_
  case y132 => (intro w hSw; unfold HeldC at hSw; go_simp; (try with_reducible rfl); (try omega))
  simp only [List.setIfInBounds_toArray, List.set_cons_zero, List.set_cons_succ]
  refine held_take (v := ?v135) 3 rfl (by kernel_rfl) (by kernel_rfl) (by kernel_rfl) (fun _ _ _ h => h) (by rfl) ?y135 (by assumption) ?_
  case y135 => (intro w hSw; unfold HeldC at hSw; go_simp; (try with_reducible rfl); (try omega))
  simp only [List.setIfInBounds_toArray, List.set_cons_zero, List.set_cons_succ]
  refine held_take (v := ?v138) 4 rfl (by kernel_rfl) (by kernel_rfl) (by kernel_rfl) (fun _ _ _ h => h) (by rfl) ?y138 (by assumption) ?_
  case y138 => (intro w hSw; unfold HeldC at hSw; go_simp; (try with_reducible rfl); (try omega))
  simp only [List.setIfInBounds_toArray, List.set_cons_zero, List.set_cons_succ]
  refine held_take (v := ?v141) 5 rfl (by kernel_rfl) (by kernel_rfl) (by kernel_rfl) (fun _ _ _ h => h) (by rfl) ?y141 (by assumption) ?_
  case y141 => (intro w hSw; unfold HeldC at hSw; go_simp; (try with_reducible rfl); (try omega))
  simp only [List.setIfInBounds_toArray, List.set_cons_zero, List.set_cons_succ]
  refine held_take (v := ?v144) 6 rfl (by kernel_rfl) (by kernel_rfl) (by kernel_rfl) (fun _ _ _ h => h) (by rfl) ?y144 (by assumption) ?_
  case y144 => (intro w hSw; unfold HeldC at hSw; go_simp; (try with_reducible rfl); (try omega))
  simp only [List.setIfInBounds_toArray, List.set_cons_zero, List.set_cons_succ]
  refine held_take (v := ?v147) 7 rfl (by kernel_rfl) (by kernel_rfl) (by kernel_rfl) (fun _ _ _ h => h) (by rfl) ?y147 (by assumption) ?_
  case y147 => (intro w hSw; unfold HeldC at hSw; go_simp; (try with_reducible rfl); (try omega))
  simp only [List.setIfInBounds_toArray, List.set_cons_zero, List.set_cons_succ]
  refine held_take (v := .bool true) 8 rfl (by kernel_rfl) (by kernel_rfl) (by kernel_rfl) (fun _ _ _ h => h) (by rfl) (fun W hSw => (by have hq : decide (T.room ≤ T.count) = true := decide_eq_true hfull; go_simp; (try simp [hfull]))) (by assumption) ?_
  simp only [List.setIfInBounds_toArray, List.set_cons_zero, List.set_cons_succ]
  refine wpAnyH_done (by kernel_rfl) ?_ _
  refine NoPanic.normal ?_
  go_wp2
  go_ret
  exact ⟨rfl, B3.drew⟩
end Go.Proofs.Ytecefdocemkliaa
namespace Go.Proofs.Ytecefdocemkliaa
open Go Go.RowKit

set_option maxRecDepth 100000 in
set_option maxHeartbeats 4000000 in
theorem put_over (T T1 : Tb) (p : Pfx) (x : Int) (w : World) (X : Nat → Prop) (g : Nat) (h : TabM w X g T) (hp : p.addr.length = 16) (ht : (chkP p && (p.six == T.six)) = true) (f : Nat) (items : List (Pfx × Int)) (hI : aboveN f T.nds T.root p = some items) (v0 : Int) (hg : getI p items = some v0)
    (r F : Nat) (hput : putN F T T.root p x = some (r, T1)) (hl : T.nds.length + F ≤ 1000000) :
    Calls Try.prog 8 #[.pointer (some ⟨g, 0, none⟩), p.val, .int .i64 x] w fun e w' => e = .returned (.int .i64 0) ∧ ∃ X', TabM w' X' g { T1 with root := r } ∧ Upd w X w' X' := by
  have hb : Below w.heap.size w (w.alloc (.cells p.row.toArray 32)) := (Below.refl _ _).alloc (Nat.le_refl _) _
  have HT := Lib.hid (fun W (hW : TabM W X g T) => takes_any T p W X g hW hp)
  rw [ht] at HT
  have HGT := Lib.hid (fun W (hW : TabM W X g T) => get_tab T p W X g hW hp ht f items hI)
  rw [hg] at HGT
  have H1 := Lib.hid (h.up hb)
  have HX := Lib.hid (Bx.new w 32 p.row)
  have R0 := Lib.hid (rangeAll HX.out)
  have HP := Lib.hid hp
  have HB := Lib.hid hb
  have HXL := Lib.hid h.low
  rw [show p.val = .agg p.row.toArray from rfl]
  have HPUT := Lib.hid (fun W X (hW : TabM W X g T) => put_any F T T1 T.root r p x W X g hW hp hput hl)
  unfold LaidT at HPUT
  clear h hp hb
  go_enter Try.func8, Try.ntmps8
  go_wp2_with (first
    | (refine wpList_load_any rfl 32 (.tmp 4) rfl w.heap.size 0 p.row _ rfl R0.out Try.underlying32 rfl (pf_infoC HP.out) ?_)
    | (go_at_call 20; refine (HT.out _ H1.out).mono ?_; rintro e w1 ⟨rfl, b1⟩; refine Hid.out ?_))
  refine Lib.hid ?_
  have h2 := H1.out.up b1
  have B2 := below_up HB.out b1 HB.out.size
  have hx2 := HX.out.up b1
  have R1 := Lib.hid (rangeAll hx2)
  clear H1 HB R0 b1
  go_wp2_with (first
    | (refine wpList_load_any rfl 32 (.tmp 4) rfl w.heap.size 0 p.row _ rfl R1.out Try.underlying32 rfl (pf_infoC HP.out) ?_)
    | (go_at_call 11; refine (HGT.out _ h2).mono ?_; rintro e w2 ⟨rfl, b2⟩; refine Hid.out ?_))
  refine Lib.hid ?_
  have h3 := h2.up b2
  have B3 := below_up B2 b2 B2.size
  have hx3 := hx2.up b2
  clear h2 B2 R1 b2 hx2
  obtain ⟨gn, cap, vf, h3⟩ := h3
  have h4 := h3
  have hu4 := Upd.of_below X B3
  have hx4 := hx3
  clear h3 B3 hx3
  go_wp2
  refine wp_region_noPanic ?_
  refine wp_region_held_drew (S := HeldR w.heap.size 32 p.row) (by kernel_rfl) hx4 (fun hHeld => ?_)
  have h5 := tab_drew h4
  have hu5 := upd_drew hu4
  clear h4 hu4 hx4
  generalize hWd : w2.drew = W5 at *
  clear hWd
  have c3 := h5.c3
  refine held_take (v := ?v213) 0 rfl (by kernel_rfl) (by kernel_rfl) (by kernel_rfl) (fun _ _ _ h => h) (by rfl) ?y213 (by assumption) ?_
  case y213 => (intro w hSw; unfold HeldR at hSw; go_simp; (try with_reducible rfl); (try omega))
  simp only [List.setIfInBounds_toArray, List.set_cons_zero, List.set_cons_succ]
  refine held_take (v := ?v216) 1 rfl (by kernel_rfl) (by kernel_rfl) (by kernel_rfl) (fun _ _ _ h => h) (by rfl) ?y216 (by assumption) ?_
  case y216 => (intro w hSw; unfold HeldR at hSw; go_simp; (try with_reducible rfl); (try omega))
  simp only [List.setIfInBounds_toArray, List.set_cons_zero, List.set_cons_succ]
  refine held_take (v := ?v219) 2 rfl (by kernel_rfl) (by kernel_rfl) (by kernel_rfl) (fun _ _ _ h => h) (by rfl) ?y219 (by assumption) ?_
  case y219 => (intro w hSw; unfold HeldR at hSw; go_simp; (try with_reducible rfl); (try omega))
  simp only [List.setIfInBounds_toArray, List.set_cons_zero, List.set_cons_succ]
  refine held_take (v := ?v222) 3 rfl (by kernel_rfl) (by kernel_rfl) (by kernel_rfl) (fun _ _ _ h => h) (by rfl) ?y222 (by assumption) ?_
  case y222 => (intro w hSw; unfold HeldR at hSw; go_simp; (try with_reducible rfl); (try omega))
  simp only [List.setIfInBounds_toArray, List.set_cons_zero, List.set_cons_succ]
  refine held_take (v := ?v225) 4 rfl (by kernel_rfl) (by kernel_rfl) (by kernel_rfl) (fun _ _ _ h => h) (by rfl) ?y225 (by assumption) ?_
  case y225 => (intro w hSw; unfold HeldR at hSw; go_simp; (try with_reducible rfl); (try omega))
  simp only [List.setIfInBounds_toArray, List.set_cons_zero, List.set_cons_succ]
  refine held_take (v := p.val) 6 rfl (by kernel_rfl) (by kernel_rfl) (by kernel_rfl) (fun _ _ _ h => h) (by rfl) (fun W hSw => exec_load_any _ (.tmp 4) rfl w.heap.size 0 p.row _ rfl (rangeAll hSw) Try.underlying32 rfl (pf_infoC HP.out)) (by assumption) ?_
  simp only [List.setIfInBounds_toArray, List.set_cons_zero, List.set_cons_succ]
  refine held_take (v := ?v230) 7 rfl (by kernel_rfl) (by kernel_rfl) (by kernel_rfl) (fun _ _ _ h => h) (by rfl) ?y230 (by assumption) ?_
  case y230 => (intro w hSw; unfold HeldR at hSw; go_simp; (try with_reducible rfl); (try omega))
  simp only [List.setIfInBounds_toArray, List.set_cons_zero, List.set_cons_succ]
  refine held_take (v := itV p x) 8 rfl (by kernel_rfl) (by kernel_rfl) (by kernel_rfl) (fun _ _ _ h => h) (by rfl) (fun W hSw => exec_build2 _ 0 1 (.tmp 43) (.tmp 44) rfl p.val (.int .i64 x) (itR p x) rfl rfl (built_it2 p HP.out x)) (by assumption) ?_
  simp only [List.setIfInBounds_toArray, List.set_cons_zero, List.set_cons_succ]
  refine held_one 5 rfl (by kernel_rfl) (by rfl) (fun K hK => ?_)
  go_simp
  refine hK.out _ _ hHeld (fun _ => ?_)
  clear hK K
  (try simp only [List.setIfInBounds_toArray, List.set_cons_zero, List.set_cons_succ])
  refine held_one 9 rfl (by kernel_rfl) (by rfl) (fun K hK => ?_)
  go_simp
  refine (HPUT.out _ X ⟨_, _, _, h5⟩).mono ?_
  rintro e w6 ⟨rfl, X6, ⟨gn6, cap6, vf6, h6⟩, hu6⟩
  have hX0 : ¬ X w.heap.size := fun hx => by have := HXL.out _ hx; omega
  have hH6 : HeldR w.heap.size 32 p.row w6 := Bx.upd hHeld hu6 hX0
  refine hK.out _ _ hH6 (fun _ => ?_)
  clear hK K c3
  refine held_take (v := ?v248) 10 rfl (by kernel_rfl) (by kernel_rfl) (by kernel_rfl) (fun _ _ _ h => h) (by rfl) ?y248 (by assumption) ?_
  case y248 => (intro w hSw; unfold HeldR at hSw; go_simp; (try with_reducible rfl); (try omega))
  simp only [List.setIfInBounds_toArray, List.set_cons_zero, List.set_cons_succ]
  refine held_take (v := ?v251) 11 rfl (by kernel_rfl) (by kernel_rfl) (by kernel_rfl) (fun _ _ _ h => h) (by rfl) ?y251 (by assumption) ?_
  case y251 => (intro w hSw; unfold HeldR at hSw; go_simp; (try with_reducible rfl); (try omega))
  simp only [List.setIfInBounds_toArray, List.set_cons_zero, List.set_cons_succ]
  have c3 := h6.c3
  have z3 : w6.frozen? ⟨g, 3, none⟩ = false := h6.box.frozen 3
  have h7 := h6.setRoot r
  have hu7 := (hu5.trans hu6).trans (Upd.setCell g 3 (.int .i64 (r : Int)) h6.inG)
  have hgw : g < w.heap.size := HXL.out g h5.inG
  have hH7 : HeldR w.heap.size 32 p.row (w6.setCell ⟨g, 3, none⟩ (.int .i64 (r : Int))) := Bx.setOther hH6 (by omega) _ _
  refine held_none 12 rfl (by kernel_rfl) (by rfl) (fun K hK => ?_)
  go_simp
  refine hK.out _ _ hH7 (fun _ => ?_)
  clear hK K c3 z3
  refine wpAnyH_done (by kernel_rfl) ?_ _
  refine NoPanic.normal ?_
  go_wp2
  go_ret
  exact ⟨rfl, X6, ⟨_, _, _, h7⟩, hu7⟩
set_option maxRecDepth 100000 in
set_option maxHeartbeats 4000000 in
theorem put_new (T T1 : Tb) (p : Pfx) (x : Int) (w : World) (X : Nat → Prop) (g : Nat) (h : TabM w X g T) (hp : p.addr.length = 16) (ht : (chkP p && (p.six == T.six)) = true) (f : Nat) (items : List (Pfx × Int)) (hI : aboveN f T.nds T.root p = some items) (hg : getI p items = none) (hroom : T.count < T.room) (hc0 : 0 ≤ T.count) (hc1 : T.count ≤ 1000000)
    (r F : Nat) (hput : putN F { T with count := T.count + 1 } T.root p x = some (r, T1)) (hl : T.nds.length + F ≤ 1000000) :
    Calls Try.prog 8 #[.pointer (some ⟨g, 0, none⟩), p.val, .int .i64 x] w fun e w' => e = .returned (.int .i64 0) ∧ ∃ X', TabM w' X' g { T1 with root := r } ∧ Upd w X w' X' := by
  have hb : Below w.heap.size w (w.alloc (.cells p.row.toArray 32)) := (Below.refl _ _).alloc (Nat.le_refl _) _
  have HT := Lib.hid (fun W (hW : TabM W X g T) => takes_any T p W X g hW hp)
  rw [ht] at HT
  have HGT := Lib.hid (fun W (hW : TabM W X g T) => get_tab T p W X g hW hp ht f items hI)
  rw [hg] at HGT
  have H1 := Lib.hid (h.up hb)
  have HX := Lib.hid (Bx.new w 32 p.row)
  have R0 := Lib.hid (rangeAll HX.out)
  have HP := Lib.hid hp
  have HB := Lib.hid hb
  have HXL := Lib.hid h.low
  rw [show p.val = .agg p.row.toArray from rfl]
  have HPUT := Lib.hid (fun W X (hW : TabM W X g { T with count := T.count + 1 }) => put_any F { T with count := T.count + 1 } T1 T.root r p x W X g hW hp hput hl)
  unfold LaidT at HPUT
  clear h hp hb
  go_enter Try.func8, Try.ntmps8
  go_wp2_with (first
    | (refine wpList_load_any rfl 32 (.tmp 4) rfl w.heap.size 0 p.row _ rfl R0.out Try.underlying32 rfl (pf_infoC HP.out) ?_)
    | (go_at_call 20; refine (HT.out _ H1.out).mono ?_; rintro e w1 ⟨rfl, b1⟩; refine Hid.out ?_))
  refine Lib.hid ?_
  have h2 := H1.out.up b1
  have B2 := below_up HB.out b1 HB.out.size
  have hx2 := HX.out.up b1
  have R1 := Lib.hid (rangeAll hx2)
  clear H1 HB R0 b1
  go_wp2_with (first
    | (refine wpList_load_any rfl 32 (.tmp 4) rfl w.heap.size 0 p.row _ rfl R1.out Try.underlying32 rfl (pf_infoC HP.out) ?_)
    | (go_at_call 11; refine (HGT.out _ h2).mono ?_; rintro e w2 ⟨rfl, b2⟩; refine Hid.out ?_))
  refine Lib.hid ?_
  have h3 := h2.up b2
  have B3 := below_up B2 b2 B2.size
  have hx3 := hx2.up b2
  clear h2 B2 R1 b2 hx2
  obtain ⟨gn, cap, vf, h3⟩ := h3
  go_wp2
  refine wp_region_noPanic ?_
  refine wp_region_held_drew (S := HeldC g T.count T.room) (by kernel_rfl) ⟨h3.c2, h3.c1⟩ (fun hHeld => ?_)
  have h4 := tab_drew h3
  have hu4 := upd_drew (Upd.of_below X B3)
  have hx4 : Bx w2.drew w.heap.size 32 p.row := hx3
  clear h3 B3 hx3
  generalize w2.drew = W4 at *
  refine held_take (v := ?v316) 0 rfl (by kernel_rfl) (by kernel_rfl) (by kernel_rfl) (fun _ _ _ h => h) (by rfl) ?y316 (by assumption) ?_
  case y316 => (intro w hSw; unfold HeldC at hSw; go_simp; (try with_reducible rfl); (try omega))
  simp only [List.setIfInBounds_toArray, List.set_cons_zero, List.set_cons_succ]
  refine held_take (v := ?v319) 1 rfl (by kernel_rfl) (by kernel_rfl) (by kernel_rfl) (fun _ _ _ h => h) (by rfl) ?y319 (by assumption) ?_
  case y319 => (intro w hSw; unfold HeldC at hSw; go_simp; (try with_reducible rfl); (try omega))
  simp only [List.setIfInBounds_toArray, List.set_cons_zero, List.set_cons_succ]
  refine held_take (v := ?v322) 2 rfl (by kernel_rfl) (by kernel_rfl) (by kernel_rfl) (fun _ _ _ h => h) (by rfl) ?y322 (by assumption) ?_
  case y322 => (intro w hSw; unfold HeldC at hSw; go_simp; (try with_reducible rfl); (try omega))
  simp only [List.setIfInBounds_toArray, List.set_cons_zero, List.set_cons_succ]
  refine held_take (v := ?v325) 3 rfl (by kernel_rfl) (by kernel_rfl) (by kernel_rfl) (fun _ _ _ h => h) (by rfl) ?y325 (by assumption) ?_
  case y325 => (intro w hSw; unfold HeldC at hSw; go_simp; (try with_reducible rfl); (try omega))
  simp only [List.setIfInBounds_toArray, List.set_cons_zero, List.set_cons_succ]
  refine held_take (v := ?v328) 4 rfl (by kernel_rfl) (by kernel_rfl) (by kernel_rfl) (fun _ _ _ h => h) (by rfl) ?y328 (by assumption) ?_
  case y328 => (intro w hSw; unfold HeldC at hSw; go_simp; (try with_reducible rfl); (try omega))
  simp only [List.setIfInBounds_toArray, List.set_cons_zero, List.set_cons_succ]
  refine held_take (v := ?v331) 5 rfl (by kernel_rfl) (by kernel_rfl) (by kernel_rfl) (fun _ _ _ h => h) (by rfl) ?y331 (by assumption) ?_
  case y331 => (intro w hSw; unfold HeldC at hSw; go_simp; (try with_reducible rfl); (try omega))
  simp only [List.setIfInBounds_toArray, List.set_cons_zero, List.set_cons_succ]
  refine held_take (v := ?v334) 6 rfl (by kernel_rfl) (by kernel_rfl) (by kernel_rfl) (fun _ _ _ h => h) (by rfl) ?y334 (by assumption) ?_
  case y334 => (intro w hSw; unfold HeldC at hSw; go_simp; (try with_reducible rfl); (try omega))
  simp only [List.setIfInBounds_toArray, List.set_cons_zero, List.set_cons_succ]
  refine held_take (v := ?v337) 7 rfl (by kernel_rfl) (by kernel_rfl) (by kernel_rfl) (fun _ _ _ h => h) (by rfl) ?y337 (by assumption) ?_
  case y337 => (intro w hSw; unfold HeldC at hSw; go_simp; (try with_reducible rfl); (try omega))
  simp only [List.setIfInBounds_toArray, List.set_cons_zero, List.set_cons_succ]
  refine held_take (v := .bool false) 8 rfl (by kernel_rfl) (by kernel_rfl) (by kernel_rfl) (fun _ _ _ h => h) (by rfl) (fun W hSw => (by have hq : decide (T.room ≤ T.count) = false := decide_eq_false (by omega); go_simp; (try simp [hroom]))) (by assumption) ?_
  simp only [List.setIfInBounds_toArray, List.set_cons_zero, List.set_cons_succ]
  refine wpAnyH_done (by kernel_rfl) ?_ _
  refine NoPanic.normal ?_
  have c2 := h4.c2
  have z2 : W4.frozen? ⟨g, 2, none⟩ = false := h4.box.frozen 2
  have H5 := Lib.hid (h4.setCount (T.count + 1))
  have HU5 := Lib.hid (hu4.trans (Upd.setCell g 2 (.int .i64 (T.count + 1)) h4.inG))
  have hgw : g < w.heap.size := HXL.out g h4.inG
  have HX5 := Lib.hid (hx4.setOther (k := g) (by omega) 2 (.int .i64 (T.count + 1)))
  clear h4 hu4 hx4 hHeld
  go_wp2
  have h4 := H5.out
  have hu4 := HU5.out
  have hx4 := HX5.out
  clear H5 HU5 HX5 c2 z2
  generalize hWW : W4.setCell ⟨g, 2, none⟩ (.int .i64 (T.count + 1)) = W45 at *
  clear hWW
  refine wp_region_noPanic ?_
  refine wp_region_held_drew (S := HeldR w.heap.size 32 p.row) (by kernel_rfl) hx4 (fun hHeld => ?_)
  have h5 := tab_drew h4
  have hu5 := upd_drew hu4
  clear h4 hu4 hx4
  generalize hWd : W45.drew = W5 at *
  clear hWd
  have c3 := h5.c3
  refine held_take (v := ?v366) 0 rfl (by kernel_rfl) (by kernel_rfl) (by kernel_rfl) (fun _ _ _ h => h) (by rfl) ?y366 (by assumption) ?_
  case y366 => (intro w hSw; unfold HeldR at hSw; go_simp; (try with_reducible rfl); (try omega))
  simp only [List.setIfInBounds_toArray, List.set_cons_zero, List.set_cons_succ]
  refine held_take (v := ?v369) 1 rfl (by kernel_rfl) (by kernel_rfl) (by kernel_rfl) (fun _ _ _ h => h) (by rfl) ?y369 (by assumption) ?_
  case y369 => (intro w hSw; unfold HeldR at hSw; go_simp; (try with_reducible rfl); (try omega))
  simp only [List.setIfInBounds_toArray, List.set_cons_zero, List.set_cons_succ]
  refine held_take (v := ?v372) 2 rfl (by kernel_rfl) (by kernel_rfl) (by kernel_rfl) (fun _ _ _ h => h) (by rfl) ?y372 (by assumption) ?_
  case y372 => (intro w hSw; unfold HeldR at hSw; go_simp; (try with_reducible rfl); (try omega))
  simp only [List.setIfInBounds_toArray, List.set_cons_zero, List.set_cons_succ]
  refine held_take (v := ?v375) 3 rfl (by kernel_rfl) (by kernel_rfl) (by kernel_rfl) (fun _ _ _ h => h) (by rfl) ?y375 (by assumption) ?_
  case y375 => (intro w hSw; unfold HeldR at hSw; go_simp; (try with_reducible rfl); (try omega))
  simp only [List.setIfInBounds_toArray, List.set_cons_zero, List.set_cons_succ]
  refine held_take (v := ?v378) 4 rfl (by kernel_rfl) (by kernel_rfl) (by kernel_rfl) (fun _ _ _ h => h) (by rfl) ?y378 (by assumption) ?_
  case y378 => (intro w hSw; unfold HeldR at hSw; go_simp; (try with_reducible rfl); (try omega))
  simp only [List.setIfInBounds_toArray, List.set_cons_zero, List.set_cons_succ]
  refine held_take (v := p.val) 6 rfl (by kernel_rfl) (by kernel_rfl) (by kernel_rfl) (fun _ _ _ h => h) (by rfl) (fun W hSw => exec_load_any _ (.tmp 4) rfl w.heap.size 0 p.row _ rfl (rangeAll hSw) Try.underlying32 rfl (pf_infoC HP.out)) (by assumption) ?_
  simp only [List.setIfInBounds_toArray, List.set_cons_zero, List.set_cons_succ]
  refine held_take (v := ?v383) 7 rfl (by kernel_rfl) (by kernel_rfl) (by kernel_rfl) (fun _ _ _ h => h) (by rfl) ?y383 (by assumption) ?_
  case y383 => (intro w hSw; unfold HeldR at hSw; go_simp; (try with_reducible rfl); (try omega))
  simp only [List.setIfInBounds_toArray, List.set_cons_zero, List.set_cons_succ]
  refine held_take (v := itV p x) 8 rfl (by kernel_rfl) (by kernel_rfl) (by kernel_rfl) (fun _ _ _ h => h) (by rfl) (fun W hSw => exec_build2 _ 0 1 (.tmp 43) (.tmp 44) rfl p.val (.int .i64 x) (itR p x) rfl rfl (built_it2 p HP.out x)) (by assumption) ?_
  simp only [List.setIfInBounds_toArray, List.set_cons_zero, List.set_cons_succ]
  refine held_one 5 rfl (by kernel_rfl) (by rfl) (fun K hK => ?_)
  go_simp
  refine hK.out _ _ hHeld (fun _ => ?_)
  clear hK K
  (try simp only [List.setIfInBounds_toArray, List.set_cons_zero, List.set_cons_succ])
  refine held_one 9 rfl (by kernel_rfl) (by rfl) (fun K hK => ?_)
  go_simp
  refine (HPUT.out _ X ⟨_, _, _, h5⟩).mono ?_
  rintro e w6 ⟨rfl, X6, ⟨gn6, cap6, vf6, h6⟩, hu6⟩
  have hX0 : ¬ X w.heap.size := fun hx => by have := HXL.out _ hx; omega
  have hH6 : HeldR w.heap.size 32 p.row w6 := Bx.upd hHeld hu6 hX0
  refine hK.out _ _ hH6 (fun _ => ?_)
  clear hK K c3
  refine held_take (v := ?v401) 10 rfl (by kernel_rfl) (by kernel_rfl) (by kernel_rfl) (fun _ _ _ h => h) (by rfl) ?y401 (by assumption) ?_
  case y401 => (intro w hSw; unfold HeldR at hSw; go_simp; (try with_reducible rfl); (try omega))
  simp only [List.setIfInBounds_toArray, List.set_cons_zero, List.set_cons_succ]
  refine held_take (v := ?v404) 11 rfl (by kernel_rfl) (by kernel_rfl) (by kernel_rfl) (fun _ _ _ h => h) (by rfl) ?y404 (by assumption) ?_
  case y404 => (intro w hSw; unfold HeldR at hSw; go_simp; (try with_reducible rfl); (try omega))
  simp only [List.setIfInBounds_toArray, List.set_cons_zero, List.set_cons_succ]
  have c3 := h6.c3
  have z3 : w6.frozen? ⟨g, 3, none⟩ = false := h6.box.frozen 3
  have h7 := h6.setRoot r
  have hu7 := (hu5.trans hu6).trans (Upd.setCell g 3 (.int .i64 (r : Int)) h6.inG)
  have hH7 : HeldR w.heap.size 32 p.row (w6.setCell ⟨g, 3, none⟩ (.int .i64 (r : Int))) := Bx.setOther hH6 (by omega) _ _
  refine held_none 12 rfl (by kernel_rfl) (by rfl) (fun K hK => ?_)
  go_simp
  refine hK.out _ _ hH7 (fun _ => ?_)
  clear hK K c3 z3
  refine wpAnyH_done (by kernel_rfl) ?_ _
  refine NoPanic.normal ?_
  go_wp2
  go_ret
  exact ⟨rfl, X6, ⟨_, _, _, h7⟩, hu7⟩
set_option maxRecDepth 100000 in
set_option maxHeartbeats 4000000 in
theorem del_some (T T1 : Tb) (p : Pfx) (w : World) (X : Nat → Prop) (g : Nat) (h : TabM w X g T) (hp : p.addr.length = 16) (ht : (chkP p && (p.six == T.six)) = true) (f : Nat) (items : List (Pfx × Int)) (hI : aboveN f T.nds T.root p = some items) (v0 : Int) (hg : getI p items = some v0) (hc0 : 0 ≤ T.count) (hc1 : T.count ≤ 1000000)
    (r F : Nat) (hput : remN F { T with count := T.count - 1 } T.root p = some (r, T1)) (hl : T.free.length + F ≤ 1000000) :
    Calls Try.prog 9 #[.pointer (some ⟨g, 0, none⟩), p.val] w fun e w' => e = .returned (.int .i64 0) ∧ ∃ X', TabM w' X' g { T1 with root := r } ∧ Upd w X w' X' := by
  have hb : Below w.heap.size w (w.alloc (.cells p.row.toArray 32)) := (Below.refl _ _).alloc (Nat.le_refl _) _
  have HT := Lib.hid (fun W (hW : TabM W X g T) => takes_any T p W X g hW hp)
  rw [ht] at HT
  have HGT := Lib.hid (fun W (hW : TabM W X g T) => get_tab T p W X g hW hp ht f items hI)
  rw [hg] at HGT
  have H1 := Lib.hid (h.up hb)
  have HX := Lib.hid (Bx.new w 32 p.row)
  have R0 := Lib.hid (rangeAll HX.out)
  have HP := Lib.hid hp
  have HB := Lib.hid hb
  have HXL := Lib.hid h.low
  rw [show p.val = .agg p.row.toArray from rfl]
  have HPUT := Lib.hid (fun W X (hW : TabM W X g { T with count := T.count - 1 }) => rem_any F { T with count := T.count - 1 } T1 T.root r p W X g hW hp hput hl)
  unfold LaidT at HPUT
  clear h hp hb
  go_enter Try.func9, Try.ntmps9
  go_wp2_with (first
    | (refine wpList_load_any rfl 32 (.tmp 3) rfl w.heap.size 0 p.row _ rfl R0.out Try.underlying32 rfl (pf_infoC HP.out) ?_)
    | (go_at_call 20; refine (HT.out _ H1.out).mono ?_; rintro e w1 ⟨rfl, b1⟩; refine Hid.out ?_))
  refine Lib.hid ?_
  have h2 := H1.out.up b1
  have B2 := below_up HB.out b1 HB.out.size
  have hx2 := HX.out.up b1
  have R1 := Lib.hid (rangeAll hx2)
  clear H1 HB R0 b1
  go_wp2_with (first
    | (refine wpList_load_any rfl 32 (.tmp 3) rfl w.heap.size 0 p.row _ rfl R1.out Try.underlying32 rfl (pf_infoC HP.out) ?_)
    | (go_at_call 11; refine (HGT.out _ h2).mono ?_; rintro e w2 ⟨rfl, b2⟩; refine Hid.out ?_))
  refine Lib.hid ?_
  have h3 := h2.up b2
  have B3 := below_up B2 b2 B2.size
  have hx3 := hx2.up b2
  clear h2 B2 R1 b2 hx2
  obtain ⟨gn, cap, vf, h3⟩ := h3
  have h4 := h3
  have hu4 := Upd.of_below X B3
  have hx4 := hx3
  clear h3 B3 hx3
  have c2 := h4.c2
  have z2 : w2.frozen? ⟨g, 2, none⟩ = false := h4.box.frozen 2
  have H5 := Lib.hid (h4.setCount (T.count - 1))
  have HU5 := Lib.hid (hu4.trans (Upd.setCell g 2 (.int .i64 (T.count - 1)) h4.inG))
  have hgw : g < w.heap.size := HXL.out g h4.inG
  have HX5 := Lib.hid (hx4.setOther (k := g) (by omega) 2 (.int .i64 (T.count - 1)))
  clear h4 hu4 hx4
  go_wp2
  have h4 := H5.out
  have hu4 := HU5.out
  have hx4 := HX5.out
  clear H5 HU5 HX5 c2 z2
  generalize hWW : w2.setCell ⟨g, 2, none⟩ (.int .i64 (T.count - 1)) = W45 at *
  clear hWW
  refine wp_region_noPanic ?_
  refine wp_region_held_drew (S := HeldR w.heap.size 32 p.row) (by kernel_rfl) hx4 (fun hHeld => ?_)
  have h5 := tab_drew h4
  have hu5 := upd_drew hu4
  clear h4 hu4 hx4
  generalize hWd : W45.drew = W5 at *
  clear hWd
  have c3 := h5.c3
  refine held_take (v := ?v486) 0 rfl (by kernel_rfl) (by kernel_rfl) (by kernel_rfl) (fun _ _ _ h => h) (by rfl) ?y486 (by assumption) ?_
  case y486 => (intro w hSw; unfold HeldR at hSw; go_simp; (try with_reducible rfl); (try omega))
  simp only [List.setIfInBounds_toArray, List.set_cons_zero, List.set_cons_succ]
  refine held_take (v := ?v489) 1 rfl (by kernel_rfl) (by kernel_rfl) (by kernel_rfl) (fun _ _ _ h => h) (by rfl) ?y489 (by assumption) ?_
  case y489 => (intro w hSw; unfold HeldR at hSw; go_simp; (try with_reducible rfl); (try omega))
  simp only [List.setIfInBounds_toArray, List.set_cons_zero, List.set_cons_succ]
  refine held_take (v := ?v492) 2 rfl (by kernel_rfl) (by kernel_rfl) (by kernel_rfl) (fun _ _ _ h => h) (by rfl) ?y492 (by assumption) ?_
  case y492 => (intro w hSw; unfold HeldR at hSw; go_simp; (try with_reducible rfl); (try omega))
  simp only [List.setIfInBounds_toArray, List.set_cons_zero, List.set_cons_succ]
  refine held_take (v := ?v495) 3 rfl (by kernel_rfl) (by kernel_rfl) (by kernel_rfl) (fun _ _ _ h => h) (by rfl) ?y495 (by assumption) ?_
  case y495 => (intro w hSw; unfold HeldR at hSw; go_simp; (try with_reducible rfl); (try omega))
  simp only [List.setIfInBounds_toArray, List.set_cons_zero, List.set_cons_succ]
  refine held_take (v := ?v498) 4 rfl (by kernel_rfl) (by kernel_rfl) (by kernel_rfl) (fun _ _ _ h => h) (by rfl) ?y498 (by assumption) ?_
  case y498 => (intro w hSw; unfold HeldR at hSw; go_simp; (try with_reducible rfl); (try omega))
  simp only [List.setIfInBounds_toArray, List.set_cons_zero, List.set_cons_succ]
  refine held_take (v := p.val) 6 rfl (by kernel_rfl) (by kernel_rfl) (by kernel_rfl) (fun _ _ _ h => h) (by rfl) (fun W hSw => exec_load_any _ (.tmp 3) rfl w.heap.size 0 p.row _ rfl (rangeAll hSw) Try.underlying32 rfl (pf_infoC HP.out)) (by assumption) ?_
  simp only [List.setIfInBounds_toArray, List.set_cons_zero, List.set_cons_succ]
  refine held_one 5 rfl (by kernel_rfl) (by rfl) (fun K hK => ?_)
  go_simp
  refine hK.out _ _ hHeld (fun _ => ?_)
  clear hK K
  (try simp only [List.setIfInBounds_toArray, List.set_cons_zero, List.set_cons_succ])
  refine held_one 7 rfl (by kernel_rfl) (by rfl) (fun K hK => ?_)
  go_simp
  refine (HPUT.out _ X ⟨_, _, _, h5⟩).mono ?_
  rintro e w6 ⟨rfl, X6, ⟨gn6, cap6, vf6, h6⟩, hu6⟩
  have hX0 : ¬ X w.heap.size := fun hx => by have := HXL.out _ hx; omega
  have hH6 : HeldR w.heap.size 32 p.row w6 := Bx.upd hHeld hu6 hX0
  refine hK.out _ _ hH6 (fun _ => ?_)
  clear hK K c3
  refine held_take (v := ?v516) 8 rfl (by kernel_rfl) (by kernel_rfl) (by kernel_rfl) (fun _ _ _ h => h) (by rfl) ?y516 (by assumption) ?_
  case y516 => (intro w hSw; unfold HeldR at hSw; go_simp; (try with_reducible rfl); (try omega))
  simp only [List.setIfInBounds_toArray, List.set_cons_zero, List.set_cons_succ]
  refine held_take (v := ?v519) 9 rfl (by kernel_rfl) (by kernel_rfl) (by kernel_rfl) (fun _ _ _ h => h) (by rfl) ?y519 (by assumption) ?_
  case y519 => (intro w hSw; unfold HeldR at hSw; go_simp; (try with_reducible rfl); (try omega))
  simp only [List.setIfInBounds_toArray, List.set_cons_zero, List.set_cons_succ]
  have c3 := h6.c3
  have z3 : w6.frozen? ⟨g, 3, none⟩ = false := h6.box.frozen 3
  have h7 := h6.setRoot r
  have hu7 := (hu5.trans hu6).trans (Upd.setCell g 3 (.int .i64 (r : Int)) h6.inG)
  have hH7 : HeldR w.heap.size 32 p.row (w6.setCell ⟨g, 3, none⟩ (.int .i64 (r : Int))) := Bx.setOther hH6 (by omega) _ _
  refine held_none 10 rfl (by kernel_rfl) (by rfl) (fun K hK => ?_)
  go_simp
  refine hK.out _ _ hH7 (fun _ => ?_)
  clear hK K c3 z3
  refine wpAnyH_done (by kernel_rfl) ?_ _
  refine NoPanic.normal ?_
  go_wp2
  go_ret
  exact ⟨rfl, X6, ⟨_, _, _, h7⟩, hu7⟩
set_option maxRecDepth 100000 in
set_option maxHeartbeats 4000000 in
theorem del_none (T : Tb) (p : Pfx) (w : World) (X : Nat → Prop) (g : Nat) (h : TabM w X g T) (hp : p.addr.length = 16) (ht : (chkP p && (p.six == T.six)) = true) (f : Nat) (items : List (Pfx × Int)) (hI : aboveN f T.nds T.root p = some items) (hg : getI p items = none):
    Calls Try.prog 9 #[.pointer (some ⟨g, 0, none⟩), p.val] w fun e w' => e = .returned (.int .i64 31) ∧ Below w.heap.size w w' := by
  have hb : Below w.heap.size w (w.alloc (.cells p.row.toArray 32)) := (Below.refl _ _).alloc (Nat.le_refl _) _
  have HT := Lib.hid (fun W (hW : TabM W X g T) => takes_any T p W X g hW hp)
  rw [ht] at HT
  have HGT := Lib.hid (fun W (hW : TabM W X g T) => get_tab T p W X g hW hp ht f items hI)
  rw [hg] at HGT
  have H1 := Lib.hid (h.up hb)
  have HX := Lib.hid (Bx.new w 32 p.row)
  have R0 := Lib.hid (rangeAll HX.out)
  have HP := Lib.hid hp
  have HB := Lib.hid hb
  rw [show p.val = .agg p.row.toArray from rfl]
  clear h hp hb
  go_enter Try.func9, Try.ntmps9
  go_wp2_with (first
    | (refine wpList_load_any rfl 32 (.tmp 3) rfl w.heap.size 0 p.row _ rfl R0.out Try.underlying32 rfl (pf_infoC HP.out) ?_)
    | (go_at_call 20; refine (HT.out _ H1.out).mono ?_; rintro e w1 ⟨rfl, b1⟩; refine Hid.out ?_))
  refine Lib.hid ?_
  have h2 := H1.out.up b1
  have B2 := below_up HB.out b1 HB.out.size
  have hx2 := HX.out.up b1
  have R1 := Lib.hid (rangeAll hx2)
  clear H1 HB R0 b1
  go_wp2_with (first
    | (refine wpList_load_any rfl 32 (.tmp 3) rfl w.heap.size 0 p.row _ rfl R1.out Try.underlying32 rfl (pf_infoC HP.out) ?_)
    | (go_at_call 11; refine (HGT.out _ h2).mono ?_; rintro e w2 ⟨rfl, b2⟩; refine Hid.out ?_))
  refine Lib.hid ?_
  have B3 := below_up B2 b2 B2.size
  clear h2 B2 R1 b2 hx2
  go_wp2
  go_ret
  exact ⟨rfl, B3⟩
end Go.Proofs.Ytecefdocemkliaa
