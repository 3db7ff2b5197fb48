/- New, Put and Delete of package lpm. -/
import Derived.Test.YtbbmckmhgggeeaaT9l
import Derived.Test.YtbbmckmhgggeeaaT9i
namespace Go.Proofs.Ytbbmckmhgggeeaa
open Go Go.RowKit

def tab0 (six : Bool) (room : Int) : Tb := ⟨six, room, 0, 0, [nd0], []⟩
theorem new_none (six : Bool) (room : Int) (w : World) (h : room < 1 ∨ 65536 < room) : Calls Try.prog 9 #[.bool six, .int .i64 room] w fun e w' => e = .returned (.pointer none) ∧ w' = w := by
  rcases h with h | h
  · go_enter Try.func9, Try.ntmps9
    go_wp2
    go_ret
    exact ⟨rfl, rfl⟩
  · have h1 : ¬ room < 1 := by omega
    go_enter Try.func9, Try.ntmps9
    go_wp2
    go_ret
    exact ⟨rfl, rfl⟩
theorem nd0_cells : (#[.bool false, .int .u8 0, .int .u8 0, .int .u8 0, .int .u8 0, .int .u8 0, .int .u8 0, .int .u8 0, .int .u8 0, .int .u8 0, .int .u8 0, .int .u8 0, .int .u8 0, .int .u8 0, .int .u8 0, .int .u8 0, .int .u8 0, .int .i64 0, .int .i64 0, .bool false, .int .i64 0, .int .i64 0] : Array Value) = nd0.row.toArray := rfl
theorem new_some (six : Bool) (room : Int) (w : World) (h1 : 1 ≤ room) (h2 : room ≤ 65536) : Calls Try.prog 9 #[.bool six, .int .i64 room] w fun e w' => ∃ g X, e = .returned (.pointer (some ⟨g, 0, none⟩)) ∧ TabM w' X g (tab0 six room) ∧ Below w.heap.size w w' ∧ (∀ k, X k → w.heap.size ≤ k) := by
  have hm : (Instr.makeSlice 62 (.int .i64 1) (.int .i64 1)).run Try.prog w = .ok (.slice (some ⟨w.heap.size, 0, none⟩) 1 1) (w.alloc (.cells nd0.row.toArray 83)) := by
    obtain ⟨ti, hti, htz, hts, htb⟩ := info_parts nd_infoF
    have := run_makeSlice (P := Try.prog) w 62 83 ti nd0.val Try.underlying62 hti htz .i64 .i64 1 1 (by omega) (by omega) (by rw [hts]; decide) (by rw [htb]; decide) (by omega)
    rw [hts] at this
    rw [this, show madeCells nd0.val.cells (Int.toNat 1 * 22) = nd0.row.toArray by kernel_rfl]
    rfl
  have HB := Lib.hid (show Below w.heap.size w ((w.alloc (.cells nd0.row.toArray 83)).alloc (.cells #[.bool six, .int .i64 room, .int .i64 0, .int .i64 0, .slice (some ⟨w.heap.size, 0, none⟩) 1 1, .slice none 0 0] 65)) from ((Below.refl _ _).alloc (Nat.le_refl _) _).alloc (by simp) _)
  go_enter Try.func9, Try.ntmps9
  go_wp2
  go_ret
  refine ⟨w.heap.size + 1, fun k => k = w.heap.size ∨ k = w.heap.size + 1, rfl, ⟨w.heap.size, 1, .slice none 0 0, ?_, ?_, World.ownsRow_nil _ _ _ _, ?_, .inr rfl, .inl rfl, (fun k e => by cases e), ?_⟩, HB.out, ?_⟩
  · have := Bx.new (w.alloc (.cells nd0.row.toArray 83)) 65 ((tab0 six room).head (.slice (some ⟨w.heap.size, 0, none⟩) 1 1) (.slice none 0 0))
    rw [World.size_alloc] at this
    exact this
  · refine ⟨rfl, .inr ⟨w.heap.size, 1, nd0.row.toArray, rfl, by omega, ?_, by simp [tab0], by simp [maxLen], rfl, rfl⟩⟩
    exact ((Bx.new w 83 nd0.row).al _)
  · intro d hd
    simp only [tab0, List.mem_singleton] at hd
    rw [hd]
    rfl
  · intro k hk
    simp
    omega
  · intro k hk
    omega
def ItemP (X : Nat → Prop) (w : World) (g : Nat) (T' : Tb) (e : Ending) (c : Int) (w' : World) : Prop := e = .returned (.int .i64 c) ∧ ∃ X', TabM w' X' g T' ∧ Upd w X w' X'
set_option maxRecDepth 100000 in
set_option maxHeartbeats 4000000 in
theorem put_no (v : Value) (p : Pfx) (x : Int) (w : World) (hp : p.addr.length = 16)
    (HT : ∀ W, Below w.heap.size w W → Calls Try.prog 25 #[v, p.val] W fun e w' => e = .returned (.bool false) ∧ Below W.heap.size W w') :
    Calls Try.prog 11 #[v, p.val, .int .i64 x] w fun e w' => e = .returned (.int .i64 1) ∧ Below w.heap.size w w' := by
  have hb : Below w.heap.size w (w.alloc (.cells p.row.toArray 32)) := (Below.refl _ _).alloc (Nat.le_refl _) _
  have HT2 := Lib.hid (HT _ hb)
  have R0 := Lib.hid (rangeAll (Bx.new w 32 p.row))
  have HP := Lib.hid hp
  have HB := Lib.hid hb
  rw [show p.val = .agg p.row.toArray from rfl]
  clear hp HT hb
  go_enter Try.func11, Try.ntmps11
  go_wp2_with (first
    | (refine wpList_load_any rfl 32 (.tmp 4) rfl w.heap.size 0 p.row _ rfl R0.out Try.underlying32 rfl (pf_infoC HP.out) ?_)
    | (go_at_call 25; refine HT2.out.mono ?_; rintro e w1 ⟨rfl, b1⟩; refine Hid.out ?_))
  refine Lib.hid ?_
  go_wp2
  go_ret
  exact ⟨rfl, below_up HB.out b1 HB.out.size⟩
set_option maxRecDepth 100000 in
set_option maxHeartbeats 4000000 in
theorem del_no (v : Value) (p : Pfx) (w : World) (hp : p.addr.length = 16)
    (HT : ∀ W, Below w.heap.size w W → Calls Try.prog 25 #[v, p.val] W fun e w' => e = .returned (.bool false) ∧ Below W.heap.size W w') :
    Calls Try.prog 12 #[v, p.val] w fun e w' => e = .returned (.int .i64 1) ∧ Below w.heap.size w w' := by
  have hb : Below w.heap.size w (w.alloc (.cells p.row.toArray 32)) := (Below.refl _ _).alloc (Nat.le_refl _) _
  have HT2 := Lib.hid (HT _ hb)
  have R0 := Lib.hid (rangeAll (Bx.new w 32 p.row))
  have HP := Lib.hid hp
  have HB := Lib.hid hb
  rw [show p.val = .agg p.row.toArray from rfl]
  clear hp HT hb
  go_enter Try.func12, Try.ntmps12
  go_wp2_with (first
    | (refine wpList_load_any rfl 32 (.tmp 3) rfl w.heap.size 0 p.row _ rfl R0.out Try.underlying32 rfl (pf_infoC HP.out) ?_)
    | (go_at_call 25; refine HT2.out.mono ?_; rintro e w1 ⟨rfl, b1⟩; refine Hid.out ?_))
  refine Lib.hid ?_
  go_wp2
  go_ret
  exact ⟨rfl, below_up HB.out b1 HB.out.size⟩
def HeldC (g : Nat) (c r : Int) (W : World) : Prop := W.cell? ⟨g, 2, none⟩ = some (.int .i64 c) ∧ W.cell? ⟨g, 1, none⟩ = some (.int .i64 r)
/-- Put of a prefix that may be: what it answers, by what Get told. -/
theorem upd_drew {w W : World} {X X' : Nat → Prop} (h : Upd w X W X') : Upd w X W.drew X' := ⟨h.os, h.tape, h.output, h.size, h.block, h.sub⟩
theorem tab_drew {W : World} {X : Nat → Prop} {g gn cap : Nat} {T : Tb} {vf : Value} (h : TabG W X g T gn cap vf) : TabG W.drew X g T gn cap vf := ⟨h.box, h.nds, h.free, h.addr, h.inG, h.inN, h.inF, h.low⟩
set_option maxRecDepth 100000 in
set_option maxHeartbeats 4000000 in
theorem put_full (T : Tb) (p : Pfx) (x : Int) (w : World) (X : Nat → Prop) (g : Nat) (h : TabM w X g T) (hp : p.addr.length = 16) (ht : (chkP p && (p.six == T.six)) = true) (f : Nat) (items : List (Pfx × Int)) (hI : aboveN f T.nds T.root p = some items) (hg : getI p items = none) (hfull : T.room ≤ T.count) :
    Calls Try.prog 11 #[.pointer (some ⟨g, 0, none⟩), p.val, .int .i64 x] w fun e w' => e = .returned (.int .i64 30) ∧ Below w.heap.size w w' := by
  have hb : Below w.heap.size w (w.alloc (.cells p.row.toArray 32)) := (Below.refl _ _).alloc (Nat.le_refl _) _
  have HT := Lib.hid (fun W (hW : TabM W X g T) => takes_any T p W X g hW hp)
  rw [ht] at HT
  have HGT := Lib.hid (fun W (hW : TabM W X g T) => get_tab T p W X g hW hp ht f items hI)
  rw [hg] at HGT
  have H1 := Lib.hid (h.up hb)
  have HX := Lib.hid (Bx.new w 32 p.row)
  have R0 := Lib.hid (rangeAll HX.out)
  have HP := Lib.hid hp
  have HB := Lib.hid hb
  rw [show p.val = .agg p.row.toArray from rfl]
  clear h hp hb
  go_enter Try.func11, Try.ntmps11
  go_wp2_with (first
    | (refine wpList_load_any rfl 32 (.tmp 4) rfl w.heap.size 0 p.row _ rfl R0.out Try.underlying32 rfl (pf_infoC HP.out) ?_)
    | (go_at_call 25; refine (HT.out _ H1.out).mono ?_; rintro e w1 ⟨rfl, b1⟩; refine Hid.out ?_))
  refine Lib.hid ?_
  have h2 := H1.out.up b1
  have B2 := below_up HB.out b1 HB.out.size
  have R1 := Lib.hid (rangeAll (HX.out.up b1))
  clear H1 HB R0 b1
  go_wp2_with (first
    | (refine wpList_load_any rfl 32 (.tmp 4) rfl w.heap.size 0 p.row _ rfl R1.out Try.underlying32 rfl (pf_infoC HP.out) ?_)
    | (go_at_call 14; refine (HGT.out _ h2).mono ?_; rintro e w2 ⟨rfl, b2⟩; refine Hid.out ?_))
  refine Lib.hid ?_
  have h3 := h2.up b2
  have B3 := below_up B2 b2 B2.size
  clear h2 B2 R1 b2
  obtain ⟨gn, cap, vf, h3⟩ := h3
  go_wp2
  refine wp_region_noPanic ?_
  refine wp_region_held_drew (S := HeldC g T.count T.room) (by kernel_rfl) ⟨h3.c2, h3.c1⟩ (fun hHeld => ?_)
  refine held_take (v := ?v126) 0 rfl (by kernel_rfl) (by kernel_rfl) (by kernel_rfl) (fun _ _ _ h => h) (by rfl) ?y126 (by assumption) ?_
  case y126 => (intro w hSw; unfold HeldC at hSw; go_simp; (try with_reducible rfl); (try omega))
  simp only [List.setIfInBounds_toArray, List.set_cons_zero, List.set_cons_succ]
  refine held_take (v := ?v129) 1 rfl (by kernel_rfl) (by kernel_rfl) (by kernel_rfl) (fun _ _ _ h => h) (by rfl) ?y129 (by assumption) ?_
  case y129 => (intro w hSw; unfold HeldC at hSw; go_simp; (try with_reducible rfl); (try omega))
  simp only [List.setIfInBounds_toArray, List.set_cons_zero, List.set_cons_succ]
  refine held_take (v := ?v132) 2 rfl (by kernel_rfl) (by kernel_rfl) (by kernel_rfl) (fun _ _ _ h => h) (by rfl) ?y132 (by assumption) ?_
  case y132 => (intro w hSw; unfold HeldC at hSw; go_simp; (try with_reducible rfl); (try omega))
  simp only [List.setIfInBounds_toArray, List.set_cons_zero, List.set_cons_succ]
  refine held_take (v := ?v135) 3 rfl (by kernel_rfl) (by kernel_rfl) (by kernel_rfl) (fun _ _ _ h => h) (by rfl) ?y135 (by assumption) ?_
  case y135 => (intro w hSw; unfold HeldC at hSw; go_simp; (try with_reducible rfl); (try omega))
  simp only [List.setIfInBounds_toArray, List.set_cons_zero, List.set_cons_succ]
  refine held_take (v := ?v138) 4 rfl (by kernel_rfl) (by kernel_rfl) (by kernel_rfl) (fun _ _ _ h => h) (by rfl) ?y138 (by assumption) ?_
  case y138 => (intro w hSw; unfold HeldC at hSw; go_simp; (try with_reducible rfl); (try omega))
  simp only [List.setIfInBounds_toArray, List.set_cons_zero, List.set_cons_succ]
  refine held_take (v := ?v141) 5 rfl (by kernel_rfl) (by kernel_rfl) (by kernel_rfl) (fun _ _ _ h => h) (by rfl) ?y141 (by assumption) ?_
  case y141 => (intro w hSw; unfold HeldC at hSw; go_simp; (try with_reducible rfl); (try omega))
  simp only [List.setIfInBounds_toArray, List.set_cons_zero, List.set_cons_succ]
  refine held_take (v := ?v144) 6 rfl (by kernel_rfl) (by kernel_rfl) (by kernel_rfl) (fun _ _ _ h => h) (by rfl) ?y144 (by assumption) ?_
  case y144 => (intro w hSw; unfold HeldC at hSw; go_simp; (try with_reducible rfl); (try omega))
  simp only [List.setIfInBounds_toArray, List.set_cons_zero, List.set_cons_succ]
  refine held_take (v := ?v147) 7 rfl (by kernel_rfl) (by kernel_rfl) (by kernel_rfl) (fun _ _ _ h => h) (by rfl) ?y147 (by assumption) ?_
  case y147 => (intro w hSw; unfold HeldC at hSw; go_simp; (try with_reducible rfl); (try omega))
  simp only [List.setIfInBounds_toArray, List.set_cons_zero, List.set_cons_succ]
  refine held_take (v := .bool true) 8 rfl (by kernel_rfl) (by kernel_rfl) (by kernel_rfl) (fun _ _ _ h => h) (by rfl) (fun W hSw => (by have hq : decide (T.room ≤ T.count) = true := decide_eq_true hfull; go_simp; (try simp [hfull]))) (by assumption) ?_
  simp only [List.setIfInBounds_toArray, List.set_cons_zero, List.set_cons_succ]
  refine wpAnyH_done (by kernel_rfl) ?_ _
  refine NoPanic.normal ?_
  go_wp2
  go_ret
  exact ⟨rfl, B3.drew⟩
end Go.Proofs.Ytbbmckmhgggeeaa
