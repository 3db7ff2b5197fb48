/- LpmNone: a table that is none does nothing. -/
import Derived.Test.YtbbmckmhgggeeaaAw9b
namespace Go.Proofs.Ytbbmckmhgggeeaa
open Go Go.RowKit

set_option maxRecDepth 100000 in
set_option maxHeartbeats 8000000 in
theorem none_walk (p : Pfx) (x : Int) (w : World) (hp : p.addr.length = 16) (_h1 : -9223372036854775808 ≤ p.len) (_h2 : p.len ≤ 9223372036854775807) (_h3 : -9223372036854775808 ≤ x) (_h4 : x ≤ 9223372036854775807) :
    Calls Try.prog 6 #[p.val, .int .i64 x] w fun e w' => e = .returned (.bool true) ∧ Below w.heap.size w w' := by
  have HA := Lib.hid (fun W => awake9 W)
  have HG := Lib.hid (fun W => get_nil p W hp)
  have HL := Lib.hid (fun W => look_nil p.addr W)
  have HPU := Lib.hid (fun W => put_no (.pointer none) p x W hp (fun V _ => takes_nil p V))
  have HDE := Lib.hid (fun W => del_no (.pointer none) p W hp (fun V _ => takes_nil p V))
  have HAL := Lib.hid (fun W => all_nil W)
  have HLE := Lib.hid (fun W => len_nil W)
  have hb : Below w.heap.size w (w.alloc (.cells p.row.toArray 32)) := (Below.refl _ _).alloc (Nat.le_refl _) _
  have HX := Lib.hid (Bx.new w 32 p.row)
  have HB := Lib.hid hb
  have HP := Lib.hid hp
  have FZ : Hid (zeroP.addr.length = 16) := rfl
  rw [show p.val = .agg p.row.toArray from rfl]
  clear hp hb
  go_enter Try.func6, Try.ntmps6
  go_wp2_with (go_at_call 8; refine (HA.out _).mono ?_; rintro e w1 ⟨rfl, b1⟩; refine Hid.out ?_)
  refine Lib.hid ?_
  have B1 := below_up HB.out b1 HB.out.size
  have x1 := HX.out.up b1
  have R1 := Lib.hid (rangeAll x1)
  clear HB HX b1
  go_wp2_with (first
    | (refine plV rfl p.val (exec_load_any _ (.tmp 2) rfl w.heap.size 0 p.row _ rfl R1.out Try.underlying32 rfl (pf_infoC HP.out)) ?_)
    | (go_at_call 14; refine (HG.out _).mono ?_; rintro e w2 ⟨rfl, b2⟩; refine Hid.out ?_))
  refine Lib.hid ?_
  have B2 := below_up B1 b2 B1.size
  have x2 : PfxT w2 w.heap.size p := x1.up b2
  have R2 := Lib.hid x2.range
  clear B1 x1 R1 b2
  go_wp2_with (first
    | (refine plV rfl (arrV p.addr) (exec_load_arrR (.tmp 22) rfl w.heap.size 1 p.addr HP.out rfl R2.out) ?_)
    | (go_at_call 16; refine (HL.out _).mono ?_; rintro e w3 ⟨rfl, b3⟩; refine Hid.out ?_))
  refine Lib.hid ?_
  have hbC : Below w3.heap.size w3 (w3.alloc (.cells (itR zeroP 0).toArray 44)) := (Below.refl _ _).alloc (Nat.le_refl _) _
  have B3 := below_up (below_up B2 b3 B2.size) hbC (below_up B2 b3 B2.size).size
  have x3 : Bx (w3.alloc (.cells (itR zeroP 0).toArray 44)) w.heap.size 32 p.row := (Bx.up x2 b3).up hbC
  have R3 := Lib.hid (rangeAll x3)
  have X3 := Lib.hid x3
  have HB3 := Lib.hid B3
  clear B2 x2 R2 b3 x3 hbC B3
  rw [show itV zeroP 0 = .agg (itR zeroP 0).toArray from rfl]
  go_wp2_with (first
    | (refine wpList_store_fresh rfl 44 (.tmp 9) (.tmp 25) rfl (itR zeroP 0) _ w3.heap.size rfl rfl rfl (it_infoC FZ.out 0) rfl (it_one _ _) ?_)
    | (refine plV rfl p.val (exec_load_any _ (.tmp 2) rfl w.heap.size 0 p.row _ rfl R3.out Try.underlying32 rfl (pf_infoC HP.out)) ?_)
    | (go_at_call 11; refine (HPU.out _).mono ?_; rintro e w4 ⟨rfl, b4⟩; refine Hid.out ?_))
  refine Lib.hid ?_
  have B4 := below_up HB3.out b4 HB3.out.size
  have x4 := X3.out.up b4
  have R4 := Lib.hid (rangeAll x4)
  have HB4 := Lib.hid B4
  clear R3 X3 HB3 b4 B4 x4
  go_wp2_with (first
    | (refine plV rfl p.val (exec_load_any _ (.tmp 2) rfl w.heap.size 0 p.row _ rfl R4.out Try.underlying32 rfl (pf_infoC HP.out)) ?_)
    | (go_at_call 12; refine (HDE.out _).mono ?_; rintro e w5 ⟨rfl, b5⟩)
    | (go_at_call 22; refine (HAL.out _).mono ?_; rintro e w' ⟨rfl, rfl⟩)
    | (go_at_call 18; refine (HLE.out _).mono ?_; rintro e w' ⟨rfl, rfl⟩))
  go_ret
  exact ⟨rfl, below_up HB4.out b5 HB4.out.size⟩
end Go.Proofs.Ytbbmckmhgggeeaa
