/- Package pool: AddHop, Int, Text, Hop. -/
import Derived.Test.YtoliijajhikhgaaDoorPo6
import Derived.Test.YtoliijajhikhgaaDoorPo7
namespace Go.Proofs.YtoliijajhikhgaaDoor
open Go Go.RowKit Go.Shelf
attribute [local go_sem] Oper.semAt_some

set_option maxRecDepth 100000 in
theorem as_int_str (W : World) (u : Value) : (Instr.typeAssert (.iface 9 u) 20 3 true).run Tryd.prog W = .ok (.tuple #[.int .i64 0, .bool false]) W := by kernel_rfl
set_option maxRecDepth 100000 in
theorem as_str (W : World) (u : Value) : (Instr.typeAssert (.iface 9 u) 20 9 true).run Tryd.prog W = .ok (.tuple #[u, .bool true]) W := by kernel_rfl
set_option maxRecDepth 100000 in
theorem as_hop (W : World) (u : Value) : (Instr.typeAssert (.iface 25 u) 20 25 true).run Tryd.prog W = .ok (.tuple #[u, .bool true]) W := by kernel_rfl
set_option maxRecDepth 100000 in
theorem as_hop_nil (W : World) : (Instr.typeAssert .nilIface 20 25 true).run Tryd.prog W = .ok (.tuple #[.agg (hopR 0 (.slice none 0 0) 0 0 (.slice none 0 0) false).toArray, .bool false]) W := by kernel_rfl
section
variable {base pt : Nat} {room : Int} {T : List (Value × Int)} {vt vk : Value} {ks : List Nat}
set_option maxRecDepth 100000 in
theorem pint_no (id : Int) (u : Value) (n : Int) (w : World) (h : PoolM w base pt room T vt vk ks) (hx : atT T id = (.iface 9 u, n)) :
    Calls Tryd.prog 21 #[.pointer (some ⟨pt, 0, none⟩), .int .i64 id] w fun e w' => e = .returned (.tuple #[.int .i64 0, .bool false]) ∧ Below w.heap.size w w' := by
  have HA := Lib.hid (pat_any id w h)
  rw [hx, show (thR (.iface 9 u, n)).toArray = #[.iface 9 u, .int .i64 n] from rfl] at HA
  clear h hx
  have hf0 := field14_0 (.iface 9 u) n
  have ha := fun W => as_int_str W u
  go_enter Tryd.func21, Tryd.ntmps21
  go_wp2_with (go_at_call 29; refine HA.out.mono ?_; rintro e w1 ⟨rfl, b1⟩; refine Hid.out ?_)
  refine Lib.hid ?_
  have HB := Lib.hid b1
  clear b1
  go_wp2
  go_ret2
  exact ⟨rfl, HB.out⟩
set_option maxRecDepth 100000 in
theorem ptext_yes (id : Int) (s : ByteArray) (n : Int) (w : World) (h : PoolM w base pt room T vt vk ks) (hx : atT T id = (.iface 9 (.string s), n)) :
    Calls Tryd.prog 19 #[.pointer (some ⟨pt, 0, none⟩), .int .i64 id] w fun e w' => e = .returned (.tuple #[.string s, .bool true]) ∧ Below w.heap.size w w' := by
  have HA := Lib.hid (pat_any id w h)
  rw [hx, show (thR (.iface 9 (.string s), n)).toArray = #[.iface 9 (.string s), .int .i64 n] from rfl] at HA
  clear h hx
  have hf0 := field14_0 (.iface 9 (.string s)) n
  have ha := fun W => as_str W (.string s)
  go_enter Tryd.func19, Tryd.ntmps19
  go_wp2_with (go_at_call 29; refine HA.out.mono ?_; rintro e w1 ⟨rfl, b1⟩; refine Hid.out ?_)
  refine Lib.hid ?_
  have HB := Lib.hid b1
  clear b1
  go_wp2
  go_ret2
  exact ⟨rfl, HB.out⟩
set_option maxRecDepth 100000 in
set_option maxHeartbeats 4000000 in
theorem paddHop_full (o : Int) (L : Value) (p b : Int) (R : Value) (pp : Bool) (l r : List Int) (w : World) (hL : IsC intR 1 w L l) (hR : IsC intR 1 w R r) (h1 : l.length ≤ 1000) (h2 : r.length ≤ 1000) (h : PoolM w base pt room T vt vk ks) (hf : room ≤ (cntU (usT T) : Int)) :
    Calls Tryd.prog 10 #[.pointer (some ⟨pt, 0, none⟩), .agg (hopR o L p b R pp).toArray] w fun e w' => e = .returned (.tuple #[.int .i64 0, .int .i64 30]) ∧ Below w.heap.size w w' := by
  have hb0 : Below w.heap.size w (w.alloc (.cells (hopR o L p b R pp).toArray 25)) := (Below.refl _ _).alloc (Nat.le_refl _) _
  have HX := Lib.hid (Bx.new w 25 (hopR o L p b R pp))
  have HW := Lib.hid (pown_any o L p b R pp l r _ (hL.below hb0) (hR.below hb0) h1 h2)
  have HB0 := Lib.hid hb0
  have HA := Lib.hid (fun (v : Value) (W : World) (hb : Below w.heap.size w W) => padd_full v W (h.up hb) hf)
  clear h hf hL hR hb0
  go_enter Tryd.func10, Tryd.ntmps10
  go_wp2_with (first
    | (refine plV rfl (.agg (hopR o L p b R pp).toArray) (exec_load_any _ (.tmp 3) rfl w.heap.size 0 _ _ rfl (rangeAll HX.out) Tryd.underlying25 rfl hop_info) ?_)
    | (go_at_call 27; refine HW.out.mono ?_; rintro e w1 ⟨L', R', rfl, hl, hr, ol, or, b1⟩)
    | (go_at_call 26; refine (HA.out _ _ (below_up HB0.out b1 HB0.out.size)).mono ?_; rintro e w2 ⟨rfl, b2⟩; refine Hid.out ?_))
  refine Lib.hid ?_
  have HB := Lib.hid (below_up (below_up HB0.out b1 HB0.out.size) b2 (below_up HB0.out b1 HB0.out.size).size)
  clear b1 b2
  go_wp2
  go_ret2
  exact ⟨rfl, HB.out⟩
set_option maxRecDepth 100000 in
set_option maxHeartbeats 4000000 in
theorem paddHop_any (o : Int) (L : Value) (p b : Int) (R : Value) (pp : Bool) (l r : List Int) (w : World) (hL : IsC intR 1 w L l) (hR : IsC intR 1 w R r) (h1 : l.length ≤ 1000) (h2 : r.length ≤ 1000) (h : PoolM w base pt room T vt vk ks) (hf : (cntU (usT T) : Int) < room) (hT : T.length ≤ 10000) :
    Calls Tryd.prog 10 #[.pointer (some ⟨pt, 0, none⟩), .agg (hopR o L p b R pp).toArray] w fun e w' => e = .returned (.tuple #[.int .i64 (freeU (usT T) : Int), .int .i64 0]) ∧ ∃ L' R' vt' vk' ks', w'.ownsRow w.heap.size 3 1 L' l.length (l.flatMap intR) ∧ w'.ownsRow w.heap.size 3 1 R' r.length (r.flatMap intR) ∧ L'.oneCell' = true ∧ R'.oneCell' = true ∧ PoTo w w' base pt room (addT T (.iface 25 (.agg (hopR o L' p b R' pp).toArray))) vt' vk' ks' := by
  have hb0 : Below w.heap.size w (w.alloc (.cells (hopR o L p b R pp).toArray 25)) := (Below.refl _ _).alloc (Nat.le_refl _) _
  have HX := Lib.hid (Bx.new w 25 (hopR o L p b R pp))
  have HW := Lib.hid (pown_any o L p b R pp l r _ (hL.below hb0) (hR.below hb0) h1 h2)
  have HB0 := Lib.hid hb0
  have HA := Lib.hid (fun (v : Value) (W : World) (hb : Below w.heap.size w W) => padd_any 25 v W (h.up hb) hf hT)
  clear h hf hL hR hb0 hT
  go_enter Tryd.func10, Tryd.ntmps10
  go_wp2_with (first
    | (refine plV rfl (.agg (hopR o L p b R pp).toArray) (exec_load_any _ (.tmp 3) rfl w.heap.size 0 _ _ rfl (rangeAll HX.out) Tryd.underlying25 rfl hop_info) ?_)
    | (go_at_call 27; refine HW.out.mono ?_; rintro e w1 ⟨L', R', rfl, hl, hr, ol, or, b1⟩)
    | (go_at_call 26; refine (HA.out _ _ (below_up HB0.out b1 HB0.out.size)).mono ?_; rintro e w2 ⟨rfl, vt', vk', ks', hTo⟩; refine Hid.out ?_))
  refine Lib.hid ?_
  have HB := Lib.hid (show PoTo w w2 base pt room _ vt' vk' ks' from ⟨hTo.m, ot_trans (KpO.below (below_up HB0.out b1 HB0.out.size)) hTo.k⟩)
  have HL := Lib.hid (own_mono (ot_own hTo.k hl (by decide) (by decide) (by decide)) HB0.out.size)
  have HR := Lib.hid (own_mono (ot_own hTo.k hr (by decide) (by decide) (by decide)) HB0.out.size)
  have HO := Lib.hid (And.intro ol or)
  clear b1 hTo hl hr ol or
  go_wp2
  go_ret2
  exact ⟨rfl, L', R', _, _, _, HL.out, HR.out, HO.out.1, HO.out.2, HB.out⟩
end
end Go.Proofs.YtoliijajhikhgaaDoor
