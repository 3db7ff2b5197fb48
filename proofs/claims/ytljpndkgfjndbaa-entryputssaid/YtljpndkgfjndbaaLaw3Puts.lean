/- EntryPuts: the walk. -/
import Derived.Test.YtljpndkgfjndbaaAw3
import Derived.Test.YtljpndkgfjndbaaEnt6
import Derived.Test.YtljpndkgfjndbaaRef8
import Derived.Test.YtljpndkgfjndbaaRef9
namespace Go.Proofs.Ytljpndkgfjndbaa
open Go Go.RowKit

set_option maxHeartbeats 4000000 in
theorem puts_walk (a0 : Option Addr) (n0 c0 : Nat) (l0 : List Ent) (a1 : Option Addr) (n1 c1 : Nat) (l1 : List Ent) (w : World) (f0 : IsE w (.slice a0 n0 c0) l0) (f1 : IsE w (.slice a1 n1 c1) l1) :
    Calls Try.prog 4 #[.slice a0 n0 c0, .slice a1 n1 c1] w fun e w' => e = .returned (.bool true) ∧ Below w.heap.size w w' := by
  obtain ⟨rfl, q0, m0, -⟩ := f0.cells
  obtain ⟨rfl, q1, m1, -⟩ := f1.cells
  unfold maxLen at m0 m1
  have F0 := Lib.hid f0
  have F1 := Lib.hid f1
  clear f0 f1
  by_cases g0 : 40 < l0.length
  · go_enter Try.func4, Try.ntmps4
    go_wp2_with (go_at_call 8; refine (awake3_any _).mono ?_; rintro e w1 ⟨rfl, b1⟩)
    go_ret
    exact ⟨rfl, b1⟩
  by_cases g1 : 40 < l1.length
  · go_enter Try.func4, Try.ntmps4
    go_wp2_with (go_at_call 8; refine (awake3_any _).mono ?_; rintro e w1 ⟨rfl, b1⟩)
    go_ret
    exact ⟨rfl, b1⟩
  have HP := Lib.hid (fun W (hb : Below w.heap.size w W) => eput_any a0 _ c0 l0 W (F0.out.below hb))
  have HRP := Lib.hid (fun W (hb : Below w.heap.size w W) => reput_any a0 _ c0 l0 W (F0.out.below hb))
  have HS := Lib.hid (fun W (hb : Below w.heap.size w W) => same_any a0 a1 _ _ c0 c1 l0 l1 W (F0.out.below hb) (F1.out.below hb) (by omega))
  have HRS := Lib.hid (fun W (hb : Below w.heap.size w W) => rsame_any a0 a1 _ _ c0 c1 l0 l1 W (F0.out.below hb) (F1.out.below hb) (by omega))
  generalize putC l0 = pc at *
  generalize putR l0 = pb at *
  generalize allE alikeE l0 l1 = sb at *
  go_enter Try.func4, Try.ntmps4
  go_wp2_with (go_at_call 8; refine (awake3_any _).mono ?_; rintro e w1 ⟨rfl, b1⟩; refine Hid.out ?_)
  refine Lib.hid ?_
  go_wp2_with (go_at_call 16; refine (HP.out _ b1).mono ?_; rintro e w2 ⟨⟨a2, n2, c2, rfl, i2⟩, b2⟩; refine Hid.out ?_)
  refine Lib.hid ?_
  have b2' := below_up b1 b2 b1.size
  have HI2 := Lib.hid i2
  clear b1 b2 i2
  go_wp2_with (go_at_call 17; refine (HRP.out _ b2').mono ?_; rintro e w3 ⟨rfl, b3⟩; refine Hid.out ?_)
  refine Lib.hid ?_
  have b3' := below_up b2' b3 b2'.size
  have hv3 := (HI2.out.below b3).conv Try.underlying24 Try.underlying5 Try.underlying9
  clear b2' b3 HI2 HP HRP
  go_wp2_with (first | (go_at_call 18; refine (HS.out _ b3').mono ?_; rintro e w4 ⟨rfl, b4⟩; have b4' := below_up b3' b4 b3'.size) | (go_at_call 19; refine (HRS.out _ b4').mono ?_; rintro e w5 ⟨rfl, b5⟩))
  go_ret
  exact ⟨ret_bool (by simp), below_up b4' b5 b4'.size⟩
end Go.Proofs.Ytljpndkgfjndbaa
