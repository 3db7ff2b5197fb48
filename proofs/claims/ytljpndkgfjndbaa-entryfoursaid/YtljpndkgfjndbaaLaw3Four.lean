/- EntryFour: the walk. -/
import Derived.Test.YtljpndkgfjndbaaAw3
import Derived.Test.YtljpndkgfjndbaaEntP
import Derived.Test.YtljpndkgfjndbaaBaseMore
import Derived.Deep.QuietTactic
import Derived.BigQuiet
namespace Go.Proofs.Ytljpndkgfjndbaa
open Go Go.RowKit

theorem lowB_numOf4 (a b c d : UInt8) : lowB 4 (numOf [a, b, c, d]) = [a, b, c, d] := by
  have ha := UInt8.toNat_lt a
  have hb := UInt8.toNat_lt b
  have hc := UInt8.toNat_lt c
  have hd := UInt8.toNat_lt d
  have e : numOf [a, b, c, d] = ((a.toNat * 256 + b.toNat) * 256 + c.toNat) * 256 + d.toNat := by simp [numOf]
  rw [e]
  simp only [lowB, Nat.pow_succ, Nat.pow_zero, Nat.one_mul, Nat.div_one]
  refine congr (congrArg List.cons ?_) (congr (congrArg List.cons ?_) (congr (congrArg List.cons ?_) (congr (congrArg List.cons ?_) rfl)))
  all_goals
    apply UInt8.toNat.inj
    rw [UInt8.toNat_ofNat']
    omega

theorem u8_of {x : Int} (h0 : 0 ≤ x) (h1 : x ≤ 255) : ∃ b : UInt8, x = (b.toNat : Int) := by
  refine ⟨UInt8.ofNat x.toNat, ?_⟩
  rw [UInt8.toNat_ofNat_of_lt' (show x.toNat < 256 by omega)]
  omega
/-- An array of four bytes in a box, cut. -/
theorem isB_four {W : World} {B : Nat} {t : TypeId} {z : Nat × Nat} {x0 x1 x2 x3 : UInt8} (h : W.heap[B]? = some (.cells #[.int .u8 x0.toNat, .int .u8 x1.toNat, .int .u8 x2.toNat, .int .u8 x3.toNat] t z)) : IsB W (.slice (some ⟨B, 0, none⟩) 4 4) [x0, x1, x2, x3] :=
  IsB.of_row (l := [x0, x1, x2, x3]) h (by unfold maxLen; simp)

set_option maxHeartbeats 4000000 in
theorem four_walk (y0 y1 y2 y3 : Int) (w : World) (p0 : 0 ≤ y0) (q0 : y0 ≤ 255) (p1 : 0 ≤ y1) (q1 : y1 ≤ 255) (p2 : 0 ≤ y2) (q2 : y2 ≤ 255) (p3 : 0 ≤ y3) (q3 : y3 ≤ 255) :
    Calls Try.prog 6 #[.agg #[.int .u8 y0, .int .u8 y1, .int .u8 y2, .int .u8 y3]] w fun e w' => e = .returned (.bool true) ∧ Below w.heap.size w w' := by
  obtain ⟨x0, rfl⟩ := u8_of p0 q0
  obtain ⟨x1, rfl⟩ := u8_of p1 q1
  obtain ⟨x2, rfl⟩ := u8_of p2 q2
  obtain ⟨x3, rfl⟩ := u8_of p3 q3
  clear p0 q0 p1 q1 p2 q2 p3 q3
  have hn := num4_lt [x0, x1, x2, x3]
  have hlow := lowB_numOf4 x0 x1 x2 x3
  have e1 : unpE [x0, x1, x2, x3] = entOf (numOf [x0, x1, x2, x3]) := rfl
  have e2 : unpC [x0, x1, x2, x3] = 0 := rfl
  rw [show [x0, x1, x2, x3].take 4 = [x0, x1, x2, x3] from rfl] at hn
  have hg := entOf_good _ hn
  have HP := Lib.hid (fun W => pack_any (entOf (numOf [x0, x1, x2, x3])) W (entOf_ok _))
  rw [show packC (entOf (numOf [x0, x1, x2, x3])) = 0 by unfold packC; rw [hg]; rfl, show packB (entOf (numOf [x0, x1, x2, x3])) = [x0, x1, x2, x3] by unfold packB; rw [hg, if_pos rfl, Ent.bytes, num_entOf, hlow]] at HP
  have HU := Lib.hid (fun W (h : IsB W (.slice (some ⟨w.heap.size, 0, none⟩) 4 4) [x0, x1, x2, x3]) => unpack_any (some ⟨w.heap.size, 0, none⟩) 4 4 _ W h)
  rw [e1, e2] at HU
  have hok := entOf_ok (numOf [x0, x1, x2, x3])
  have hgd := of_decide_eq_true hg
  generalize entOf (numOf [x0, x1, x2, x3]) = en at *
  obtain ⟨L, C, B, T⟩ := en
  unfold Ent.val at HP HU
  obtain ⟨l0, l1, c1⟩ := hgd
  simp only at l0 l1 c1 HP HU
  clear hn hlow e1 e2 hg hok
  generalize hX0 : (x0.toNat : Int) = X0 at *
  generalize hX1 : (x1.toNat : Int) = X1 at *
  generalize hX2 : (x2.toNat : Int) = X2 at *
  generalize hX3 : (x3.toNat : Int) = X3 at *
  have HX := Lib.hid (And.intro hX0 (And.intro hX1 (And.intro hX2 hX3)))
  clear hX0 hX1 hX2 hX3
  go_enter Try.func6, Try.ntmps6
  go_wp2_with (go_at_call 8; refine (awake3_any _).mono ?_; rintro e w1 ⟨rfl, b1⟩; refine Hid.out ?_)
  refine Lib.hid ?_
  have hr1 : w1.heap[w.heap.size]? = _ := (b1.block w.heap.size (by simp)).trans (World.alloc_heap_new w (.cells #[.int .u8 X0, .int .u8 X1, .int .u8 X2, .int .u8 X3] 43))
  have HR1 := Lib.hid hr1
  have b1' := below_up ((Below.refl _ _).alloc (Nat.le_refl _) _) b1 (by simp)
  have HF : Hid (∀ W, Below w1.heap.size w1 W → IsB W (.slice (some ⟨w.heap.size, 0, none⟩) 4 4) [x0, x1, x2, x3]) := by
    intro W hb
    obtain ⟨rfl, rfl, rfl, rfl⟩ := HX.out
    exact isB_four ((hb.block _ (Array.getElem?_eq_some_iff.1 hr1).1).trans hr1)
  clear hr1 b1
  go_wp2_with (go_at_call 11; refine (HU.out _ (HF.out _ (Below.refl _ _))).mono ?_; rintro e w2 ⟨rfl, b2⟩; refine Hid.out ?_)
  refine Lib.hid ?_
  have b2' := below_up b1' b2 b1'.size
  have hr3 := World.alloc_heap_new w2 (.cells #[.int .i64 L, .int .u8 C, .bool B, .int .u8 T] 23)
  have g3 := b2.alloc b2.size (.cells #[.int .i64 L, .int .u8 C, .bool B, .int .u8 T] 23)
  have b3' := b2'.alloc b2'.size (.cells #[.int .i64 L, .int .u8 C, .bool B, .int .u8 T] 23)
  have HR3 := Lib.hid hr3
  have HG3 := Lib.hid g3
  have HB3 := Lib.hid b3'
  clear b2 b2' hr3 g3 b3' HU b1'
  go_wp2_with (go_at_call 9; refine (HP.out _).mono ?_; rintro e w4 ⟨⟨a4, n4, c4, rfl, i4⟩, b4⟩; refine Hid.out ?_)
  refine Lib.hid ?_
  have hr4 := (b4.block _ (Array.getElem?_eq_some_iff.1 HR3.out).1).trans HR3.out
  obtain ⟨k0, k1, -, -⟩ := four_cells hr4
  have hv : ∀ q, (convert 24 9 (.slice a4 n4 c4)).run Try.prog (w4.drewN q) = .ok (.string ⟨[x0, x1, x2, x3].toArray⟩) (w4.drewN q) := fun q => (i4.drewN q).conv Try.underlying24 Try.underlying5 Try.underlying9
  have hu : ∀ q, (convert 24 9 (.slice (some ⟨w.heap.size, 0, none⟩) 4 4)).run Try.prog (w4.drewN q) = .ok (.string ⟨[x0, x1, x2, x3].toArray⟩) (w4.drewN q) := fun q => ((HF.out _ (below_up HG3.out b4 HG3.out.size)).drewN q).conv Try.underlying24 Try.underlying5 Try.underlying9
  have HB4 := Lib.hid (below_up HB3.out b4 HB3.out.size)
  clear hr4 HR3 HG3 HB3 HF i4 b4 HP HX HR1
  generalize ([x0, x1, x2, x3].toArray) = xs at *
  go_wp2
  go_quiet (fail)
  go_wp2
  go_ret
  refine ⟨ret_bool ?_, below_up HB4.out ⟨rfl, rfl, rfl, Nat.le_refl _, fun _ _ => rfl⟩ HB4.out.size⟩
  exact decide_eq_true (by omega)
end Go.Proofs.Ytljpndkgfjndbaa
