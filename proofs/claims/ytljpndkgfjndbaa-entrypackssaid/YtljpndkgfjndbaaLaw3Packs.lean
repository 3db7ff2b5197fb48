/- EntryPacks: the walk. -/
import Derived.Test.YtljpndkgfjndbaaAw3
import Derived.Test.YtljpndkgfjndbaaRef6
import Derived.Test.YtljpndkgfjndbaaRef7
import Derived.Test.YtljpndkgfjndbaaRef10
namespace Go.Proofs.Ytljpndkgfjndbaa
open Go Go.RowKit

theorem allE_self (l : List Ent) : allE exactE l l = true := by
  induction l with
  | nil => rfl
  | cons e l ih => show (exactE e e && allE exactE l l) = true; rw [ih]; simp [exactE]
theorem stk_length : ∀ (n : Nat) (l : List UInt8), (stk n l).1.length ≤ n
  | 0, l => by simp [stk]
  | n + 1, l => by
    have h := stk_length n (l.drop 4)
    unfold stk
    by_cases h1 : unpC l = 0
    · rw [if_pos h1]
      by_cases h2 : (unpE l).B = true
      · rw [if_pos h2]; simp
      · rw [if_neg h2]; unfold consE
        by_cases h3 : (stk n (l.drop 4)).2 = 0
        · rw [if_pos h3]; simp; omega
        · rw [if_neg h3]; simp
    · rw [if_neg h1]; simp

set_option maxHeartbeats 4000000 in
theorem packs_walk (L C : Int) (B : Bool) (T : Int) (a1 : Option Addr) (n1 c1 : Nat) (l1 : List UInt8) (w : World) (_hL0 : -9223372036854775808 ≤ L) (_hL1 : L ≤ 9223372036854775807) (hC0 : 0 ≤ C) (hC1 : C ≤ 255) (hT0 : 0 ≤ T) (hT1 : T ≤ 255) (f1 : IsB w (.slice a1 n1 c1) l1) :
    Calls Try.prog 3 #[.agg #[.int .i64 L, .int .u8 C, .bool B, .int .u8 T], .slice a1 n1 c1] w fun e w' => e = .returned (.bool true) ∧ Below w.heap.size w w' := by
  clear _hL0 _hL1
  obtain ⟨rfl, q1, m1, -⟩ := f1.cells
  unfold maxLen at m1
  have F1 := Lib.hid f1
  clear f1
  by_cases g1 : 300 < l1.length
  · go_enter Try.func3, Try.ntmps3
    go_wp2_with (go_at_call 8; refine (awake3_any _).mono ?_; rintro e w1 ⟨rfl, b1⟩)
    go_ret
    exact ⟨rfl, below_up ((Below.refl _ _).alloc (Nat.le_refl _) _) b1 (by simp)⟩
  have hok : (Ent.mk L C B T).ok := ⟨hC0, hC1, hT0, hT1⟩
  have HP := Lib.hid (fun W => pack_any ⟨L, C, B, T⟩ W hok)
  have HRP := Lib.hid (fun W => rpack_any ⟨L, C, B, T⟩ W hok)
  have HU := Lib.hid (fun W (hb : Below w.heap.size w W) => unpack_any a1 _ c1 l1 W (F1.out.below hb))
  have HRU := Lib.hid (fun W => runpack_any l1 W (by omega))
  have HS := Lib.hid (fun W (hb : Below w.heap.size w W) => stack_any a1 _ c1 l1 W (F1.out.below hb))
  have HRS := Lib.hid (fun W => rstack_any l1 W (by omega))
  have hsl := stk_length 16 l1
  generalize packC ⟨L, C, B, T⟩ = pc at *
  generalize packB ⟨L, C, B, T⟩ = pb at *
  generalize unpC l1 = uc at *
  generalize unpE l1 = ue at *
  generalize (stk 16 l1).2 = sc at *
  generalize (stk 16 l1).1 = sl at *
  obtain ⟨L', C', B', T'⟩ := ue
  unfold Ent.val at HP HRP HU HRU
  clear hok hC0 hC1 hT0 hT1
  go_enter Try.func3, Try.ntmps3
  go_wp2_with (go_at_call 8; refine (awake3_any _).mono ?_; rintro e w1 ⟨rfl, b1⟩; refine Hid.out ?_)
  refine Lib.hid ?_
  have hr1 : w1.heap[w.heap.size]? = _ := (b1.block w.heap.size (by simp)).trans (World.alloc_heap_new w (.cells #[.int .i64 L, .int .u8 C, .bool B, .int .u8 T] 23))
  obtain ⟨k0, k1, k2, k3⟩ := four_cells hr1
  have HR1 := Lib.hid hr1
  have b1' := below_up ((Below.refl _ _).alloc (Nat.le_refl _) _) b1 (by simp)
  clear hr1 b1
  go_wp2_with (go_at_call 9; refine (HP.out _).mono ?_; rintro e w2 ⟨⟨a2, n2, c2, rfl, i2⟩, b2⟩; refine Hid.out ?_)
  refine Lib.hid ?_
  have hr2 := (b2.block w.heap.size (Array.getElem?_eq_some_iff.1 HR1.out).1).trans HR1.out
  obtain ⟨j0, j1, j2, j3⟩ := four_cells hr2
  have b2' := below_up b1' b2 b1'.size
  have HI2 := Lib.hid i2
  clear k0 k1 k2 k3 b1' b2 hr2 i2 HR1
  go_wp2_with (go_at_call 10; refine (HRP.out _).mono ?_; rintro e w3 ⟨rfl, b3⟩; refine Hid.out ?_)
  refine Lib.hid ?_
  have HI3 := Lib.hid (HI2.out.below b3)
  have b3' := below_up b2' b3 b2'.size
  clear j0 j1 j2 j3 HI2 b2' b3 HP HRP
  go_wp2_with (go_at_call 11; refine (HU.out _ b3').mono ?_; rintro e w4 ⟨rfl, b4⟩; refine Hid.out ?_)
  refine Lib.hid ?_
  have b4' := (below_up b3' b4 b3'.size)
  have b5' := b4'.alloc b4'.size (.cells #[.int .i64 L', .int .u8 C', .bool B', .int .u8 T'] 23)
  have HI5 := Lib.hid ((HI3.out.below b4).below ((Below.refl _ _).alloc (Nat.le_refl _) (.cells #[.int .i64 L', .int .u8 C', .bool B', .int .u8 T'] 23)))
  have HR5 := Lib.hid (World.alloc_heap_new w4 (.cells #[.int .i64 L', .int .u8 C', .bool B', .int .u8 T'] 23))
  have hv5 := (F1.out.below b5').conv Try.underlying24 Try.underlying5 Try.underlying9
  clear b3' b4 b4' HI3 HU
  go_wp2_with (go_at_call 12; refine (HRU.out _).mono ?_; rintro e w6 ⟨rfl, b6⟩; refine Hid.out ?_)
  refine Lib.hid ?_
  have b6' := below_up b5' b6 b5'.size
  have HR6 := Lib.hid ((b6.block _ (Array.getElem?_eq_some_iff.1 HR5.out).1).trans HR5.out)
  have HI6 := Lib.hid (HI5.out.below b6)
  have HR7 := Lib.hid ((Below.heap_alloc w6 (.cells #[.int .i64 L', .int .u8 C', .bool B', .int .u8 T'] 23) _ (Array.getElem?_eq_some_iff.1 HR6.out).1).trans HR6.out)
  have HQ7 := Lib.hid (World.alloc_heap_new w6 (.cells #[.int .i64 L', .int .u8 C', .bool B', .int .u8 T'] 23))
  have HI7 := Lib.hid (HI6.out.below ((Below.refl _ _).alloc (Nat.le_refl _) (.cells #[.int .i64 L', .int .u8 C', .bool B', .int .u8 T'] 23)))
  have b7' := b6'.alloc b6'.size (.cells #[.int .i64 L', .int .u8 C', .bool B', .int .u8 T'] 23)
  clear hv5 b5' b6 b6' HR5 HI5 HR6 HI6 HRU
  go_wp2_with (go_at_call 13; refine (HS.out _ b7').mono ?_; rintro e w8 ⟨⟨a8, n8, c8, rfl, e8⟩, b8⟩; refine Hid.out ?_)
  refine Lib.hid ?_
  have b8' := below_up b7' b8 b7'.size
  have HR8 := Lib.hid ((b8.block _ (Array.getElem?_eq_some_iff.1 HR7.out).1).trans HR7.out)
  have HQ8 := Lib.hid ((b8.block _ (Array.getElem?_eq_some_iff.1 HQ7.out).1).trans HQ7.out)
  have HI8 := Lib.hid (HI7.out.below b8)
  have HE8 := Lib.hid e8
  have hv8 := (F1.out.below b8').conv Try.underlying24 Try.underlying5 Try.underlying9
  clear b7' b8 e8 HR7 HQ7 HI7 HS
  go_wp2_with (go_at_call 14; refine (HRS.out _).mono ?_; rintro e w9 ⟨⟨a9, n9, c9, rfl, e9⟩, b9⟩; refine Hid.out ?_)
  refine Lib.hid ?_
  have b9' := below_up b8' b9 b8'.size
  obtain ⟨k0, k1, k2, k3⟩ := four_cells ((b9.block _ (Array.getElem?_eq_some_iff.1 HR8.out).1).trans HR8.out)
  obtain ⟨j0, j1, j2, j3⟩ := four_cells ((b9.block _ (Array.getElem?_eq_some_iff.1 HQ8.out).1).trans HQ8.out)
  have hv9 := (HI8.out.below b9).conv Try.underlying24 Try.underlying5 Try.underlying9
  have HX := Lib.hid (rexact_any _ _ _ _ _ _ sl sl w9 (HE8.out.below b9) e9 (by omega))
  rw [allE_self] at HX
  clear hv8 b8' b9 e9 HR8 HQ8 HI8 HE8 HRS
  go_wp2_with (go_at_call 15; refine HX.out.mono ?_; rintro e w10 ⟨rfl, b10⟩)
  go_ret
  exact ⟨ret_bool (by simp), below_up b9' b10 b9'.size⟩
end Go.Proofs.Ytljpndkgfjndbaa
