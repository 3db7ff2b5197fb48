/- The live examples of layer 6's statements hold. -/
import Derived.Test.YtjnejnoojpaifaaDoorDot3
namespace Go.Proofs.YtjnejnoojpaifaaDoor
open Go Go.RowKit

theorem ex6_yes : dotB [49, 57, 50, 46, 48, 46, 50, 46, 49] = true ∧ dotL [49, 57, 50, 46, 48, 46, 50, 46, 49] = [192, 0, 2, 1] := by decide
theorem ex6_no : dotB [49, 57, 50, 46, 48, 46, 50, 46, 48, 49] = false := by decide
theorem ex6_show : showD [192, 0, 2, 1] = [49, 57, 50, 46, 48, 46, 50, 46, 49] := by
  rw [← ex6_yes.2]
  exact dotL_shown ex6_yes.1
set_option maxRecDepth 100000 in
set_option maxHeartbeats 4000000 in
theorem awake6_any (w : World) (htab : Lib.TabIs Tryd.prog w "internal/strconv.uint64pow10" .u64 Lib.pow10Tab) :
    Calls Tryd.prog 7 #[] w fun r w' => r = .returned (.bool true) ∧ Below w.heap.size w w' := by
  have h1 := fun W => dparse_any ⟨#[49, 57, 50, 46, 48, 46, 50, 46, 49]⟩ W (by decide)
  rw [show (⟨#[49, 57, 50, 46, 48, 46, 50, 46, 49]⟩ : ByteArray).data.toList = [49, 57, 50, 46, 48, 46, 50, 46, 49] from rfl, ex6_yes.1, ex6_yes.2] at h1
  have h2 := fun W => dparse_any ⟨#[49, 57, 50, 46, 48, 46, 50, 46, 48, 49]⟩ W (by decide)
  rw [show (⟨#[49, 57, 50, 46, 48, 46, 50, 46, 48, 49]⟩ : ByteArray).data.toList = [49, 57, 50, 46, 48, 46, 50, 46, 48, 49] from rfl, ex6_no, dotL_no ex6_no] at h2
  have h3 := fun W h => show4_any [192, 0, 2, 1] W rfl h
  rw [ex6_show] at h3
  have h4 := fun W => multi_any [192, 0, 2, 1] W rfl
  rw [show multiB [192, 0, 2, 1] = false by decide] at h4
  have h5 := fun W => plain_any [192, 0, 2, 1] W rfl
  rw [show plainB [192, 0, 2, 1] = true by decide] at h5
  have h6 := fun W => multi_any [224, 0, 0, 1] W rfl
  rw [show multiB [224, 0, 0, 1] = true by decide] at h6
  have H1 := Lib.hid h1
  have H2 := Lib.hid h2
  have H3 := Lib.hid h3
  have H4 := Lib.hid h4
  have H5 := Lib.hid h5
  have H6 := Lib.hid h6
  have HT := Lib.hid (fun (w' : World) (hb : Below w.heap.size w w') => tab_below htab hb)
  clear h1 h2 h3 h4 h5 h6 htab
  go_enter Tryd.func7, Tryd.ntmps7
  go_wp2_with (go_at_call 14; refine (H1.out _).mono ?_; rintro e w1 ⟨rfl, b1⟩; refine Hid.out ?_)
  refine Lib.hid ?_
  go_wp2_with (first | (refine wpList_store_newT rfl (.tmp 1) (.tmp 7) rfl [192, 0, 2, 1] arr4 _ rfl rfl rfl ?_) | (go_at_call 14; refine (H2.out _).mono ?_; rintro e w2 ⟨rfl, b2⟩; refine Hid.out ?_))
  refine Lib.hid ?_
  have hA2 : ArrT 22 w2 w1.heap.size [192, 0, 2, 1] := (arrT_new w1 [192, 0, 2, 1]).up b2
  have hb2 : Below w.heap.size w w2 := below_up (b1.alloc b1.size _) b2 (by have := b1.size; simp; omega)
  have HA3 : Hid (∀ o, ArrT 22 (w2.alloc o) w1.heap.size [192, 0, 2, 1] ∧ Below w.heap.size w (w2.alloc o)) := fun o => ⟨hA2.up ((Below.refl _ _).alloc (Nat.le_refl _) _), hb2.alloc hb2.size _⟩
  clear hA2 hb2 b2 b1
  go_wp2_with (first | (refine wpList_store_newT rfl (.tmp 3) (.tmp 11) rfl [0, 0, 0, 0] arr4 _ rfl rfl rfl ?_) | (refine wpList_load_arrT rfl (.tmp 1) rfl w1.heap.size [192, 0, 2, 1] arr4 rfl (HA3.out _).1 ?_) | (refine wpList_eql_arrB rfl arr4 (.tmp 13) (.tmp 14) _ rfl [192, 0, 2, 1] [192, 0, 2, 1] rfl rfl true (by decide) rfl rfl ?_) | (refine wpList_load_arrG rfl (.tmp 1) rfl w1.heap.size [192, 0, 2, 1] arr4 rfl (HA3.out _).1 ?_) | (go_at_call 8; refine (H3.out _ (HT.out _ (HA3.out _).2)).mono ?_; rintro e w3 ⟨rfl, b3⟩; refine Hid.out ?_))
  refine Lib.hid ?_
  have hA3 := (HA3.out _).1.up b3
  have hB3 := below_up (HA3.out _).2 b3 (HA3.out _).2.size
  have HA4 := Lib.hid (And.intro hA3 hB3)
  clear hA3 hB3 b3 HA3
  go_wp2_with (first | (refine wpList_load_arrG rfl (.tmp 1) rfl w1.heap.size [192, 0, 2, 1] arr4 rfl HA4.out.1 ?_) | (go_at_call 10; refine (H4.out _).mono ?_; rintro e w4 ⟨rfl, b4⟩; refine Hid.out ?_))
  refine Lib.hid ?_
  have hA5 := HA4.out.1.up b4
  have hB5 := below_up HA4.out.2 b4 HA4.out.2.size
  have HA5 := Lib.hid (And.intro hA5 hB5)
  clear hA5 hB5 b4 HA4
  go_wp2_with (first | (refine wpList_load_arrG rfl (.tmp 1) rfl w1.heap.size [192, 0, 2, 1] arr4 rfl HA5.out.1 ?_) | (go_at_call 12; refine (H5.out _).mono ?_; rintro e w5 ⟨rfl, b5⟩; refine Hid.out ?_))
  refine Lib.hid ?_
  have HB6 := Lib.hid (below_up HA5.out.2 b5 HA5.out.2.size)
  clear b5 HA5
  rw [show arrV [224, 0, 0, 1] = .agg #[.int .u8 224, .int .u8 0, .int .u8 0, .int .u8 1] from rfl] at H6
  go_wp2_with (first | (go_at_call 10; refine (H6.out _).mono ?_; rintro e w6 ⟨rfl, b6⟩))
  go_ret
  exact ⟨rfl, below_up HB6.out b6 HB6.out.size⟩
end Go.Proofs.YtjnejnoojpaifaaDoor
