/- The live examples of layer 1's statements hold. -/
import Derived.Test.YticmkdjdoljmiaaDoorOct8
namespace Go.Proofs.YticmkdjdoljmiaaDoor
open Go Go.RowKit

theorem isB_built (w : World) (l : List UInt8) (cs : Array Value) (hcs : cs = (byteVals l).toArray) (hm : l.length ≤ 1000) :
    IsB (w.alloc (.cells cs 5)) (.slice (some ⟨w.heap.size, 0, none⟩) l.length l.length) l := by
  subst hcs
  exact IsB.of_row (heap_alloc_new w _) (by unfold maxLen; omega)
theorem tab_below {P : Program} {w w' : World} {name : String} {k : IntKind} {zs : List Int} (h : Lib.TabIs P w name k zs) (hb : Below w.heap.size w w') : Lib.TabIs P w' name k zs := by
  unfold Lib.TabIs World.var? at *
  cases hg : P.globalNamed name with
  | none => simp [hg] at h
  | some g =>
    simp only [hg, Option.bind_some] at h ⊢
    have hlt : g < w.heap.size := by
      rcases Nat.lt_or_ge g w.heap.size with h1 | h1
      · exact h1
      · rw [Array.getElem?_eq_none h1] at h; simp at h
    rw [hb.block g hlt]
    exact h
theorem built123 : (#[Value.int .u8 1, .int .u8 2, .int .u8 3] : Array Value) = (byteVals [1, 2, 3]).toArray := rfl
theorem below_up {B : Nat} {w w1 w2 : World} (h : Below B w w1) (h2 : Below w1.heap.size w1 w2) (hB : B ≤ w1.heap.size) : Below B w w2 := h.trans (h2.mono hB)

theorem ex_get (w : World) (a : Option Addr) (n cap : Nat) (h : IsB w (.slice a n cap) [1, 2, 3]) :
    Calls Tryd.prog 10 #[.slice a n cap, .int .i64 1, .int .i64 2] w fun e w' => e = .returned (.tuple #[.int .u64 515, .bool true]) ∧ w = w' := by
  have := get_any a n cap [1, 2, 3] 1 2 w h
  rw [show getN [1, 2, 3] 1 2 = 515 by decide, show inG [1, 2, 3] 1 2 = true by decide] at this
  exact this
theorem ex_put (w : World) (a : Option Addr) (n cap : Nat) (h : IsB w (.slice a n cap) [1, 2, 3]) :
    Calls Tryd.prog 14 #[.slice a n cap, .int .i64 0, .int .i64 2, .int .u64 772] w fun e w' => (∃ a' n' cap', e = .returned (.tuple #[.slice a' n' cap', .bool true]) ∧ IsB w' (.slice a' n' cap') [3, 4, 3]) ∧ Below w.heap.size w w' := by
  have := put_any a n cap [1, 2, 3] 0 2 772 w h (by decide) (by decide)
  rw [show putL [1, 2, 3] 0 2 772 = [3, 4, 3] by decide, show inP [1, 2, 3] 0 2 772 = true by decide] at this
  exact this
theorem ex_cut (w : World) (a : Option Addr) (n cap : Nat) (h : IsB w (.slice a n cap) [1, 2, 3]) :
    Calls Tryd.prog 12 #[.slice a n cap, .int .i64 2, .int .i64 1] w fun e w' => (∃ a' n' cap', e = .returned (.tuple #[.slice a' n' cap', .bool true]) ∧ IsB w' (.slice a' n' cap') [3]) ∧ Below w.heap.size w w' := by
  have := cut_any a n cap [1, 2, 3] 2 1 w h (by decide)
  rw [show cutL [1, 2, 3] 2 1 = [3] by decide, show inC [1, 2, 3] 2 1 = true by decide] at this
  exact this
theorem ex_unhex (w : World) :
    Calls Tryd.prog 16 #[.string ⟨#[70, 102, 48, 48]⟩] w fun e w' => (∃ a' n' cap', e = .returned (.tuple #[.slice a' n' cap', .bool true]) ∧ IsB w' (.slice a' n' cap') [255, 0]) ∧ Below w.heap.size w w' := by
  have := unhex_any ⟨#[70, 102, 48, 48]⟩ w (by decide)
  rw [show unhexL (⟨#[70, 102, 48, 48]⟩ : ByteArray).data.toList = [255, 0] by decide, show unhexB (⟨#[70, 102, 48, 48]⟩ : ByteArray).data.toList = true by decide] at this
  exact this
theorem ex_number (w : World) :
    Calls Tryd.prog 20 #[.string ⟨#[49, 50, 48]⟩, .int .i64 120] w fun e w' => e = .returned (.tuple #[.int .i64 120, .bool true]) ∧ Below w.heap.size w w' := by
  have := number_any ⟨#[49, 50, 48]⟩ 120 w (by decide) (by decide) (by decide)
  rw [show numV (⟨#[49, 50, 48]⟩ : ByteArray).data.toList 120 = 120 by decide, show numB (⟨#[49, 50, 48]⟩ : ByteArray).data.toList 120 = true by decide] at this
  exact this
theorem ex_hex (w : World) (a : Option Addr) (n cap : Nat) (h : IsB w (.slice a n cap) [255, 0]) :
    Calls Tryd.prog 18 #[.slice a n cap] w fun e w' => e = .returned (.string ⟨#[102, 102, 48, 48]⟩) ∧ Below w.heap.size w w' := by
  have := hex_any a n cap [255, 0] w h (by decide)
  rw [show hexL [255, 0] = [102, 102, 48, 48] by decide] at this
  exact this
theorem itoa_m40 : Lib.itoa (-40) = [45, 52, 48] := by
  rw [show (-40 : Int) = -((40 : Nat) : Int) by rfl, Lib.itoa_neg 40 (by decide), Lib.decDigits_two (by decide) (by decide)]
  rfl
theorem ex_digits (w : World) (htab : Lib.TabIs Tryd.prog w "internal/strconv.uint64pow10" .u64 Lib.pow10Tab) :
    Calls Tryd.prog 22 #[.int .i64 (-40)] w fun e w' => e = .returned (.string ⟨#[45, 52, 48]⟩) ∧ Below w.heap.size w w' := by
  have := digits_any (-40) w (by decide) (by decide) htab
  rw [itoa_m40] at this
  exact this

set_option maxHeartbeats 2000000 in
theorem awake_any (w : World) (htab : Lib.TabIs Tryd.prog w "internal/strconv.uint64pow10" .u64 Lib.pow10Tab) :
    Calls Tryd.prog 9 #[] w fun e w' => e = .returned (.bool true) ∧ Below w.heap.size w w' := by
  have HT := Lib.hid (fun (w' : World) (hb : Below w.heap.size w w') => tab_below htab hb)
  clear htab
  go_enter Tryd.func9, Tryd.ntmps9
  go_wp2_with (go_at_call 10; refine (ex_get _ _ _ _ (isB_built w [1, 2, 3] _ built123 (by decide))).mono ?_; rintro e w' ⟨rfl, rfl⟩; refine Hid.out ?_)
  refine Lib.hid ?_
  have b0 : Below w.heap.size w (w.alloc (Obj.cells #[Value.int IntKind.u8 1, Value.int IntKind.u8 2, Value.int IntKind.u8 3] 5)) := (Below.refl _ _).alloc (Nat.le_refl _) _
  generalize w.alloc (Obj.cells #[Value.int IntKind.u8 1, Value.int IntKind.u8 2, Value.int IntKind.u8 3] 5) = w1 at *
  go_wp2_with (go_at_call 14; refine (ex_put _ _ _ _ (isB_built w1 [1, 2, 3] _ built123 (by decide))).mono ?_; rintro e w2 ⟨⟨a2, n2, c2, rfl, i2⟩, b2⟩; refine Hid.out ?_)
  refine Lib.hid ?_
  have b1 : Below w.heap.size w w2 := below_up (b0.alloc b0.size _) b2 (by have := b0.size; simp; omega)
  clear b2 b0
  go_wp2_with (go_at_call 12; refine (ex_cut _ _ _ _ (isB_built w2 [1, 2, 3] _ built123 (by decide))).mono ?_; rintro e w3 ⟨⟨a3, n3, c3, rfl, i3⟩, b3⟩; refine Hid.out ?_)
  refine Lib.hid ?_
  have i2 := i2.below (below_up ((Below.refl _ w2).alloc (Nat.le_refl _) _) b3 (by simp))
  have b2 : Below w.heap.size w w3 := below_up (b1.alloc b1.size _) b3 (by have := b1.size; simp; omega)
  clear b1 b3
  go_wp2_with (go_at_call 16; refine (ex_unhex _).mono ?_; rintro e w4 ⟨⟨a4, n4, c4, rfl, i4⟩, b4⟩; refine Hid.out ?_)
  refine Lib.hid ?_
  have i2 := i2.below b4
  have i3 := i3.below b4
  have b3 : Below w.heap.size w w4 := below_up b2 b4 b2.size
  clear b2 b4
  go_wp2_with (go_at_call 20; refine (ex_number _).mono ?_; rintro e w5 ⟨rfl, b5⟩; refine Hid.out ?_)
  refine Lib.hid ?_
  have b4 : Below w.heap.size w w5 := below_up b3 b5 b3.size
  have v2 := (i2.below b5).conv Tryd.underlying22 Tryd.underlying5 Tryd.underlying9
  have v3 := (i3.below b5).conv Tryd.underlying22 Tryd.underlying5 Tryd.underlying9
  have i4 := i4.below b5
  have v4 := i4.conv Tryd.underlying22 Tryd.underlying5 Tryd.underlying9
  have I4 := Lib.hid i4
  clear i2 i3 b3 b5 i4
  go_wp2_with (go_at_call 18; refine (ex_hex _ _ _ _ I4.out).mono ?_; rintro e w6 ⟨rfl, b6⟩; refine Hid.out ?_)
  refine Lib.hid ?_
  have b5 : Below w.heap.size w w6 := below_up b4 b6 b4.size
  have HTT := Lib.hid (HT.out w6 b5)
  clear v2 v3 v4
  go_wp2_with (go_at_call 22; refine (ex_digits _ HTT.out).mono ?_; rintro e w7 ⟨rfl, b7⟩)
  go_ret
  exact ⟨rfl, below_up b5 b7 b5.size⟩
end Go.Proofs.YticmkdjdoljmiaaDoor
