/- SumRight: the walk. -/
import Derived.Test.YtfecgnhgkciebaaLaw2Of
import Derived.Test.YtfecgnhgkciebaaMath3
import Derived.Test.YtfecgnhgkciebaaCat1
import Derived.Lib.SmallJoins
namespace Go.Proofs.Ytfecgnhgkciebaa
open Go Go.RowKit

/-- The call's own row of bytes: a byte is stored. -/
theorem own_set {w : World} {base : Nat} {g n cap : Nat} {l : List UInt8} (h : w.ownsRow base 5 1 (.slice (some ⟨g, 0, none⟩) n cap) n (byteVals l)) (j : Nat) (x : Int) (b : UInt8) (hx : x = (b.toNat : Int)) :
    (w.setCell ⟨g, j, none⟩ (.int .u8 x)).ownsRow base 5 1 (.slice (some ⟨g, 0, none⟩) n cap) n (byteVals (l.set j b)) := by
  subst hx
  have := (h.stored j (.int .u8 (b.toNat : Int))).1
  rw [byteVals_set] at this
  exact this
theorem own_cell {w : World} {base : Nat} {g n cap : Nat} {l : List UInt8} (h : w.ownsRow base 5 1 (.slice (some ⟨g, 0, none⟩) n cap) n (byteVals l)) (j : Nat) (hj : j < l.length) :
    w.cell? ⟨g, j, none⟩ = some (.int .u8 (byteAt l j)) := by
  have hn := h.1
  rw [byteVals_length] at hn
  rw [h.cellAt j (by omega), byteVals_getElem? l j hj]
theorem hi_byte (c : Nat) (h : c ≤ 65535) : ((UInt8.ofNat (c / 256)).toNat : Int) = (c : Int) / 256 := by
  rw [UInt8.toNat_ofNat_of_lt' (show c / 256 < 256 by omega)]; omega
theorem lo_byte (c : Nat) : ((UInt8.ofNat (c % 256)).toNat : Int) = (c : Int) % 256 := by
  rw [UInt8.toNat_ofNat_of_lt' (show c % 256 < 256 by omega)]; omega

theorem own_below {w w' : World} {base : Nat} {e : TypeId} {size : Nat} {v : Value} {n : Nat} {xs : List Value} (h : w.ownsRow base e size v n xs) (hb : Below w.heap.size w w') : w'.ownsRow base e size v n xs := by
  refine ⟨h.1, ?_⟩
  rcases h.2 with h0 | ⟨g, cap, cur, h1, h2, hg, h3⟩
  · exact .inl h0
  · exact .inr ⟨g, cap, cur, h1, h2, (hb.block g (Array.getElem?_eq_some_iff.1 hg).1).trans hg, h3⟩

set_option maxHeartbeats 4000000 in
theorem right_walk (a0 : Option Addr) (n0 c0 : Nat) (l0 : List UInt8) (t : Int) (w : World) (f0 : IsB w (.slice a0 n0 c0) l0) (ht0 : 0 ≤ t) (ht1 : t ≤ 255) :
    Calls Try.prog 5 #[.slice a0 n0 c0, .int .u8 t] w fun e w' => e = .returned (.bool true) ∧ Below w.heap.size w w' := by
  obtain ⟨rfl, q0, m0, -⟩ := f0.cells
  unfold maxLen at m0
  have F0 := Lib.hid f0
  clear f0
  by_cases g0 : l0.length < 2
  · go_enter Try.func5, Try.ntmps5
    go_wp2_with (go_at_call 8; refine (awake2_any _).mono ?_; rintro e w1 ⟨rfl, b1⟩)
    go_ret
    exact ⟨rfl, b1⟩
  by_cases g1 : 1000 < l0.length
  · go_enter Try.func5, Try.ntmps5
    go_wp2_with (go_at_call 8; refine (awake2_any _).mono ?_; rintro e w1 ⟨rfl, b1⟩)
    go_ret
    exact ⟨rfl, b1⟩
  obtain ⟨t, rfl⟩ := Int.eq_ofNat_of_zero_le ht0
  obtain ⟨j, hj⟩ : ∃ j, j = t % (l0.length / 2) := ⟨_, rfl⟩
  have hjl : 2 * j + 1 < l0.length := by
    have : t % (l0.length / 2) < l0.length / 2 := Nat.mod_lt _ (by omega)
    omega
  have hji : (t : Int) % ((l0.length : Int) / 2) = j := by rw [hj]; simp
  obtain ⟨i5, hi, hz0, hz1, hz2⟩ := info_parts info5
  clear hj
  go_enter Try.func5, Try.ntmps5
  go_wp2_with (go_at_call 8; refine (awake2_any _).mono ?_; rintro e w1 ⟨rfl, b1⟩; refine Hid.out ?_)
  refine Lib.hid ?_
  obtain ⟨-, -, -, hcells⟩ := (F0.out.below b1).cells
  obtain ⟨ad, rfl, hadl, hadc⟩ := hcells (by omega)
  have HC := Lib.hid hadc
  clear hadc
  go_wp2_with (at_builtin; refine wpList_append_own _ rfl (.tmp 20) (.tmp 21) 22 rfl w1.heap.size 5 i5 (.int .u8 0) 1 1 Try.underlying22 hi hz0 hz1 hz2 rfl (by decide) _ 0 [] rfl (World.ownsRow_nil _ _ _ _) ad _ _ (byteVals l0) rfl (by rw [byteVals_length, Nat.mul_one]) HC.out (byteVals_oneCell l0) (by unfold maxLen; omega) (by omega) (Nat.le_refl _) ?_; intro v' w2 hown' hgrow _; refine Hid.out ?_)
  refine Lib.hid ?_
  have b2 : Below w1.heap.size w1 w2 := (Below.refl _ _).grown hgrow (Nat.le_refl _) (owned_low (World.ownsRow_nil w1 w1.heap.size 5 1))
  rw [Nat.zero_add, List.nil_append] at hown'
  obtain ⟨g, cap, rfl⟩ := Go.Joins.ownsRow_form hown' (by omega)
  have HO := Lib.hid hown'
  have hc0 := own_cell hown' (2 * j) (by omega)
  have hf0 := hown'.frozenAt (2 * j)
  have hown2 := own_set hown' (2 * j) 0 0 rfl
  have hc1 := own_cell hown2 (2 * j + 1) (by simp; omega)
  have hf1 := hown2.frozenAt (2 * j + 1)
  have HO2 := Lib.hid (own_set hown2 (2 * j + 1) 0 0 rfl)
  have hgl : w1.heap.size ≤ g := owned_low hown' g rfl
  clear hown' hown2 hgrow
  have b3 : Below w1.heap.size w1 ((w2.setCell ⟨g, 2 * j, none⟩ (.int .u8 0)).setCell ⟨g, 2 * j + 1, none⟩ (.int .u8 0)) := (b2.setCell hgl _).setCell hgl _
  have HS := Lib.hid (of_any _ _ _ (rows_one _ w2.heap.size (by simp) _ _ (IsB.of_owned HO2.out)) (by simp; omega))
  rw [show ([(l0.set (2 * j) 0).set (2 * j + 1) 0] : List (List UInt8)).flatten = setWord l0 (2 * j) 0 0 by simp [setWord]] at HS
  have HB3 := Lib.hid b3
  have hcl : 65535 - fold16 (wsum false (setWord l0 (2 * j) 0 0)) ≤ 65535 := by omega
  generalize hcc : 65535 - fold16 (wsum false (setWord l0 (2 * j) 0 0)) = c at *
  have HCC := Lib.hid hcc
  clear b3 b2 hcc
  go_wp2_with (go_at_call 11; refine HS.out.mono ?_; rintro e w4 ⟨rfl, b4⟩; refine Hid.out ?_)
  refine Lib.hid ?_
  have b3' := (Below.refl _ ((w2.setCell ⟨g, 2 * j, none⟩ (.int .u8 0)).setCell ⟨g, 2 * j + 1, none⟩ (.int .u8 0))).alloc (Nat.le_refl _) (.cells #[.slice (some ⟨g, 0, none⟩) l0.length cap] 22)
  have b4' := below_up b3' b4 (by simp)
  have own4 := own_below HO2.out b4'
  have b5 := below_up HB3.out b4' HB3.out.size
  have HB5 := Lib.hid b5
  have hl1 : ((l0.set (2 * j) 0).set (2 * j + 1) 0).length = l0.length := by simp
  generalize hL1 : (l0.set (2 * j) 0).set (2 * j + 1) 0 = L1 at *
  have HL1 := Lib.hid hL1
  clear hL1 hc0 hf0 hc1 hf1
  have hc0 := own_cell own4 (2 * j) (by omega)
  have hf0 := own4.frozenAt (2 * j)
  have hown2 := own_set own4 (2 * j) ((c : Int) / 256) (UInt8.ofNat (c / 256)) (hi_byte c hcl).symm
  have hc1 := own_cell hown2 (2 * j + 1) (by simp; omega)
  have hf1 := hown2.frozenAt (2 * j + 1)
  have HO5 := Lib.hid (own_set hown2 (2 * j + 1) ((c : Int) % 256) (UInt8.ofNat (c % 256)) (lo_byte c).symm)
  clear own4 hown2 b3' b4 b4' b5
  have HS5 := Lib.hid (check_any _ _ _ (rows_one _ w4.heap.size (by simp) _ _ (IsB.of_owned HO5.out)) (by simp; omega))
  rw [show ([(L1.set (2 * j) (UInt8.ofNat (c / 256))).set (2 * j + 1) (UInt8.ofNat (c % 256))] : List (List UInt8)).flatten = setWord L1 (2 * j) (UInt8.ofNat (c / 256)) (UInt8.ofNat (c % 256)) by simp [setWord]] at HS5
  rw [← HL1.out, show (l0.set (2 * j) 0).set (2 * j + 1) 0 = setWord l0 (2 * j) 0 0 from rfl, right_final l0 j c hjl HCC.out] at HS5
  go_wp2_with (go_at_call 13; refine HS5.out.mono ?_; rintro e w6 ⟨rfl, b6⟩)
  go_ret
  refine ⟨ret_bool_eq (by simp), ?_⟩
  have b5 := (HB5.out.setCell (p := ⟨g, 2 * j, none⟩) hgl (.int .u8 ((c : Int) / 256))).setCell (p := ⟨g, 2 * j + 1, none⟩) hgl (.int .u8 ((c : Int) % 256))
  exact below_up b1 (below_up (b5.alloc b5.size _) b6 (by have := b5.size; simp at this ⊢; omega)) b1.size
end Go.Proofs.Ytfecgnhgkciebaa
