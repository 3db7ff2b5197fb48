/- SumAnew: the walk. -/
import Derived.Test.YtfecgnhgkciebaaLaw2Right
import Derived.Deep.QuietTactic
import Derived.BigQuiet
namespace Go.Proofs.Ytfecgnhgkciebaa
open Go Go.RowKit

theorem word_bits (l : List UInt8) (k : Nat) : bits .or .u16 (IntKind.u16.wrap (IntKind.u16.wrap (byteAt l k) * 256)) (IntKind.u16.wrap (byteAt l (k + 1))) = (wordAt l k : Int) := by
  have a0 := byteAt_nonneg l k
  have a1 := byteAt_le l k
  have b0 := byteAt_nonneg l (k + 1)
  have b1 := byteAt_le l (k + 1)
  have e1 : IntKind.u16.wrap (byteAt l k) = byteAt l k := by rw [IntKind.wrap_u16]; omega
  have e2 : IntKind.u16.wrap (byteAt l (k + 1)) = byteAt l (k + 1) := by rw [IntKind.wrap_u16]; omega
  have e3 : IntKind.u16.wrap (byteAt l k * 256) = byteAt l k * 256 := by rw [IntKind.wrap_u16]; omega
  rw [e1, e2, e3, u16_or _ _ (by omega) (by omega) b0 (by omega)]
  have e4 : (byteAt l k * 256).toNat = (byteAt l k).toNat * 256 := by omega
  rw [e4, nat_join 8 _ _ (by omega) (by omega)]
  unfold wordAt
  have e5 : (l.getD k 0).toNat = (byteAt l k).toNat := by simp [byteAt]
  have e6 : (l.getD (k + 1) 0).toNat = (byteAt l (k + 1)).toNat := by simp [byteAt]
  rw [e5, e6]

set_option maxHeartbeats 4000000 in
theorem anew_walk (a0 : Option Addr) (n0 c0 : Nat) (l0 : List UInt8) (t now : Int) (w : World) (f0 : IsB w (.slice a0 n0 c0) l0) (ht0 : 0 ≤ t) (ht1 : t ≤ 255) (hn0 : 0 ≤ now) (hn1 : now ≤ 65535) :
    Calls Try.prog 6 #[.slice a0 n0 c0, .int .u8 t, .int .u16 now] w fun e w' => e = .returned (.bool true) ∧ Below w.heap.size w w' := by
  obtain ⟨rfl, q0, m0, -⟩ := f0.cells
  unfold maxLen at m0
  have F0 := Lib.hid f0
  clear f0
  by_cases g0 : l0.length < 2
  · go_enter Try.func6, Try.ntmps6
    go_wp2_with (go_at_call 8; refine (awake2_any _).mono ?_; rintro e w1 ⟨rfl, b1⟩)
    go_ret
    exact ⟨rfl, b1⟩
  by_cases g1 : 1000 < l0.length
  · go_enter Try.func6, Try.ntmps6
    go_wp2_with (go_at_call 8; refine (awake2_any _).mono ?_; rintro e w1 ⟨rfl, b1⟩)
    go_ret
    exact ⟨rfl, b1⟩
  obtain ⟨t, rfl⟩ := Int.eq_ofNat_of_zero_le ht0
  obtain ⟨now, rfl⟩ := Int.eq_ofNat_of_zero_le hn0
  obtain ⟨j, hj⟩ : ∃ j, j = t % (l0.length / 2) := ⟨_, rfl⟩
  have hjl : 2 * j + 1 < l0.length := by
    have : t % (l0.length / 2) < l0.length / 2 := Nat.mod_lt _ (by omega)
    omega
  have hji : (t : Int) % ((l0.length : Int) / 2) = j := by rw [hj]; simp
  obtain ⟨i5, hi, hz0, hz1, hz2⟩ := info_parts info5
  clear hj
  go_enter Try.func6, Try.ntmps6
  go_wp2_with (go_at_call 8; refine (awake2_any _).mono ?_; rintro e w1 ⟨rfl, b1⟩; refine Hid.out ?_)
  refine Lib.hid ?_
  obtain ⟨-, -, -, hcells⟩ := (F0.out.below b1).cells
  obtain ⟨ad, rfl, hadl, hadc⟩ := hcells (by omega)
  have HC := Lib.hid hadc
  clear hadc
  go_wp2_with (at_builtin; refine wpList_append_own _ rfl (.tmp 24) (.tmp 25) 22 rfl w1.heap.size 5 i5 (.int .u8 0) 1 1 Try.underlying22 hi hz0 hz1 hz2 rfl (by decide) _ 0 [] rfl (World.ownsRow_nil _ _ _ _) ad _ _ (byteVals l0) rfl (by rw [byteVals_length, Nat.mul_one]) HC.out (byteVals_oneCell l0) (by unfold maxLen; omega) (by omega) (Nat.le_refl _) ?_; intro v' w2 hown' hgrow _; refine Hid.out ?_)
  refine Lib.hid ?_
  have b2 : Below w1.heap.size w1 w2 := (Below.refl _ _).grown hgrow (Nat.le_refl _) (owned_low (World.ownsRow_nil w1 w1.heap.size 5 1))
  rw [Nat.zero_add, List.nil_append] at hown'
  obtain ⟨g, cap, rfl⟩ := Go.Joins.ownsRow_form hown' (by omega)
  have HO := Lib.hid hown'
  have hgl : w1.heap.size ≤ g := owned_low hown' g rfl
  have hc0 := own_cell hown' (2 * j) (by omega)
  have hc1 := own_cell hown' (2 * j + 1) (by omega)
  have HB2 := Lib.hid b2
  clear hown' hgrow b2
  go_wp2
  go_quiet (fail)
  simp only [word_bits l0 (2 * j)]
  have hold := wordAt_le l0 (2 * j)
  have hbq : Below w2.heap.size w2 (w2.drewN nq) := ⟨rfl, rfl, rfl, Nat.le_refl _, fun _ _ => rfl⟩
  have own3 := own_below HO.out hbq
  have b3 := below_up HB2.out hbq HB2.out.size
  clear hc0 hc1 HO HB2 hbq
  generalize w2.drewN nq = w3 at *
  generalize hoo : wordAt l0 (2 * j) = old at *
  have HOO := Lib.hid hoo
  clear hoo
  have hc0 := own_cell own3 (2 * j) (by omega)
  have hf0 := own3.frozenAt (2 * j)
  have hown2 := own_set own3 (2 * j) ((now : Int) / 256) (UInt8.ofNat (now / 256)) (hi_byte now (by omega)).symm
  have hc1 := own_cell hown2 (2 * j + 1) (by simp; omega)
  have hf1 := hown2.frozenAt (2 * j + 1)
  have own4 := own_set hown2 (2 * j + 1) ((now : Int) % 256) (UInt8.ofNat (now % 256)) (lo_byte now).symm
  have b4 := (b3.setCell (p := ⟨g, 2 * j, none⟩) hgl (.int .u8 ((now : Int) / 256))).setCell (p := ⟨g, 2 * j + 1, none⟩) hgl (.int .u8 ((now : Int) % 256))
  obtain ⟨L, hL⟩ : ∃ L, L = (l0.set (2 * j) (UInt8.ofNat (now / 256))).set (2 * j + 1) (UInt8.ofNat (now % 256)) := ⟨_, rfl⟩
  rw [← hL] at own4
  have hLl : L.length = l0.length := by rw [hL]; simp
  have HLL := Lib.hid hL
  have HO4 := Lib.hid own4
  have HB4 := Lib.hid b4
  clear own3 hown2 b3 hL own4 b4
  go_wp2
  have hcell : ∀ i, i < l0.length → ((w3.setCell ⟨g, 2 * j, none⟩ (.int .u8 ((now : Int) / 256))).setCell ⟨g, 2 * j + 1, none⟩ (.int .u8 ((now : Int) % 256))).cell? ⟨g, i, none⟩ = some (.int .u8 (byteAt L i)) := fun i hi => own_cell HO4.out i (by omega)
  have HCE := Lib.hid hcell
  clear hcell hc0 hc1 hf0 hf1
  generalize (w3.setCell ⟨g, 2 * j, none⟩ (.int .u8 ((now : Int) / 256))).setCell ⟨g, 2 * j + 1, none⟩ (.int .u8 ((now : Int) % 256)) = w4 at *
  go_loop [11, 12] (fun s i => ∃ k : Nat, k ≤ l0.length ∧ i = .int .i64 k ∧ s = .bool ((L.take k).any (fun b => b != 0))) (fun _ i => l0.length - (intOf i).toNat)
  case atStart => exact ⟨0, Nat.zero_le _, rfl, rfl⟩
  case round =>
    obtain ⟨k, hk, rfl, rfl⟩ := hrel
    by_cases hlt : k < l0.length
    · have hck := HCE.out k hlt
      have HA := Lib.hid (any_take_succ L k (by omega))
      have x0 := byteAt_nonneg L k
      have x1 := byteAt_le L k
      generalize byteAt L k = x at *
      cases hb : (L.take k).any (fun b => b != 0)
      · rw [hb] at HA
        go_wp2
        go_round
        case rel => exact ⟨k + 1, by omega, by go_num, by rw [HA.out]; simp⟩
        case measure => simp [intOf]; omega
      · rw [hb] at HA
        go_wp2
        go_round
        case rel => exact ⟨k + 1, by omega, by go_num, by rw [HA.out]; rfl⟩
        case measure => simp [intOf]; omega
    · have hkl : L.take k = L := List.take_of_length_le (by omega)
      rw [hkl]
      clear hkl
      cases hb : L.any (fun b => b != 0)
      · go_wp2
        go_ret
        exact ⟨rfl, below_up b1 HB4.out b1.size⟩
      · have hpos := wsum_pos L false hb
        have hmath := turn_sum (wsum false l0) (wsum false L) old now (by
          have := wsum_setWord l0 j (UInt8.ofNat (now / 256)) (UInt8.ofNat (now % 256)) hjl
          rw [HOO.out, word_parts now (by omega), show setWord l0 (2 * j) (UInt8.ofNat (now / 256)) (UInt8.ofNat (now % 256)) = L from HLL.out.symm] at this
          exact this) hold hpos
        have i0 := (F0.out.below b1).below HB4.out
        have HS1 := Lib.hid (of_any _ _ _ (rows_one w4 w4.heap.size rfl _ _ i0) (by simp; omega))
        rw [show ([l0] : List (List UInt8)).flatten = l0 by simp] at HS1
        have hO4 := HO4.out
        have HT := Lib.hid (fun W => turn_any (65535 - fold16 (wsum false l0)) old now W (by omega) (by omega) (by omega))
        have HS2 := Lib.hid (fun W (hb : Below w4.heap.size w4 W) => of_any _ _ _ (rows_one W W.heap.size rfl _ _ (IsB.of_owned (own_below hO4 hb))) (by simp; omega))
        rw [show ([L] : List (List UInt8)).flatten = L by simp] at HS2
        unfold turnN at HT
        rw [hmath] at HT
        generalize hc : 65535 - fold16 (wsum false l0) = c at *
        generalize hd : 65535 - fold16 (wsum false L) = d at *
        clear hc hd hmath hpos i0 hO4 hb
        go_wp2_with (go_at_call 11; refine HS1.out.mono ?_; rintro e w5 ⟨rfl, b5⟩; refine Hid.out ?_)
        refine Lib.hid ?_
        have b5' : Below w4.heap.size w4 w5 := below_up ((Below.refl _ _).alloc (Nat.le_refl _) _) b5 (by simp)
        clear b5 HS1
        go_wp2_with (first | (go_at_call 14; refine (HT.out _).mono ?_; rintro e w' ⟨rfl, rfl⟩) | (go_at_call 11; refine (HS2.out _ b5').mono ?_; rintro e w6 ⟨rfl, b6⟩))
        go_ret
        refine ⟨ret_bool_eq (by simp), ?_⟩
        exact below_up b1 (below_up HB4.out (below_up (b5'.alloc b5'.size _) b6 (by have := b5'.size; simp; omega)) HB4.out.size) b1.size
end Go.Proofs.Ytfecgnhgkciebaa
