/- Package pool: TrailingZeros64; the lowest free number; place for it. -/
import Derived.Test.YtoliijajhikhgaaDoorPo1
import Derived.Laws.BitsAllLaws
namespace Go.Proofs.YtoliijajhikhgaaDoor
open Go Go.RowKit Go.Shelf
attribute [local go_sem] Oper.semAt_some

set_option maxRecDepth 100000 in
set_option maxHeartbeats 1000000 in
theorem tz64_core14 (x k idx : Nat) (w : World) (hx0 : ((x : Int) == 0) = false)
    (key : IntKind.u64.wrap (bits BinOp.and IntKind.u64 (x : Int) (IntKind.u64.wrap (-(x : Int))) * 285870213051353865) / 288230376151711744 = (idx : Int))
    (hi : idx < 64) (hk : k < 64) (hcell : w.cell? ⟨0, idx, none⟩ = some (.int .u8 k)) :
    Calls Tryd.prog 37 #[.int .u64 x] w fun e w' => e = .returned (.int .i64 k) ∧ w = w' := by
  go_enter Tryd.func37, Tryd.ntmps37
  go_wp2_with (simp only [key])
  go_ret
  exact ⟨rfl, rfl⟩
theorem tz64_any (x : Nat) (hx : x < 18446744073709551616) (hx0 : x ≠ 0) (w : World) (hT : TabAt 0 Lib.deBruijn64tab w) :
    Calls Tryd.prog 37 #[.int .u64 (x : Int)] w fun e w' => e = .returned (.int .i64 (Lib.ctz 64 x : Nat)) ∧ w = w' := by
  obtain ⟨hlow, hk⟩ := Lib.lowest_bit 64 x hx0 hx
  obtain ⟨hi, htab⟩ := Lib.deBruijn64_at _ hk
  have hcell := hT _ hi
  rw [htab] at hcell
  exact tz64_core14 x _ _ w (by simp; omega) (tz64_key x _ hx hx0 hlow) hi hk hcell
theorem xor_max {k : Nat} (h : k < 18446744073709551616) : bits .xor .u64 IntKind.u64.max (k : Int) = ((18446744073709551615 - k : Nat) : Int) := by
  have e : (18446744073709551615 ^^^ k) = 18446744073709551615 - k := by
    refine Nat.eq_of_testBit_eq (fun i => ?_)
    rw [Nat.testBit_xor, show 18446744073709551615 - k = 2 ^ 64 - (k + 1) by omega, Nat.testBit_two_pow_sub_succ (show k < 2 ^ 64 by omega), show (18446744073709551615 : Nat) = 2 ^ 64 - 1 by decide, Nat.testBit_two_pow_sub_one]
    by_cases hi : i < 64
    · simp [hi]
    · have : k.testBit i = false := Nat.testBit_lt_two_pow (Nat.lt_of_lt_of_le h (Nat.pow_le_pow_right (show 0 < 2 by decide) (show 64 ≤ i by omega)))
      simp [hi, this]
  have h2 := u64_xor_nat 18446744073709551615 k (by decide) h
  rw [e] at h2
  exact h2
set_option maxRecDepth 100000 in
set_option maxHeartbeats 4000000 in
theorem plow_any {base pt : Nat} {room : Int} {T : List (Value × Int)} {vt vk : Value} {ks : List Nat} (w : World) (h : PoolM w base pt room T vt vk ks) (hn : ks.length ≤ 100000) :
    Calls Tryd.prog 34 #[.pointer (some ⟨pt, 0, none⟩)] w fun e w' => e = .returned (.int .i64 (freeU (usT T) : Int)) ∧ w = w' := by
  obtain ⟨ak, ck, hvk⟩ : ∃ a c, vk = .slice a ks.length c := by
    rcases h.kk.2 with ⟨rfl, e⟩ | ⟨g, c, cur, rfl, _⟩
    · exact ⟨none, 0, by rw [e]⟩
    · exact ⟨_, c, rfl⟩
  have c3 : w.cell? ⟨pt, 3, none⟩ = some (.slice ak ks.length ck) := by rw [h.bx.cell, ← hvk]; rfl
  have HTZ := Lib.hid h.tz.2.2
  have HTK := Lib.hid h.tk
  have HKK := Lib.hid h.kk
  have HLT := Lib.hid h.tk.lt
  subst hvk
  clear h
  go_enter Tryd.func34, Tryd.ntmps34
  go_wp2
  go_loopw [11] (fun r wr => ∃ i : Nat, i ≤ ks.length ∧ r = .int .i64 (i : Int) ∧ Hid (∀ q, q < i → ks[q]? = some 18446744073709551615) ∧ w = wr) (fun r _ => ks.length - (intOf r).toNat)
  case atStart => exact ⟨0, Nat.zero_le _, rfl, Lib.hid (fun q hq => by omega), rfl⟩
  case round =>
    obtain ⟨i, hi, rfl, HF, rfl⟩ := hrel
    by_cases hlt : i < ks.length
    · have hlti : (i : Int) < (ks.length : Int) := by omega
      have h0i : ¬ (i : Int) < 0 := by omega
      obtain ⟨k, hk⟩ : ∃ k, ks[i]? = some k := ⟨_, List.getElem?_eq_getElem hlt⟩
      obtain ⟨gk, cap', e9⟩ := ownG_form HKK.out (by omega)
      cases e9
      have hr := ownG_range HKK.out (kR_all ks) i k hk
      have hkl := HLT.out k (List.mem_of_getElem? hk)
      have c0 : w.cell? ⟨gk, i, none⟩ = some (.int .u64 (k : Int)) := by
        have := hr 0 _ rfl
        rwa [Nat.mul_one] at this
      obtain ⟨f, hf⟩ : ∃ f : Nat, f = 18446744073709551615 - k := ⟨_, rfl⟩
      have x1 : bits .xor .u64 IntKind.u64.max (k : Int) = (f : Int) := by rw [hf]; exact xor_max hkl
      have x0 : bits .xor .u64 (if IntKind.u64.signed = true then -1 else IntKind.u64.max) (k : Int) = (f : Int) := by rw [if_neg (by decide)]; exact x1
      by_cases hf0 : f = 0
      · have HN : Hid (∀ q, q < i + 1 → ks[q]? = some 18446744073709551615) := fun q hq => by
          rcases Nat.lt_or_ge q i with h1 | h1
          · exact HF.out q h1
          · obtain rfl : q = i := by omega
            rw [hk, show k = 18446744073709551615 by omega]
        have HF0 := Lib.hid hf0
        have x2 : bits .xor .u64 IntKind.u64.max (k : Int) = 0 := by rw [x1, hf0]; rfl
        have x3 : bits .xor .u64 (if IntKind.u64.signed = true then -1 else IntKind.u64.max) (k : Int) = 0 := by rw [x0, hf0]; rfl
        clear hk hr hkl hf hf0 x1 x0
        go_wp2
        go_roundw
        case rel => exact ⟨i + 1, hlt, by go_num, HN, by first | rfl | trivial⟩
        case measure => simp [intOf]; omega
      · have HL := Lib.hid (HTK.out.low HF.out hk (by omega))
        rw [← hf] at HL
        have HT := Lib.hid (tz64_any f (by omega) hf0 w HTZ.out)
        have hcl := (ctz_bits hf0 (show f < 2 ^ 64 by omega)).1
        generalize Lib.ctz 64 f = c at *
        have hb : ((f : Int) == 0) = false := by simp; omega
        have hb3 : ((f : Int) != 0) = true := by simp; omega
        have kk1 : IntKind.i64.wrap (64 * (i : Int)) = 64 * (i : Int) := by simp [IntKind.wrap, IntKind.bits, IntKind.signed]; omega
        have kk2 : IntKind.i64.wrap (64 * (i : Int) + (c : Int)) = 64 * (i : Int) + (c : Int) := by simp [IntKind.wrap, IntKind.bits, IntKind.signed]; omega
        have hb4 : (f == 0) = false := by simpa using hf0
        clear hk hr hkl hf
        go_wp2_with (go_at_call 37; refine HT.out.mono ?_; rintro e w1 ⟨rfl, rfl⟩)
        go_ret
        exact ⟨by rw [HL.out]; go_num, rfl⟩
    · have hlti : ¬ (i : Int) < (ks.length : Int) := by omega
      have HIE := Lib.hid (show i = ks.length by omega)
      have HL := Lib.hid (HTK.out.full (fun q hq => HF.out q (by rw [HIE.out]; exact hq)))
      have kk1 : IntKind.i64.wrap (64 * (ks.length : Int)) = 64 * (ks.length : Int) := by simp [IntKind.wrap, IntKind.bits, IntKind.signed]; omega
      go_wp2
      go_ret
      exact ⟨by rw [HL.out]; go_num, rfl⟩
end Go.Proofs.YtoliijajhikhgaaDoor
