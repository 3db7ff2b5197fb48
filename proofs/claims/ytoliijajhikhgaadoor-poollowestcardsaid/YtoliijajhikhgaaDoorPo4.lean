/- Package pool: a thing is taken out; a thing is laid in. -/
import Derived.Test.YtoliijajhikhgaaDoorPo3
import Derived.Test.YtoliijajhikhgaaDoorPoR
namespace Go.Proofs.YtoliijajhikhgaaDoor
open Go Go.RowKit Go.Shelf
attribute [local go_sem] Oper.semAt_some

theorem u64_bit {r : Nat} (hr : r < 64) : (2 ^ r : Nat) < 18446744073709551616 := Nat.lt_of_lt_of_le (Nat.pow_lt_pow_right (by decide) hr) (by decide)
theorem exec_store_u64 {ρ : Operand → Value} {o : Oper} {w : World} (x y : Operand) (ho : o.op = .store 79 x y) (b k : Nat) (u : Int) {old : Value} (hx : ρ x = .pointer (some ⟨b, k, none⟩)) (hy : ρ y = .int .u64 u)
    (hc : w.cell? ⟨b, k, none⟩ = some old) (hz : w.frozen? ⟨b, k, none⟩ = false) : (execOp ρ o).run Tryd.prog w = .ok .skip (w.setCell ⟨b, k, none⟩ (.int .u64 u)) := by
  unfold execOp
  simp only [ho, hx, hy]
  go_simp
/-- What the region reads that puts a row of bits. -/
def BitS (pt gk i n cap : Nat) (k : Nat) (W : World) : Prop := W.cell? ⟨pt, 3, none⟩ = some (.slice (some ⟨gk, 0, none⟩) n cap) ∧ W.cell? ⟨gk, i, none⟩ = some (.int .u64 (k : Int)) ∧ W.frozen? ⟨gk, i, none⟩ = false
theorem PoS.bitS {w W : World} {base pt : Nat} {room c : Int} {T : List (Value × Int)} {vt : Value} {ks : List Nat} {g n cap : Nat} (h : PoS w W base pt room c T vt (.slice (some ⟨g, 0, none⟩) n cap) ks) {i : Nat} (hi : i < ks.length) : BitS pt g i n cap (ks.getD i 0) W := by
  obtain rfl := (ownG_len h.r.kk).1
  refine ⟨by rw [h.r.bx.cell]; rfl, ?_, ?_⟩
  · have := ownG_range h.r.kk (kR_all ks) i _ (List.getElem?_eq_getElem hi) 0 _ rfl
    rw [Nat.mul_one] at this
    rw [List.getD_eq_getElem?_getD, List.getElem?_eq_getElem hi]
    exact this
  · have := (ownG_there h.r.kk (kR_all ks) i hi 0 (by decide)).2
    rwa [Nat.mul_one] at this
set_option maxRecDepth 100000 in
set_option maxHeartbeats 8000000 in
theorem pdrop_any {base pt : Nat} {room c : Int} {T : List (Value × Int)} {vt vk : Value} {ks : List Nat} (i : Nat) (w : World) (h : PoR w base pt room c T vt vk ks) (hi : i < T.length) (hik : i / 64 < ks.length) (hlt : ks.getD (i / 64) 0 < 18446744073709551616) (hc0 : 0 ≤ c) (hc1 : c ≤ 100000) :
    Calls Tryd.prog 30 #[.pointer (some ⟨pt, 0, none⟩), .int .i64 (i : Int)] w fun e w' => (∃ v, e = .returned v) ∧ PoS w w' base pt room (c - 1) (T.set i (.nilIface, 0)) vt vk (ks.set (i / 64) (ks.getD (i / 64) 0 &&& (18446744073709551615 - 2 ^ (i % 64)))) := by
  obtain ⟨gt, ct, hvt⟩ := ownG_form h.kt (by omega)
  obtain ⟨gk, ck, hvk⟩ := ownG_form h.kk (by omega)
  subst hvt
  subst hvk
  have h0 : PoS w w base pt room c T (.slice (some ⟨gt, 0, none⟩) T.length ct) (.slice (some ⟨gk, 0, none⟩) ks.length ck) ks := ⟨h, KpO.refl _ _⟩
  have H1 := Lib.hid (h0.cnt (c - 1))
  have c1 : w.cell? ⟨pt, 1, none⟩ = some (.int .i64 c) := by rw [h.bx.cell]; rfl
  have y1 := h.bx.frozen 1
  have c2 : w.cell? ⟨pt, 2, none⟩ = some (.slice (some ⟨gt, 0, none⟩) T.length ct) := by rw [h.bx.cell]; rfl
  have kk1 : IntKind.i64.wrap (c - 1) = c - 1 := by simp [IntKind.wrap, IntKind.bits, IntKind.signed]; omega
  have HIT := Lib.hid hi
  have hiT : (i : Int) < (T.length : Int) := by omega
  have hi0 : ¬ (i : Int) < 0 := by omega
  have hiK : ((i / 64 : Nat) : Int) < (ks.length : Int) := by omega
  have hk0 : ¬ ((i / 64 : Nat) : Int) < 0 := by omega
  have q0 : Int.tdiv (i : Int) 64 = ((i / 64 : Nat) : Int) := by rw [Int.tdiv_eq_ediv_of_nonneg (by omega)]; omega
  have q1 : (i : Int) / 64 = ((i / 64 : Nat) : Int) := by omega
  have m0 : Int.tmod (i : Int) 64 = ((i % 64 : Nat) : Int) := by rw [Int.tmod_eq_emod_of_nonneg (by omega)]; omega
  have m1 : (i : Int) % 64 = ((i % 64 : Nat) : Int) := by omega
  have HR := Lib.hid (show i % 64 < 64 from Nat.mod_lt _ (by decide))
  have HIK := Lib.hid hik
  have hkl := (ownG_len h.kk).2
  unfold maxLen at hkl
  have w5 : IntKind.i64.wrap ((i / 64 : Nat) : Int) = ((i / 64 : Nat) : Int) := by simp [IntKind.wrap, IntKind.bits, IntKind.signed]; omega
  have w9 : IntKind.i64.wrap ((i % 64 : Nat) : Int) = ((i % 64 : Nat) : Int) := by simp [IntKind.wrap, IntKind.bits, IntKind.signed]; omega
  obtain ⟨B, hB⟩ : ∃ B, B = 2 ^ (i % 64) := ⟨_, rfl⟩
  have HBB := Lib.hid (show (2 : Int) ^ (i % 64) = (B : Int) by rw [hB]; simp)
  have HBL := Lib.hid (show B < 18446744073709551616 by rw [hB]; exact u64_bit HR.out)
  have wB : IntKind.u64.wrap ((2 : Int) ^ (i % 64)) = (B : Int) := by have := HBL.out; rw [HBB.out]; simp [IntKind.wrap, IntKind.bits, IntKind.signed]; omega
  rw [← hB]
  have HTH := Lib.hid (ownG_there H1.out.r.kt (thR_all T) i hi)
  have H2 := Lib.hid (H1.out.th hi (.nilIface, 0) rfl)
  have HS2 := Lib.hid (H2.out.drew.bitS hik)
  clear h0 h hi hik hB
  generalize i / 64 = d at *
  generalize i % 64 = r at *
  have HAN := Lib.hid (u64_andNot_nat (ks.getD d 0) B hlt HBL.out)
  obtain ⟨k, hk⟩ : ∃ k, k = ks.getD d 0 := ⟨_, rfl⟩
  rw [← hk] at HAN HS2 ⊢
  clear hlt hk
  obtain ⟨N, hN⟩ : ∃ N, N = k &&& (18446744073709551615 - B) := ⟨_, rfl⟩
  rw [← hN] at HAN ⊢
  have an := HAN.out
  clear HAN hN
  go_enter Tryd.func30, Tryd.ntmps30
  go_wp2_with (first
    | (refine plV rfl (.agg (thR (.nilIface, 0)).toArray) (exec_build0 _ rfl _ built_th0) ?_)
    | (refine wpList_store_mid rfl 74 (.tmp 17) (.tmp 16) rfl gt (i * 2) (thR (.nilIface, 0)).toArray rfl rfl HTH.out th_info (all_oneCell_toArray (thR_one rfl)) ?_; refine Hid.out ?_))
  refine Lib.hid ?_
  generalize (w.setCell ⟨pt, 1, none⟩ (.int .i64 (c - 1))).setCells gt (i * 2) (thR (.nilIface, 0)) = W2 at *
  clear HTH H1 c1 y1 c2
  go_wp2_with fail
  obtain ⟨e3, e4, e5⟩ := HS2.out
  have H3 := Lib.hid (H2.out.drew.bits HIK.out N)
  go_region
  go_end0
  exact ⟨⟨_, rfl⟩, H3.out⟩
end Go.Proofs.YtoliijajhikhgaaDoor
