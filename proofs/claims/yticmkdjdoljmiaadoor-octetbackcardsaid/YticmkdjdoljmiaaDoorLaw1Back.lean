/- OctetBack returns true, whatever it is given, and turns no old memory. -/
import Derived.Test.YticmkdjdoljmiaaDoorRef5
import Derived.Test.YticmkdjdoljmiaaDoorMathBack
namespace Go.Proofs.YticmkdjdoljmiaaDoor
open Go Go.RowKit

theorem shl_byte (k : Nat) (h1 : 1 ≤ k) (h7 : k < 8) : IntKind.u64.wrap (2 ^ (8 * (k : Int)).toNat) = ((256 ^ k : Nat) : Int) := by
  have hk : k = 1 ∨ k = 2 ∨ k = 3 ∨ k = 4 ∨ k = 5 ∨ k = 6 ∨ k = 7 := by omega
  rcases hk with rfl | rfl | rfl | rfl | rfl | rfl | rfl <;> rw [IntKind.wrap_u64] <;> decide

theorem ex_unhex_hex (l : List UInt8) (w : World) (hl : l.length ≤ 1000) :
    Calls Tryd.prog 16 #[.string ⟨(hexL l).toArray⟩] w fun e w' => (∃ a' n' cap', e = .returned (.tuple #[.slice a' n' cap', .bool true]) ∧ IsB w' (.slice a' n' cap') l) ∧ Below w.heap.size w w' := by
  have h := unhex_any ⟨(hexL l).toArray⟩ w (by show (hexL l).length ≤ _; rw [hexL_length]; omega)
  have e1 : unhexB (⟨(hexL l).toArray⟩ : ByteArray).data.toList = true := (unhex_hex l).1
  have e2 : unhexL (⟨(hexL l).toArray⟩ : ByteArray).data.toList = l := (unhex_hex l).2
  rw [e1, e2] at h
  exact h
theorem ex_number_digits (z : Int) (w : World) (h0 : 0 ≤ z) (h1 : z ≤ 9223372036854775807) :
    Calls Tryd.prog 20 #[.string ⟨(Lib.itoa z).toArray⟩, .int .i64 z] w fun e w' => e = .returned (.tuple #[.int .i64 z, .bool true]) ∧ Below w.heap.size w w' := by
  have hlen : (Lib.itoa z).length ≤ 1000000 := by have := Lib.itoa_length_le z (by omega) h1; omega
  have h := number_any ⟨(Lib.itoa z).toArray⟩ z w hlen (by omega) h1
  have e1 : numB (⟨(Lib.itoa z).toArray⟩ : ByteArray).data.toList z = true := (numB_digits z h0).1
  have e2 : numV (⟨(Lib.itoa z).toArray⟩ : ByteArray).data.toList z = z := (numB_digits z h0).2
  rw [e1, e2] at h
  exact h

theorem IsB.head {w : World} {a : Option Addr} {n cap : Nat} {l : List UInt8} (h : IsB w (.slice a n cap) l) {k : Nat} (hk : k ≤ l.length) : IsB w (.slice a k cap) (l.take k) := by
  obtain ⟨a2, cap2, he, h1, h2, h3⟩ := h
  simp only [Value.slice.injEq] at he
  obtain ⟨rfl, rfl, rfl⟩ := he
  have hl : (l.take k).length = k := by simp; omega
  refine ⟨a, cap, by rw [hl], by omega, h2, fun hp => ?_⟩
  rw [hl] at hp
  obtain ⟨b, off, rfl, hlt, hc⟩ := h3 (by omega)
  exact ⟨b, off, rfl, hlt, fun i hi => by rw [hl] at hi; rw [byteAt_take _ _ _ hi]; exact hc i (by omega)⟩
theorem IsB.tail {w : World} {a : Option Addr} {n cap : Nat} {l : List UInt8} (h : IsB w (.slice a n cap) l) {k : Nat} (hk : k ≤ l.length) :
    IsB w (.slice (if cap = k then a else a.map (·.add k)) (n - k) (cap - k)) (l.drop k) := by
  obtain ⟨a2, cap2, he, h1, h2, h3⟩ := h
  simp only [Value.slice.injEq] at he
  obtain ⟨rfl, rfl, rfl⟩ := he
  have hl : (l.drop k).length = l.length - k := by simp
  refine ⟨(if cap = k then a else a.map (·.add k)), cap - k, by rw [hl], by omega, by unfold maxLen at *; omega, fun hp => ?_⟩
  rw [hl] at hp
  obtain ⟨b, off, rfl, hlt, hc⟩ := h3 (by omega)
  refine ⟨b, off + k, by rw [if_neg (by omega)]; simp [plain_add], hlt, fun i hi => ?_⟩
  rw [hl] at hi
  rw [byteAt_drop, Nat.add_assoc]
  exact hc _ (by omega)
theorem IsB.drewN {w : World} {v : Value} {l : List UInt8} (h : IsB w v l) (q : Nat) : IsB (w.drewN q) v l := h.below (below_drewN (Below.refl _ _) q)

set_option maxHeartbeats 4000000 in
theorem back_walk (a : Option Addr) (n cap : Nat) (l : List UInt8) (t s m : Int) (w : World) (hv : IsB w (.slice a n cap) l) (ht0 : 0 ≤ t) (ht1 : t ≤ 255) (hs0 : 0 ≤ s) (hs1 : s ≤ 255) (hm0 : 0 ≤ m) (hm1 : m ≤ 18446744073709551615)
    (htab : Lib.TabIs Tryd.prog w "internal/strconv.uint64pow10" .u64 Lib.pow10Tab) :
    Calls Tryd.prog 7 #[.agg #[.slice a n cap, .int .u8 t, .int .u8 s, .int .u64 m]] w fun e w' => e = .returned (.bool true) ∧ Below w.heap.size w w' := by
  obtain ⟨m, rfl⟩ := Int.eq_ofNat_of_zero_le hm0
  have HM : Held ((m : Int) < 18446744073709551616) := ⟨by omega⟩
  obtain ⟨rfl, hcap, hmax, _⟩ := hv.cells
  obtain ⟨o, ho⟩ : ∃ o, Obj.cells #[Value.slice a l.length cap, .int .u8 t, .int .u8 s, .int .u64 m] 46 = o := ⟨_, rfl⟩
  have hb0 : Below w.heap.size w (w.alloc o) := (Below.refl _ _).alloc (Nat.le_refl _) _
  have HA := Lib.hid (awake_any (w.alloc o) (tab_below htab hb0))
  have HT := Lib.hid (fun (w' : World) (hb : Below w.heap.size w w') => tab_below htab hb)
  rw [← ho] at HA
  have HO := Lib.hid ho
  clear htab hm0 hm1 ho
  go_enter Tryd.func7, Tryd.ntmps7
  go_wp2_with (go_at_call 9; refine HA.out.mono ?_; rintro e w1 ⟨rfl, b1⟩; refine Hid.out ?_)
  refine Lib.hid ?_
  rw [HO.out] at b1
  have cA : w1.cell? ⟨w.heap.size, 1, none⟩ = some (.int .u8 t) := by
    rw [b1.cell (p := ⟨w.heap.size, 1, none⟩) (by simp), ← HO.out]
    simp
  have cS : w1.cell? ⟨w.heap.size, 2, none⟩ = some (.int .u8 s) := by
    rw [b1.cell (p := ⟨w.heap.size, 2, none⟩) (by simp), ← HO.out]
    simp
  have b2 : Below w.heap.size w w1 := below_up hb0 b1 (by simp)
  clear hb0 b1 HO HA
  by_cases hbig : 200 < l.length
  · go_wp2
    go_ret
    exact ⟨rfl, b2⟩
  have hv1 := hv.below b2
  have HV := Lib.hid hv
  obtain ⟨k, hk⟩ : ∃ k : Nat, s % 8 + 1 = (k : Int) := ⟨(s % 8 + 1).toNat, by omega⟩
  have k1 : 1 ≤ k := by omega
  have k8 : k ≤ 8 := by omega
  obtain ⟨y, hy⟩ : ∃ y : Nat, (if k < 8 then m % 256 ^ k else m) = y := ⟨_, rfl⟩
  have hyf : fitB y k = true := by
    unfold fitB
    rw [Int.toNat_natCast, ← hy]
    refine decide_eq_true ?_
    split
    · exact Nat.mod_lt _ (Nat.pow_pos (by decide))
    · have : k = 8 := by omega
      subst this
      have := HM.out
      have e8 : 256 ^ 8 = 18446744073709551616 := by decide
      omega
  have hyu : Held ((y : Int) < 18446744073709551616) := by
    constructor
    have h1 := HM.out
    have h2 : y ≤ m := by rw [← hy]; split; exact Nat.mod_le _ _; exact Nat.le_refl _
    omega
  clear hv
  obtain ⟨z, hz⟩ : ∃ z : Nat, y / 2 = z := ⟨_, rfl⟩
  have hz2 : (y : Int) / 2 = (z : Int) := by omega
  have hz3 : (z : Int) ≤ 9223372036854775807 := by have := hyu.out; omega
  have D := Lib.hid (fun W h => digits_any (z : Int) W (by omega) hz3 h)
  have N := Lib.hid (fun W => ex_number_digits (z : Int) W (by omega) hz3)
  have U := Lib.hid (fun W => ex_unhex_hex l W (by omega))
  generalize Lib.itoa (z : Int) = I at *
  clear hz
  rcases Nat.lt_or_ge k 8 with hk8 | hk8
  all_goals first
    | (have hsh := shl_byte k k1 hk8
       obtain ⟨p, hp⟩ : ∃ p, 256 ^ k = p := ⟨_, rfl⟩
       rw [if_pos hk8] at hy
       rw [hp] at hsh hy
       have hp0 : 0 < p := by rw [← hp]; exact Nat.pow_pos (by decide)
       have hmod : (m : Int) % (p : Int) = (y : Int) := by rw [← hy]; omega
       clear hp hy
       go_wp2_with fail
       rw [hmod]
       clear hmod hsh hp0 hk cA cS)
    | (rw [if_neg (by omega)] at hy
       have hmy : (m : Int) = (y : Int) := by omega
       clear hy
       go_wp2_with fail
       rw [hmy]
       clear hmy hk cA cS)
  all_goals
    by_cases hle : t + (k : Int) ≤ l.length
    · have P := put_yes a l.length cap l t k y w1 hv1 (by omega) hyu.out ht0 (by omega) (by omega) hle hyf
      have G := get_put l t k y ht0 (by omega) (by omega) hle hyf
      have hcl := curL_length l t.toNat (k : Int).toNat y (k : Int).toNat (by omega) (Nat.le_refl _)
      have hct := curL_take l t.toNat (k : Int).toNat y (by omega)
      have hcd := curL_drop l t.toNat (k : Int).toNat y (by omega)
      generalize curL l t.toNat (k : Int).toNat y (k : Int).toNat = C at *
      have HG := Lib.hid G
      have HCL := Lib.hid hcl
      have HCT := Lib.hid hct
      have HCD := Lib.hid hcd
      clear G hcl hct hcd
      refine P.mono ?_
      rintro e w2 ⟨⟨a2, n2, c2, rfl, i2⟩, b3⟩
      obtain ⟨hn2, hc2, hm2, _⟩ := i2.cells
      rw [HCL.out] at hn2 hc2
      subst hn2
      have hv2 := hv1.below b3
      have b4 := below_up b2 b3 b2.size
      clear P b3 hv1
      have HX := Lib.hid (hex_any a l.length cap l w2 hv2 (by omega))
      go_wp2_with (go_at_call 18; refine HX.out.mono ?_; rintro e w3 ⟨rfl, b5⟩; refine Hid.out ?_)
      refine Lib.hid ?_
      go_wp2_with (go_at_call 16; refine (U.out _).mono ?_; rintro e w4 ⟨⟨a4, n4, c4, rfl, i4⟩, b6⟩; refine Hid.out ?_)
      refine Lib.hid ?_
      have i2 := (i2.below b5).below b6
      have hv2 := (hv2.below b5).below b6
      have b7 := below_up (below_up b4 b5 b4.size) b6 (by have := b4.size; have := b5.size; omega)
      have HT4 := Lib.hid (HT.out _ b7)
      clear b4 b5 b6 HX
      go_wp2_with (go_at_call 22; refine (D.out _ HT4.out).mono ?_; rintro e w5 ⟨rfl, b8⟩; refine Hid.out ?_)
      refine Lib.hid ?_
      go_wp2_with (go_at_call 20; refine (N.out _).mono ?_; rintro e w6 ⟨rfl, b9⟩; refine Hid.out ?_)
      refine Lib.hid ?_
      have i2 := (i2.below b8).below b9
      have i4 := (i4.below b8).below b9
      have hv2 := (hv2.below b8).below b9
      have b10 := below_up (below_up b7 b8 b7.size) b9 (by have := b7.size; have := b8.size; omega)
      have v4 := i4.conv Tryd.underlying22 Tryd.underlying5 Tryd.underlying9
      have vb := hv2.conv Tryd.underlying22 Tryd.underlying5 Tryd.underlying9
      have GG := get_any a2 l.length c2 C t k w6 i2
      rw [HG.out.1, HG.out.2] at GG
      have HGG := Lib.hid GG
      clear b7 b8 b9 i4 GG
      go_wp2_with (go_at_call 10; refine HGG.out.mono ?_; rintro e w' ⟨rfl, rfl⟩)
      clear HGG HT HT4 D N U
      have f1 := fun q => ((i2.head (k := t.toNat) (by rw [HCL.out]; omega)).drewN q).conv Tryd.underlying22 Tryd.underlying5 Tryd.underlying9
      have f2 := fun q => ((hv2.head (k := t.toNat) (by omega)).drewN q).conv Tryd.underlying22 Tryd.underlying5 Tryd.underlying9
      have f3 := fun q => ((i2.tail (k := (t + (k : Int)).toNat) (by rw [HCL.out]; omega)).drewN q).conv Tryd.underlying22 Tryd.underlying5 Tryd.underlying9
      have f4 := fun q => ((hv2.tail (k := (t + (k : Int)).toNat) (by omega)).drewN q).conv Tryd.underlying22 Tryd.underlying5 Tryd.underlying9
      have hcd := HCD.out
      rw [show t.toNat + (k : Int).toNat = (t + (k : Int)).toNat by omega] at hcd
      rw [HCT.out] at f1
      rw [hcd] at f3
      generalize l.take t.toNat = lh at *
      generalize l.drop (t + (k : Int)).toNat = lt at *
      clear hcd i2 hv2 HCT HCD HG
      go_quiet (fail)
      go_wp2
      all_goals
        go_ret
        exact ⟨rfl, below_drewN b10 nq⟩
    · have P := put_no1 a l.length cap l t k y w1 hv1 (by omega)
      refine P.mono ?_
      rintro e w2 ⟨rfl, rfl⟩
      have HX := Lib.hid (hex_any a l.length cap l w1 hv1 (by omega))
      clear P
      go_wp2_with (go_at_call 18; refine HX.out.mono ?_; rintro e w3 ⟨rfl, b5⟩; refine Hid.out ?_)
      refine Lib.hid ?_
      go_wp2_with (go_at_call 16; refine (U.out _).mono ?_; rintro e w4 ⟨⟨a4, n4, c4, rfl, i4⟩, b6⟩; refine Hid.out ?_)
      refine Lib.hid ?_
      have hv2 := (hv1.below b5).below b6
      have b7 := below_up (below_up b2 b5 b2.size) b6 (by have := b2.size; have := b5.size; omega)
      have HT4 := Lib.hid (HT.out _ b7)
      clear b5 b6 HX hv1
      go_wp2_with (go_at_call 22; refine (D.out _ HT4.out).mono ?_; rintro e w5 ⟨rfl, b8⟩; refine Hid.out ?_)
      refine Lib.hid ?_
      go_wp2_with (go_at_call 20; refine (N.out _).mono ?_; rintro e w6 ⟨rfl, b9⟩; refine Hid.out ?_)
      refine Lib.hid ?_
      have i4 := (i4.below b8).below b9
      have hv2 := (hv2.below b8).below b9
      have b10 := below_up (below_up b7 b8 b7.size) b9 (by have := b7.size; have := b8.size; omega)
      have v4 := i4.conv Tryd.underlying22 Tryd.underlying5 Tryd.underlying9
      have vb := hv2.conv Tryd.underlying22 Tryd.underlying5 Tryd.underlying9
      clear b7 b8 b9 i4 hv2
      go_wp2
      go_ret
      exact ⟨rfl, b10⟩
end Go.Proofs.YticmkdjdoljmiaaDoor
