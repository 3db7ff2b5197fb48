/- Pack of package entry. Proved: what it returns, for every entry. -/
import Derived.Test.YtljpndkgfjndbaaEntM
import Derived.Test.YtljpndkgfjndbaaOct4
import Derived.Test.YtljpndkgfjndbaaAwake
namespace Go.Proofs.Ytljpndkgfjndbaa
open Go Go.RowKit

def Ent.val (e : Ent) : Value := .agg #[.int .i64 e.L, .int .u8 e.C, .bool e.B, .int .u8 e.T]

set_option maxHeartbeats 2000000 in
theorem pack_no (L C : Int) (B : Bool) (T : Int) (w : World) (_c0 : 0 ≤ C) (hg : ¬ (0 ≤ L ∧ L ≤ 1048575 ∧ C ≤ 7)) :
    Calls Try.prog 9 #[.agg #[.int .i64 L, .int .u8 C, .bool B, .int .u8 T]] w fun x w' => x = .returned (.tuple #[.slice none 0 0, .int .i64 1]) ∧ Below w.heap.size w w' := by
  by_cases h0 : L < 0
  · clear hg
    go_enter Try.func9, Try.ntmps9
    go_wp2
    go_ret2
    exact ⟨rfl, (Below.refl _ _).alloc (Nat.le_refl _) _⟩
  by_cases h1 : 1048575 < L
  · clear hg
    go_enter Try.func9, Try.ntmps9
    go_wp2
    go_ret2
    exact ⟨rfl, (Below.refl _ _).alloc (Nat.le_refl _) _⟩
  have h2 : 7 < C := by omega
  clear hg
  go_enter Try.func9, Try.ntmps9
  go_wp2
  go_ret2
  exact ⟨rfl, (Below.refl _ _).alloc (Nat.le_refl _) _⟩

theorem zeros4 : (madeCells (Value.int IntKind.u8 0).cells (4 * 1)).toList = byteVals [0, 0, 0, 0] := by kernel_rfl
theorem put4 (m : Nat) (h : m < 4294967296) : inP [0, 0, 0, 0] 0 4 m = true ∧ putL [0, 0, 0, 0] 0 4 m = lowB 4 m := by
  have e1 : inP [0, 0, 0, 0] 0 4 m = true := by
    have e2 : inG [0, 0, 0, 0] 0 4 = true := by decide
    have e3 : fitB m 4 = true := decide_eq_true (by show m < 256 ^ 4; omega)
    unfold inP; rw [e2, e3]; rfl
  refine ⟨e1, ?_⟩
  unfold putL
  rw [e1, if_pos rfl]
  simp [curL]
theorem ent_bits0 (L C T : Nat) (hL : (L : Int) ≤ 1048575) (hC : (C : Int) ≤ 7) (hT : (T : Int) ≤ 255) :
    bits .or .u64 (bits .or .u64 ((L : Int) * 4096) ((C : Int) * 512)) (T : Int) = ((L * 4096 + C * 512 + T : Nat) : Int) := by
  rw [u64_or ((L : Int) * 4096) _ (by omega) (by omega) (by omega) (by omega)]
  have e1 : ((L : Int) * 4096).toNat = L * 4096 := by omega
  have e2 : ((C : Int) * 512).toNat = C * 512 := by omega
  rw [e1, e2, nat_join 12 _ _ (by omega) (by omega), u64_or _ _ (by omega) (by omega) (by omega) (by omega)]
  rw [Int.toNat_natCast, Int.toNat_natCast, nat_join 9 _ _ (by omega) (by omega)]
theorem ent_bits1 (L C T : Nat) (hL : (L : Int) ≤ 1048575) (hC : (C : Int) ≤ 7) (hT : (T : Int) ≤ 255) :
    bits .or .u64 (bits .or .u64 (bits .or .u64 ((L : Int) * 4096) ((C : Int) * 512)) (T : Int)) 256 = ((L * 4096 + C * 512 + T + 256 : Nat) : Int) := by
  rw [ent_bits0 L C T hL hC hT, u64_or _ _ (by omega) (by omega) (by omega) (by omega), Int.toNat_natCast]
  have e0 : (256 : Int).toNat = 256 := rfl
  have e1 : L * 4096 + C * 512 + T = (L * 4096 + C * 512) ||| T := (nat_join 9 _ _ (by omega) (by omega)).symm
  have e2 : T ||| 256 = 256 + T := by rw [Nat.or_comm]; exact nat_join 8 256 T (by decide) (by omega)
  rw [e0, e1, Nat.or_assoc, e2, nat_join 9 _ _ (by omega) (by omega), nat_join 9 _ _ (by omega) (by omega)]
  omega

set_option maxHeartbeats 1000000 in
theorem pack_yes (L C : Int) (B : Bool) (T : Int) (w : World) (c0 : 0 ≤ C) (t0 : 0 ≤ T) (t1 : T ≤ 255) (l0 : 0 ≤ L) (l1 : L ≤ 1048575) (c1 : C ≤ 7) :
    Calls Try.prog 9 #[.agg #[.int .i64 L, .int .u8 C, .bool B, .int .u8 T]] w fun x w' => (∃ a n cap, x = .returned (.tuple #[.slice a n cap, .int .i64 0]) ∧ IsB w' (.slice a n cap) (Ent.bytes ⟨L, C, B, T⟩)) ∧ Below w.heap.size w w' := by
  obtain ⟨L, rfl⟩ := Int.eq_ofNat_of_zero_le l0
  obtain ⟨C, rfl⟩ := Int.eq_ofNat_of_zero_le c0
  obtain ⟨T, rfl⟩ := Int.eq_ofNat_of_zero_le t0
  obtain ⟨i0, hi, hz0, hz1, hz2⟩ := info_parts info5
  have HZ := Lib.hid hz2
  clear hz2
  obtain ⟨m, hm⟩ : ∃ m, m = Ent.num ⟨L, C, B, T⟩ := ⟨_, rfl⟩
  have hbs : Ent.bytes ⟨L, C, B, T⟩ = lowB 4 m := by rw [hm]; rfl
  rw [hbs]
  clear hbs
  have HM : m < 4294967296 := by
    rw [hm]
    exact Ent.num_lt (e := ⟨L, C, B, T⟩) ⟨c0, by simp only; omega, t0, t1⟩ (decide_eq_true ⟨l0, l1, c1⟩)
  have HP := Lib.hid (fun W a n cap (h : IsB W (.slice a n cap) [0, 0, 0, 0]) => put_any a n cap [0, 0, 0, 0] 0 4 m W h (by simp) (by omega))
  rw [(put4 m HM).1, (put4 m HM).2] at HP
  clear HM
  cases B
  · have E := ent_bits0 L C T l1 c1 t1
    rw [show L * 4096 + C * 512 + T = m by rw [hm]; simp [Ent.num]] at E
    have HE := Lib.hid E
    clear E hm
    go_enter Try.func9, Try.ntmps9
    go_wp2_with (at_make; refine wpList_make_full _ rfl (.const (.int .i64 4)) (.const (.int .i64 4)) 24 rfl w.heap.size 5 i0 (.int .u8 0) 1 Try.underlying24 hi hz0 hz1 .i64 .i64 _ _ 4 rfl rfl rfl rfl (by rw [HZ.out]; omega) (by unfold maxLen; omega) (by simp) ?_; intro w1 ho hg; refine Hid.out ?_)
    refine Lib.hid ?_
    rw [HE.out]
    rw [zeros4, World.size_alloc] at ho
    have hb1 : Below w.heap.size w w1 := ((Below.refl _ _).alloc (Nat.le_refl _) _).grown hg (by simp) (fun k h => by cases h)
    have H1 := Lib.hid (HP.out w1 _ _ _ (IsB.of_owned ho))
    clear ho hg HP HE
    go_wp2_with (go_at_call 20; refine H1.out.mono ?_; rintro e w2 ⟨⟨a', n', cap', rfl, hB2⟩, hb2⟩)
    go_ret2
    exact ⟨⟨_, _, _, rfl, hB2⟩, below_up hb1 hb2 hb1.size⟩
  · have E := ent_bits1 L C T l1 c1 t1
    rw [show L * 4096 + C * 512 + T + 256 = m by rw [hm]; simp [Ent.num]] at E
    have HE := Lib.hid E
    clear E hm
    go_enter Try.func9, Try.ntmps9
    go_wp2_with (at_make; refine wpList_make_full _ rfl (.const (.int .i64 4)) (.const (.int .i64 4)) 24 rfl w.heap.size 5 i0 (.int .u8 0) 1 Try.underlying24 hi hz0 hz1 .i64 .i64 _ _ 4 rfl rfl rfl rfl (by rw [HZ.out]; omega) (by unfold maxLen; omega) (by simp) ?_; intro w1 ho hg; refine Hid.out ?_)
    refine Lib.hid ?_
    rw [HE.out]
    rw [zeros4, World.size_alloc] at ho
    have hb1 : Below w.heap.size w w1 := ((Below.refl _ _).alloc (Nat.le_refl _) _).grown hg (by simp) (fun k h => by cases h)
    have H1 := Lib.hid (HP.out w1 _ _ _ (IsB.of_owned ho))
    clear ho hg HP HE
    go_wp2_with (go_at_call 20; refine H1.out.mono ?_; rintro e w2 ⟨⟨a', n', cap', rfl, hB2⟩, hb2⟩)
    go_ret2
    exact ⟨⟨_, _, _, rfl, hB2⟩, below_up hb1 hb2 hb1.size⟩

theorem pack_any (e : Ent) (w : World) (he : e.ok) :
    Calls Try.prog 9 #[e.val] w fun x w' => (∃ a n cap, x = .returned (.tuple #[.slice a n cap, .int .i64 (packC e)]) ∧ IsB w' (.slice a n cap) (packB e)) ∧ Below w.heap.size w w' := by
  cases hg : e.good
  · have e1 : packC e = 1 := by unfold packC; rw [hg]; rfl
    have e2 : packB e = [] := by unfold packB; rw [hg]; rfl
    rw [e1, e2]
    refine (pack_no e.L e.C e.B e.T w he.c0 (of_decide_eq_false hg)).mono ?_
    rintro x w' ⟨rfl, hb⟩
    exact ⟨⟨_, _, _, rfl, IsB.nil _⟩, hb⟩
  · have e1 : packC e = 0 := by unfold packC; rw [hg]; rfl
    have e2 : packB e = e.bytes := by unfold packB; rw [hg]; rfl
    rw [e1, e2]
    have g := of_decide_eq_true hg
    exact pack_yes e.L e.C e.B e.T w he.c0 he.t0 he.t1 g.1 g.2.1 g.2.2
end Go.Proofs.Ytljpndkgfjndbaa
