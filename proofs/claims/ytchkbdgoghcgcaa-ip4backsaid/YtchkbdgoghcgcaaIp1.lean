/- Package ip4: Size, piece, number, two. Proved: what each returns. -/
import Derived.Test.YtchkbdgoghcgcaaM4
import Derived.Test.YtchkbdgoghcgcaaSum2
namespace Go.Proofs.Ytchkbdgoghcgcaa
open Go Go.RowKit

/-- The cells of a header. -/
def Hdr.cells (h : Hdr) : Array Value := #[.int .u8 (h.tos.toNat : Int), .int .i64 h.len, .int .u16 (h.id : Int), .bool h.keep, .bool h.more, .int .i64 h.off, .int .u8 (h.ttl.toNat : Int), .int .u8 (h.proto.toNat : Int),
  .int .u8 (h.s0.toNat : Int), .int .u8 (h.s1.toNat : Int), .int .u8 (h.s2.toNat : Int), .int .u8 (h.s3.toNat : Int), .int .u8 (h.d0.toNat : Int), .int .u8 (h.d1.toNat : Int), .int .u8 (h.d2.toNat : Int), .int .u8 (h.d3.toNat : Int), .string ⟨h.opt.toArray⟩]
/-- A header as a value. -/
def Hdr.val (h : Hdr) : Value := .agg h.cells

set_option maxHeartbeats 1000000 in
theorem size_any (h : Hdr) (w : World) (hs : h.opt.length ≤ 1000000) : Calls Try.prog 16 #[h.val] w fun r w' => r = .returned (.int .i64 (h.size : Int)) ∧ Below w.heap.size w w' := by
  obtain ⟨tos, len, id, keep, more, off, ttl, proto, s0, s1, s2, s3, d0, d1, d2, d3, opt⟩ := h
  unfold Hdr.val Hdr.cells Hdr.size
  simp only at hs ⊢
  have hz : (⟨opt.toArray⟩ : ByteArray).size = opt.length := by simp [ByteArray.size]
  go_enter Try.func16, Try.ntmps16
  go_wp2
  go_ret
  exact ⟨ret_int (by go_num), (Below.refl _ _).alloc (Nat.le_refl _) _⟩

theorem ofInt_i64 (a : Nat) (ha : a < 65536) : (BitVec.ofInt 64 (a : Int)).toNat = a := by
  rw [BitVec.ofInt_natCast, BitVec.toNat_ofNat]; exact Nat.mod_eq_of_lt (by omega)
theorem i64_or_small (a b : Nat) (ha : a < 65536) (hb : b < 65536) : bits .or .i64 (a : Int) (b : Int) = ((a ||| b : Nat) : Int) := by
  have hx : a ||| b < 2 ^ 16 := Nat.or_lt_two_pow (by omega) (by omega)
  show IntKind.i64.wrap ((BitVec.ofInt 64 (a : Int) ||| BitVec.ofInt 64 (b : Int)).toNat : Int) = _
  rw [BitVec.toNat_or, ofInt_i64 a ha, ofInt_i64 b hb, IntKind.wrap_i64]
  omega
theorem i64_and_small (a b : Nat) (ha : a < 65536) (hb : b < 65536) : bits .and .i64 (a : Int) (b : Int) = ((a &&& b : Nat) : Int) := by
  have hx : a &&& b < 2 ^ 16 := Nat.and_lt_two_pow _ (by omega)
  show IntKind.i64.wrap ((BitVec.ofInt 64 (a : Int) &&& BitVec.ofInt 64 (b : Int)).toNat : Int) = _
  rw [BitVec.toNat_and, ofInt_i64 a ha, ofInt_i64 b hb, IntKind.wrap_i64]
  omega
theorem or_keep (n : Nat) (h : n ≤ 8191) : bits .or .i64 (n : Int) 16384 = ((n + 16384 : Nat) : Int) := by
  rw [show (16384 : Int) = ((16384 : Nat) : Int) from rfl, i64_or_small n 16384 (by omega) (by omega), Nat.or_comm, nat_join 14 16384 n (by decide) (by omega), Nat.add_comm]
theorem or_more (n : Nat) (h : n ≤ 8191) : bits .or .i64 (n : Int) 8192 = ((n + 8192 : Nat) : Int) := by
  rw [show (8192 : Int) = ((8192 : Nat) : Int) from rfl, i64_or_small n 8192 (by omega) (by omega), Nat.or_comm, nat_join 13 8192 n (by decide) (by omega), Nat.add_comm]
theorem or_both (n : Nat) (h : n ≤ 8191) : bits .or .i64 (bits .or .i64 (n : Int) 16384) 8192 = ((n + 16384 + 8192 : Nat) : Int) := by
  have e : n + 16384 = 16384 ||| n := by rw [nat_join 14 16384 n (by decide) (by omega), Nat.add_comm]
  have e2 : n ||| 8192 = 8192 + n := by rw [Nat.or_comm]; exact nat_join 13 8192 n (by decide) (by omega)
  rw [or_keep n h, show (8192 : Int) = ((8192 : Nat) : Int) from rfl, i64_or_small _ 8192 (by omega) (by omega), e, Nat.or_assoc, e2, nat_join 14 16384 (8192 + n) (by decide) (by omega), ← e]
  omega

set_option maxHeartbeats 1000000 in
theorem piece_any (h : Hdr) (w : World) (h0 : 0 ≤ h.off) (h1 : h.off ≤ 8191) : Calls Try.prog 44 #[h.val] w fun r w' => r = .returned (.int .i64 (h.flags : Int)) ∧ Below w.heap.size w w' := by
  obtain ⟨tos, len, id, keep, more, off, ttl, proto, s0, s1, s2, s3, d0, d1, d2, d3, opt⟩ := h
  unfold Hdr.val Hdr.cells Hdr.flags
  simp only at h0 h1 ⊢
  obtain ⟨off, rfl⟩ := Int.eq_ofNat_of_zero_le h0
  have hn : off ≤ 8191 := by omega
  cases keep <;> cases more
  all_goals
    go_enter Try.func44, Try.ntmps44
    go_wp2
    go_ret
    refine ⟨ret_int ?_, (Below.refl _ _).alloc (Nat.le_refl _) _⟩
    first
    | exact or_keep off hn
    | exact or_more off hn
    | exact or_both off hn
    | rfl

/-- Two bytes at a place. -/
theorem get2 (l : List UInt8) (k : Nat) (h : k + 2 ≤ l.length) : inG l k 2 = true ∧ getN l k 2 = wordAt l k := by
  have e1 : inG l k 2 = true := decide_eq_true ⟨by omega, by omega, by omega, by omega⟩
  refine ⟨e1, ?_⟩
  unfold getN
  rw [if_pos e1, Int.toNat_natCast, show (2 : Int).toNat = 2 from rfl]
  rw [show l.drop k = l[k] :: l[k + 1] :: l.drop (k + 2) by rw [List.drop_eq_getElem_cons (by omega), List.drop_eq_getElem_cons (by omega)]]
  show numOf [l[k], l[k + 1]] = _
  simp [numOf, wordAt, List.getD, show k < l.length by omega, show k + 1 < l.length by omega]
set_option maxHeartbeats 1000000 in
theorem number_any4 (a : Option Addr) (n cap : Nat) (l : List UInt8) (k : Nat) (w : World) (hv : IsB w (.slice a n cap) l) (hk : k + 2 ≤ l.length) :
    Calls Try.prog 20 #[.slice a n cap, .int .i64 (k : Int)] w fun r w' => r = .returned (.int .i64 (wordAt l k : Int)) ∧ w = w' := by
  have HG := Lib.hid (get_any a n cap l k 2 w hv)
  rw [(get2 l k hk).1, (get2 l k hk).2] at HG
  have hle := wordAt_le l k
  generalize wordAt l k = m at *
  clear hv hk
  go_enter Try.func20, Try.ntmps20
  go_wp2_with (go_at_call 35; refine HG.out.mono ?_; rintro e w2 ⟨rfl, rfl⟩)
  go_ret
  exact ⟨ret_int (by go_num), rfl⟩

theorem zeros2 : (madeCells (Value.int IntKind.u8 0).cells (2 * 1)).toList = byteVals [0, 0] := by kernel_rfl
theorem put2 (m : Nat) (h : m < 65536) : inP [0, 0] 0 2 m = true ∧ putL [0, 0] 0 2 m = lowB 2 m := by
  have e1 : inP [0, 0] 0 2 m = true := by
    have e2 : inG [0, 0] 0 2 = true := by decide
    have e3 : fitB m 2 = true := decide_eq_true (by show m < 256 ^ 2; omega)
    unfold inP; rw [e2, e3]; rfl
  refine ⟨e1, ?_⟩
  unfold putL
  rw [e1, if_pos rfl]
  simp [curL]
set_option maxHeartbeats 1000000 in
theorem two_row (m : Nat) (w : World) (hm : m < 65536) :
    Calls Try.prog 43 #[.int .i64 (m : Int)] w fun r w' => ∃ g, r = .returned (.slice (some ⟨g, 0, none⟩) 2 2) ∧ w.heap.size ≤ g ∧ RowIs w' g (lowB 2 m) ∧ Below w.heap.size w w' := by
  obtain ⟨i0, hi, hz0, hz1, hz2⟩ := info_parts info5
  have HZ := Lib.hid hz2
  clear hz2
  have e1 := (put2 m hm).2
  unfold putL at e1
  rw [(put2 m hm).1, if_pos rfl] at e1
  have hf : fitB m 2 = true := decide_eq_true (by show m < 256 ^ 2; omega)
  have HP := Lib.hid (fun W a n cap (h : IsB W (.slice a n cap) [0, 0]) => put_row a n cap [0, 0] 0 2 m W h (by simp) (by omega) (by omega) (by omega) (by omega) (by simp) hf)
  rw [e1] at HP
  clear e1
  generalize lowB 2 m = L at *
  go_enter Try.func43, Try.ntmps43
  go_wp2_with (at_make; refine wpList_make_full _ rfl (.const (.int .i64 2)) (.const (.int .i64 2)) 22 rfl w.heap.size 5 i0 (.int .u8 0) 1 Try.underlying22 hi hz0 hz1 .i64 .i64 _ _ 2 rfl rfl rfl rfl (by rw [HZ.out]; omega) (by unfold maxLen; omega) (by simp) ?_; intro w1 ho hg; refine Hid.out ?_)
  refine Lib.hid ?_
  rw [zeros2] at ho
  have hb1 : Below w.heap.size w w1 := (Below.refl _ _).grown hg (by simp) (fun k h => by cases h)
  have H1 := Lib.hid (HP.out w1 _ _ _ (IsB.of_owned ho))
  clear ho hg HP
  go_wp2_with (go_at_call 33; refine H1.out.mono ?_; rintro e w2 ⟨rfl, hr, hb2⟩)
  go_ret
  exact ⟨_, rfl, hb1.size, hr, below_up hb1 hb2 hb1.size⟩
end Go.Proofs.Ytchkbdgoghcgcaa
