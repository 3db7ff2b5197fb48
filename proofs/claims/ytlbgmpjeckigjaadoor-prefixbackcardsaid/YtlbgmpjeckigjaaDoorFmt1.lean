/- What the walks of package colon are told of the program's variables; strconv.FormatInt of a group, in digits of 16. -/
import Derived.Test.YtlbgmpjeckigjaaDoorM7b
import Derived.Test.YtlbgmpjeckigjaaDoorArrI
import Derived.Test.YtlbgmpjeckigjaaDoorAwake
import Derived.Test.YtlbgmpjeckigjaaDoorShelf
namespace Go.Proofs.YtlbgmpjeckigjaaDoor
open Go Go.RowKit

/-- Two variables of Go's library: one holds some number, of the other one cell is told. -/
structure Env (w : World) : Prop where
  max : ∃ m, w.cell? ⟨0, 0, none⟩ = some (.int .i64 m)
  maxLt : 0 < w.heap.size
  tz : w.cell? ⟨3, 15, none⟩ = some (.int .u8 4)
  tzLt : 3 < w.heap.size
theorem Env.below {w w' : World} (h : Env w) {B : Nat} (hb : Below B w w') (hB : w.heap.size ≤ B) : Env w' := by
  obtain ⟨m, hm⟩ := h.max
  have h1 := h.maxLt
  have h2 := h.tzLt
  have h3 := hb.size
  refine ⟨⟨m, ?_⟩, by omega, ?_, by omega⟩
  · rw [hb.cell (p := ⟨0, 0, none⟩) (by show 0 < B; omega)]; exact hm
  · rw [hb.cell (p := ⟨3, 15, none⟩) (by show 3 < B; omega)]; exact h.tz
theorem Env.up {w w' : World} (h : Env w) (hb : Below w.heap.size w w') : Env w' := h.below hb (Nat.le_refl _)

theorem tz64_any (w : World) (h : Env w) :
    Calls Tryd.prog 95 #[.int .u64 16] w fun e w' => e = .returned (.int .i64 4) ∧ w = w' := by
  have hc := h.tz
  go_enter Tryd.func95, Tryd.ntmps95
  have hq : IntKind.u64.wrap (bits BinOp.and IntKind.u64 16 (IntKind.u64.wrap (-16)) * 285870213051353865) / 288230376151711744 = 15 := by decide +kernel
  go_wp2
  go_ret
  exact ⟨rfl, rfl⟩
theorem tz_any (w : World) (h : Env w) :
    Calls Tryd.prog 92 #[.int .u64 16] w fun e w' => e = .returned (.int .i64 4) ∧ w = w' := by
  go_enter Tryd.func92, Tryd.ntmps92
  go_wp2_with (go_at_call 95; refine (tz64_any _ h).mono ?_; rintro e w' ⟨rfl, rfl⟩)
  go_ret
  exact ⟨rfl, rfl⟩
theorem pow2_any (w : World) :
    Calls Tryd.prog 91 #[.int .i64 16] w fun e w' => e = .returned (.bool true) ∧ w = w' := by
  go_enter Tryd.func91, Tryd.ntmps91
  go_wp2
  go_ret
  exact ⟨rfl, rfl⟩
theorem ofInt_i64_7 (a : Nat) (ha : a < 65536) : (BitVec.ofInt 64 (a : Int)).toNat = a := by
  rw [BitVec.ofInt_natCast, BitVec.toNat_ofNat]; exact Nat.mod_eq_of_lt (by omega)
theorem i64_or_small7 (a b : Nat) (ha : a < 65536) (hb : b < 65536) : bits .or .i64 (a : Int) (b : Int) = ((a ||| b : Nat) : Int) := by
  have hx : a ||| b < 2 ^ 16 := Nat.or_lt_two_pow (by omega) (by omega)
  show IntKind.i64.wrap ((BitVec.ofInt 64 (a : Int) ||| BitVec.ofInt 64 (b : Int)).toNat : Int) = _
  rw [BitVec.toNat_or, ofInt_i64_7 a ha, ofInt_i64_7 b hb, IntKind.wrap_i64]
  omega
theorem u64_and15 (m : Nat) (h : m < 65536) : bits .and .u64 (m : Int) 15 = ((m % 16 : Nat) : Int) := by
  have hx : m &&& 15 = m % 16 := Nat.and_two_pow_sub_one_eq_mod m 4
  show IntKind.u64.wrap ((BitVec.ofInt 64 (m : Int) &&& BitVec.ofInt 64 ((15 : Nat) : Int)).toNat : Int) = _
  rw [BitVec.toNat_and, ofInt_i64_7 m h, ofInt_i64_7 15 (by omega), hx, IntKind.wrap_u64]
  omega
theorem or_pair (X Y : Nat) (hx : X < 256) (hy : Y < 256) : bits BinOp.or IntKind.i64 ((X : Int) * 256) (Y : Int) = ((X * 256 + Y : Nat) : Int) := by
  have e : (X : Int) * 256 = ((X * 256 : Nat) : Int) := by omega
  rw [e, i64_or_small7 _ _ (by omega) (by omega)]
  congr 1
  have := Nat.two_pow_add_eq_or_of_lt (i := 8) (b := Y) (by omega) X
  rw [Nat.mul_comm X 256]
  exact this.symm
theorem pair_any (x y : UInt8) (w : World) :
    Calls Tryd.prog 62 #[.int .u8 (x.toNat : Int), .int .u8 (y.toNat : Int)] w fun e w' => e = .returned (.int .i64 ((x.toNat * 256 + y.toNat : Nat) : Int)) ∧ w = w' := by
  have hx := UInt8.toNat_lt x
  have hy := UInt8.toNat_lt y
  generalize x.toNat = X at *
  generalize y.toNat = Y at *
  have ho := or_pair X Y (by omega) (by omega)
  go_enter Tryd.func62, Tryd.ntmps62
  go_wp2
  go_ret

  exact ⟨rfl, rfl⟩
def digs36 : ByteArray := ⟨#[48, 49, 50, 51, 52, 53, 54, 55, 56, 57, 97, 98, 99, 100, 101, 102, 103, 104, 105, 106, 107, 108, 109, 110, 111, 112, 113, 114, 115, 116, 117, 118, 119, 120, 121, 122]⟩
theorem digs36_fin : ∀ i : Fin 16, digs36.data.toList.getD i.val 0 = hexDig i.val := by decide
theorem digs36_at (y : Nat) (h1 : y < 16) (w : World) : (Instr.index 9 (.string ⟨#[48, 49, 50, 51, 52, 53, 54, 55, 56, 57, 97, 98, 99, 100, 101, 102, 103, 104, 105, 106, 107, 108, 109, 110, 111, 112, 113, 114, 115, 116, 117, 118, 119, 120, 121, 122]⟩) (.int .u64 (y : Int))).run Tryd.prog w = .ok (.int .u8 ((hexDig y).toNat : Int)) w := by
  show (Instr.index 9 (.string digs36) (.int .u64 (y : Int))).run Tryd.prog w = _
  have hsz : digs36.size = 36 := rfl
  rw [run_index_string w 9 digs36 .u64 _ Tryd.underlying9, dif_pos ⟨by omega, by rw [hsz]; omega⟩]
  have e := digs36_fin ⟨y, h1⟩
  have e2 := str_at digs36 y (by rw [hsz]; omega)
  simp only [Int.toNat_natCast]
  rw [e2, byteAt, e]
theorem ArrT.tailB {t : TypeId} {w : World} {g : Nat} {c : List UInt8} (h : ArrT t w g c) (k : Nat) (hk : k < c.length) (hc : c.length ≤ 1000) : IsB w (.slice (some ⟨g, k, none⟩) (c.length - k) (c.length - k)) (c.drop k) := by
  refine ⟨some ⟨g, k, none⟩, c.length - k, by rw [List.length_drop], by rw [List.length_drop]; exact Nat.le_refl _, by unfold maxLen; omega, fun _ => ⟨g, k, rfl, h.lt, fun i hi => ?_⟩⟩
  rw [List.length_drop] at hi
  rw [byteAt_drop]
  exact h.cell (k + i) (by omega)
theorem arr65 : IsArr 101 65 := ⟨by kernel_rfl, Tryd.underlying101, by kernel_rfl⟩
/-- What the buffer holds: zeros, then digits. -/
def buf (D : List UInt8) : List UInt8 := List.replicate (65 - D.length) 0 ++ D
theorem buf_length (D : List UInt8) (h : D.length ≤ 65) : (buf D).length = 65 := by simp [buf]; omega
theorem buf_set (D : List UInt8) (x : UInt8) (h : D.length < 65) : (buf D).set (64 - D.length) x = buf (x :: D) := by
  unfold buf
  rw [List.length_cons, List.set_append, if_pos (by simp; omega)]
  have e : List.replicate (65 - D.length) (0 : UInt8) = List.replicate (64 - D.length) 0 ++ [0] := by
    rw [show 65 - D.length = (64 - D.length) + 1 by omega, List.replicate_succ']
  rw [e, List.set_append, if_neg (by simp)]
  simp
theorem buf_drop (D : List UInt8) : (buf D).drop (65 - D.length) = D := by
  unfold buf
  rw [List.drop_append]
  simp
set_option maxRecDepth 100000 in
set_option maxHeartbeats 4000000 in
theorem bits16_any (n : Nat) (hn : n ≤ 65535) (w : World) (hE : Env w) :
    Calls Tryd.prog 84 #[.slice none 0 0, .int .u64 (n : Int), .int .i64 16, .bool false, .bool false] w fun e w' => e = .returned (.tuple #[.slice none 0 0, .string ⟨(hexR 3 n).toArray⟩]) ∧ Below w.heap.size w w' := by
  have zb : Below w.heap.size w (w.alloc (.cells (byteVals (buf [])).toArray 101)) := (Below.refl _ _).alloc (Nat.le_refl _) _
  have z0 : ArrT 101 (w.alloc (.cells (byteVals (buf [])).toArray 101)) w.heap.size (buf []) := arrT_new w _
  have zE := hE.up zb
  have hb0 : (byteVals (buf [])).toArray = (Array.replicate 65 (Value.int .u8 0)) := by kernel_rfl
  go_enter Tryd.func84, Tryd.ntmps84
  go_wp2_with (first | (go_at_call 91; refine (pow2_any _).mono ?_; rintro e w' ⟨rfl, rfl⟩) | (go_at_call 92; refine (tz_any _ zE).mono ?_; rintro e w' ⟨rfl, rfl⟩))
  rw [hb0] at zb z0
  have Z := Lib.hid (And.intro z0 zb)
  clear z0 zb zE hb0
  go_loopw [1, 13] (fun u i wr => ∃ (U j : Nat) (D : List UInt8), u = .int .u64 (U : Int) ∧ i = .int .i64 ((j : Int) + 1) ∧ j + 1 + D.length = 65 ∧ D.length ≤ 3 ∧ U < 16 ^ (4 - D.length) ∧ U ≤ 65535 ∧ hexR 3 n = hexR (3 - D.length) U ++ D ∧ ArrT 101 wr w.heap.size (buf D) ∧ Below w.heap.size w wr) (fun u _ _ => (intOf u).toNat)
  case atStart => exact ⟨n, 64, [], rfl, rfl, rfl, by simp, by simp; omega, hn, by simp, Z.out.1, Z.out.2⟩
  case round =>
    obtain ⟨U, j, D, rfl, rfl, hj, hD, hU, hU2, hR, hA, hb⟩ := hrel
    clear Z
    have hcell := hA.cell j (by rw [buf_length D (by omega)]; omega)
    have hfr := hA.frozen j
    have hjj : j = 64 - D.length := by omega
    by_cases hlt : U < 16
    · have hix := digs36_at U hlt
      have hst := hA.store j ((hexDig U).toNat : Int) (hexDig U) rfl
      rw [hjj, buf_set D _ (by omega), ← hjj] at hst
      have HB := hst.tailB j (by rw [buf_length _ (by simp; omega)]; omega) (by rw [buf_length _ (by simp; omega)]; omega)
      have hdr : (buf (hexDig U :: D)).drop j = hexR 3 n := by
        have e := buf_drop (hexDig U :: D)
        rw [List.length_cons, show 65 - (D.length + 1) = j by omega] at e
        rw [e, hR, hexR_small _ _ hlt]
        rfl
      rw [buf_length _ (by simp; omega), hdr] at HB
      have hcv := HB.conv (P := Tryd.prog) Tryd.underlying46 Tryd.underlying5 Tryd.underlying9
      have HBB : Hid (∀ x, Below w.heap.size w (wr.setCell ⟨w.heap.size, j, none⟩ x)) := fun x => hb.setCell (by simp) _
      have hj64 : j ≤ 64 := by omega
      have HJ := Lib.hid hj
      have hsl : ∀ W, (Instr.sliceAt 101 (.pointer (some ⟨w.heap.size, 0, none⟩)) (some (.int .i64 (j : Int))) none none).run Tryd.prog W = .ok (.slice (some ⟨w.heap.size, j, none⟩) (65 - j) (65 - j)) W := fun W => by
        rw [slice_from arr65.row size_u8 W w.heap.size j (by omega), if_neg (by omega)]
      generalize hT : hexR 3 n = T at *
      have HT := Lib.hid hT
      clear hA hb hst hjj HB hdr hR hU hD hj hT
      go_wp2
      go_ret2
      exact ⟨by rw [HT.out]; rfl, HBB.out _⟩
    · have hlt2 : ¬ (U : Int) < 16 := by omega
      have hD2 : D.length ≤ 2 := by
        rcases Nat.lt_or_ge 2 D.length with h | h
        · have h3 : D.length = 3 := by omega
          rw [h3] at hU
          omega
        · exact h
      have hR2 : hexR 3 n = hexR (3 - (hexDig (U % 16) :: D).length) (U / 16) ++ (hexDig (U % 16) :: D) := by
        rw [hR, List.length_cons, show 3 - D.length = (3 - (D.length + 1)) + 1 by omega, hexR_great _ _ hlt, List.append_assoc]
        rfl
      have hU3 : U / 16 < 16 ^ (4 - (hexDig (U % 16) :: D).length) := by
        rw [List.length_cons]
        rw [show 4 - D.length = (4 - (D.length + 1)) + 1 by omega, Nat.pow_succ] at hU
        exact Nat.div_lt_of_lt_mul (by rw [Nat.mul_comm]; exact hU)
      obtain ⟨i, rfl⟩ : ∃ i, j = i + 1 := ⟨j - 1, by omega⟩
      have hst := hA.store (i + 1) ((hexDig (U % 16)).toNat : Int) (hexDig (U % 16)) rfl
      rw [hjj, buf_set D _ (by omega), ← hjj] at hst
      have hand := u64_and15 U (by omega)
      have hix := digs36_at (U % 16) (by omega)
      obtain ⟨y, hy⟩ : ∃ y, U % 16 = y := ⟨_, rfl⟩
      rw [hy] at hR2 hU3 hst hand hix
      have HST := Lib.hid hst
      have HR := Lib.hid (And.intro hR2 (And.intro hU3 (And.intro hj hD2)))
      have HBB : Hid (∀ x, Below w.heap.size w (wr.setCell ⟨w.heap.size, i + 1, none⟩ x)) := fun x => hb.setCell (by simp) _
      have hi : i ≤ 63 := by omega
      clear hA hb hst hR2 hU3 hR hU hD hD2 hj hjj hy
      go_wp2
      go_roundw
      case rel => exact ⟨U / 16, i, hexDig y :: D, by go_num, by go_num, by have := HR.out.2.2.1; simp; omega, by have := HR.out.2.2.2; simp; omega, HR.out.2.1, by omega, HR.out.1, HST.out, HBB.out _⟩
      case measure => simp [intOf]; omega
set_option maxRecDepth 100000 in
set_option maxHeartbeats 1000000 in
theorem ifmt16_any (n : Nat) (hn : n ≤ 65535) (w : World) (hE : Env w) :
    Calls Tryd.prog 72 #[.int .i64 (n : Int), .int .i64 16] w fun e w' => e = .returned (.string ⟨(hexG n).toArray⟩) ∧ Below w.heap.size w w' := by
  have HB := Lib.hid (bits16_any n hn w hE)
  rw [← hexG_R n hn] at HB
  have h0 : (n : Int) ≤ 65535 := by omega
  go_enter Tryd.func72, Tryd.ntmps72
  go_wp2_with (go_at_call 84; refine HB.out.mono ?_; rintro e w' ⟨rfl, bb⟩)
  go_ret
  exact ⟨rfl, bb⟩
set_option maxRecDepth 100000 in
theorem fmt16_any (n : Nat) (hn : n ≤ 65535) (w : World) (hE : Env w) :
    Calls Tryd.prog 63 #[.int .i64 (n : Int), .int .i64 16] w fun e w' => e = .returned (.string ⟨(hexG n).toArray⟩) ∧ Below w.heap.size w w' := by
  have HB := Lib.hid (ifmt16_any n hn w hE)
  go_enter Tryd.func63, Tryd.ntmps63
  go_wp2_with (go_at_call 72; refine HB.out.mono ?_; rintro e w' ⟨rfl, bb⟩)
  go_ret
  exact ⟨rfl, bb⟩
end Go.Proofs.YtlbgmpjeckigjaaDoor
