/- The document's own answers for layer 1: there, Cut, Get. The document's own answers for layer 1: Bytes, Put. The document's own answers for layer 1: Digit, Hex. The document's own answers for layer 1: Digits, Number. The document's own answers for layer 1: Number. -/
import Derived.Test.YtlbgmpjeckigjaaDoorAwake
import Derived.Lib.Strings
import Derived.Deep.QuietTactic
import Derived.BigQuiet
import Derived.Test.YtlbgmpjeckigjaaDoorMathDecs
import Derived.Lib.ItoaLen
namespace Go.Proofs.YtlbgmpjeckigjaaDoor
open Go Go.RowKit

theorem extract_mk (s : ByteArray) (a b : Nat) : s.extract a b = ⟨((s.data.toList.drop a).take (b - a)).toArray⟩ := by
  have h := Lib.extract_data s a b
  cases hx : s.extract a b with
  | mk d =>
    rw [hx] at h
    congr 1
    rw [← h]

theorem inG_iff (l : List UInt8) (t z : Int) : inG l t z = (inC l t z && (decide (1 ≤ z) && decide (z ≤ 8))) := by
  unfold inG inC
  rw [Bool.eq_iff_iff]
  simp only [Bool.and_eq_true, decide_eq_true_iff]
  omega

end Go.Proofs.YtlbgmpjeckigjaaDoor
namespace Go.Proofs.YtlbgmpjeckigjaaDoor
open Go Go.RowKit

theorem conv_one (W : World) (x : Int) (b : UInt8) (hx : x = (b.toNat : Int)) : (convert 46 9 (.slice (some ⟨W.heap.size, 0, none⟩) 1 1)).run Tryd.prog (W.alloc (.cells #[.int .u8 x] 5)) = .ok (.string ⟨[b].toArray⟩) (W.alloc (.cells #[.int .u8 x] 5)) := by
  subst hx
  exact (isB_built W [b] _ rfl (by simp)).conv Tryd.underlying46 Tryd.underlying5 Tryd.underlying9

set_option maxHeartbeats 1000000 in
theorem rbytes_any (m z : Nat) (w : World) (hm : (m : Int) < 18446744073709551616) (hz : z ≤ 8) :
    Calls Tryd.prog 70 #[.int .u64 m, .int .i64 z] w fun e w' => e = .returned (.string ⟨(lowB z m).toArray⟩) ∧ Below w.heap.size w w' := by
  go_enter Tryd.func70, Tryd.ntmps70
  go_wp2
  go_loopw [0, 5, 6] (fun n s i wr => ∃ k : Nat, k ≤ z ∧ i = .int .i64 k ∧ n = .int .u64 ((m / 256 ^ k : Nat) : Int) ∧ s = .string ⟨(lowB k m).toArray⟩ ∧ Below w.heap.size w wr) (fun _ _ i _ => z - (intOf i).toNat)
  case atStart => exact ⟨0, Nat.zero_le _, rfl, by simp, rfl, Below.refl _ _⟩
  case round =>
    obtain ⟨k, hk, rfl, rfl, rfl, hbw⟩ := hrel
    by_cases hlt : k < z
    · have hpow : m / 256 ^ (k + 1) = m / 256 ^ k / 256 := by rw [Nat.pow_succ, Nat.div_div_eq_div_mul]
      have HW := Lib.hid hpow
      have hlen := lowB_length k m
      have hlow : lowB (k + 1) m = [UInt8.ofNat (m / 256 ^ k % 256)] ++ lowB k m := rfl
      have HL := Lib.hid hlow
      have hml : m / 256 ^ k ≤ m := Nat.div_le_self _ _
      have hle : (lowB k m).length ≤ 8 := by omega
      clear hpow hlow hlen
      generalize m / 256 ^ k = y at *
      generalize lowB k m = q at *
      have hconv := conv_one wr ((y : Int) % 256) (UInt8.ofNat (y % 256)) (by rw [toNat_ofNat_mod]; omega)
      go_wp2
      go_roundw
      case rel => exact ⟨k + 1, by omega, by go_num, by rw [HW.out]; rfl, by rw [HL.out]; exact congrArg Value.string (ByteArray.mk_append_mk [UInt8.ofNat (y % 256)] q), hbw.alloc hbw.size _⟩
      case measure => simp [intOf]; omega
    · go_wp2
      go_ret
      have : k = z := by omega
      subst this
      exact ⟨rfl, hbw⟩

theorem inP_no {l : List UInt8} {t z : Int} {m : Nat} (h : inG l t z = false) : inP l t z m = false ∧ putL l t z m = [] := by
  have e : inP l t z m = false := by unfold inP; rw [h]; rfl
  exact ⟨e, by unfold putL; rw [e]; rfl⟩

end Go.Proofs.YtlbgmpjeckigjaaDoor
namespace Go.Proofs.YtlbgmpjeckigjaaDoor
open Go Go.RowKit

/-- What the document's Digit answers. -/
def rdig (r : Int) : Int := if digB r 16 then digV r 16 else -1
theorem rdig_yes (r d : Int) (h : digW r 16 = d) (hd : d < 16) : rdig r = d := by
  have := digit_fin r 16 d h hd
  unfold rdig; rw [if_pos this.1, this.2]

set_option maxHeartbeats 1000000 in
theorem rdigit_any (r : Int) (w : World) (h0 : 0 ≤ r) (h1 : r ≤ 255) :
    Calls Tryd.prog 80 #[.int .u8 r] w fun e w' => e = .returned (.int .i64 (rdig r)) ∧ w = w' := by
  by_cases c1 : 48 ≤ r ∧ r ≤ 57
  · have e := rdig_yes r (r - 48) (by unfold digW; rw [if_pos c1]) (by omega)
    rw [e]
    obtain ⟨c1, c2⟩ := c1
    clear e
    go_enter Tryd.func80, Tryd.ntmps80
    go_wp2
    go_ret
    exact ⟨rfl, rfl⟩
  by_cases c2 : 97 ≤ r ∧ r ≤ 102
  · have e := rdig_yes r (r - 97 + 10) (by unfold digW; rw [if_neg c1, if_pos c2]) (by omega)
    rw [e]
    obtain ⟨c2, c4⟩ := c2
    have c5 : ¬ r ≤ 57 := by omega
    clear e c1
    go_enter Tryd.func80, Tryd.ntmps80
    go_wp2
    go_ret
    exact ⟨rfl, rfl⟩
  by_cases c3 : 65 ≤ r ∧ r ≤ 70
  · have e := rdig_yes r (r - 65 + 10) (by unfold digW; rw [if_neg c1, if_neg c2, if_pos c3]) (by omega)
    rw [e]
    obtain ⟨c3, c6⟩ := c3
    have c5 : ¬ r ≤ 57 := by omega
    have c7 : ¬ 97 ≤ r := by omega
    clear e c1 c2
    go_enter Tryd.func80, Tryd.ntmps80
    go_wp2
    go_ret
    exact ⟨rfl, rfl⟩
  have e : rdig r = -1 := by
    unfold rdig
    rw [(digit_none r 16 (by unfold digW; rw [if_neg c1, if_neg c2, if_neg c3]; omega)).1]
    rfl
  rw [e]
  clear e
  go_enter Tryd.func80, Tryd.ntmps80
  go_wp2
  all_goals first | (exfalso; omega) | (go_ret; exact ⟨rfl, rfl⟩)

/-- One sign of the row of digits. -/
theorem digs16_piece : ∀ i : Fin 16, (digs16.data.toList.drop i.val).take 1 = [hexDig i.val] := by decide
theorem digs16_extract (y : Nat) (h : y < 16) : (⟨#[48, 49, 50, 51, 52, 53, 54, 55, 56, 57, 97, 98, 99, 100, 101, 102]⟩ : ByteArray).extract y (y + 1) = ⟨[hexDig y].toArray⟩ := by
  show digs16.extract y (y + 1) = _
  rw [extract_mk, show y + 1 - y = 1 by omega, digs16_piece ⟨y, h⟩]

set_option maxHeartbeats 1000000 in
theorem rhex_any (s : ByteArray) (w : World) (hs : s.size ≤ 1000000) :
    Calls Tryd.prog 73 #[.string s] w fun e w' => e = .returned (.string ⟨(hexL s.data.toList).toArray⟩) ∧ Below w.heap.size w w' := by
  generalize hl : s.data.toList = l at *
  have hll : l.length = s.size := by rw [← hl]; rfl
  have hb : ∀ k (h : k < s.size), (s[k].toNat : Int) = byteAt l k := fun k h => by rw [← hl]; exact str_at s k h
  have HB := Lib.hid hb
  have HLL := Lib.hid hll
  clear hb hl hll
  go_enter Tryd.func73, Tryd.ntmps73
  go_wp2
  go_loopw [4, 5] (fun v i wr => ∃ k : Nat, k ≤ s.size ∧ i = .int .i64 k ∧ v = .string ⟨(hexL (l.take k)).toArray⟩ ∧ Below w.heap.size w wr) (fun _ i _ => s.size - (intOf i).toNat)
  case atStart => exact ⟨0, Nat.zero_le _, rfl, rfl, Below.refl _ _⟩
  case round =>
    obtain ⟨k, hk, rfl, rfl, hbw⟩ := hrel
    by_cases hlt : k < s.size
    · have hkl : k < l.length := by rw [HLL.out]; exact hlt
      have hsk := HB.out k hlt
      have b0 := byteAt_nonneg l k
      have b1 := byteAt_le l k
      have HS := Lib.hid (hexL_take_succ l k hkl)
      have hlen : (hexL (l.take k)).length ≤ 2000000 := by rw [hexL_length, List.length_take]; omega
      have x1 := digs16_extract ((byteAt l k).toNat / 16) (by omega)
      have x2 := digs16_extract ((byteAt l k).toNat % 16) (by omega)
      generalize hexL (l.take k) = q at *
      generalize hx : byteAt l k = x at *
      obtain ⟨x, rfl⟩ := Int.eq_ofNat_of_zero_le b0
      simp only [Int.toNat_natCast] at x1 x2 HS
      clear hx
      go_wp2
      go_quiet (fail)
      go_wp2
      go_roundw
      case rel => exact ⟨k + 1, by omega, by go_num, by rw [HS.out]; exact congrArg Value.string (by rw [ByteArray.mk_append_mk [hexDig (x / 16)] [hexDig (x % 16)], ByteArray.mk_append_mk]; rfl), below_drewN hbw nq⟩
      case measure => simp [intOf]; omega
    · go_wp2
      go_ret
      rw [List.take_of_length_le (by rw [HLL.out]; omega)]
      exact ⟨rfl, hbw⟩

theorem rdig_no {r : Int} (h : digB r 16 = false) : rdig r = -1 := by unfold rdig; rw [h]; rfl
theorem rdig_ok {r : Int} (h : digB r 16 = true) : rdig r = digV r 16 := by unfold rdig; rw [if_pos h]

theorem rhex_l (l : List UInt8) (w : World) (hs : l.length ≤ 1000000) :
    Calls Tryd.prog 73 #[.string ⟨l.toArray⟩] w fun e w' => e = .returned (.string ⟨(hexL l).toArray⟩) ∧ Below w.heap.size w w' := rhex_any ⟨l.toArray⟩ w hs
end Go.Proofs.YtlbgmpjeckigjaaDoor
namespace Go.Proofs.YtlbgmpjeckigjaaDoor
open Go Go.RowKit

def digs10 : ByteArray := ⟨#[48, 49, 50, 51, 52, 53, 54, 55, 56, 57]⟩
theorem digs10_piece : ∀ i : Fin 10, (digs10.data.toList.drop i.val).take 1 = [UInt8.ofNat (48 + i.val)] := by decide
theorem digs10_extract (y : Nat) (h : y < 10) : (⟨#[48, 49, 50, 51, 52, 53, 54, 55, 56, 57]⟩ : ByteArray).extract y (y + 1) = ⟨[UInt8.ofNat (48 + y)].toArray⟩ := by
  show digs10.extract y (y + 1) = _
  rw [extract_mk, show y + 1 - y = 1 by omega, digs10_piece ⟨y, h⟩]

set_option maxHeartbeats 1000000 in
theorem rdigits_pos (u : Nat) (w : World) (hu : (u : Int) ≤ 9223372036854775807) :
    Calls Tryd.prog 34 #[.int .i64 u] w fun e w' => e = .returned (.string ⟨(Lib.decDigits u).toArray⟩) ∧ w = w' := by
  have hlen : (Lib.decDigits u).length ≤ 1000 := by
    rw [Lib.decDigits_length]; have := Lib.nDigits_le20 u (by omega); omega
  generalize hD : Lib.decDigits u = D at *
  have HD := Lib.hid hD
  clear hD
  go_enter Tryd.func34, Tryd.ntmps34
  go_wp2
  go_loop [0, 5] (fun n s => ∃ (v : Nat) (acc : List UInt8), n = .int .i64 v ∧ s = .string ⟨acc.toArray⟩ ∧ Lib.decDigits v ++ acc = D ∧ v ≤ u) (fun n _ => (intOf n).toNat)
  case atStart => exact ⟨u, [], rfl, rfl, by rw [HD.out, List.append_nil], Nat.le_refl _⟩
  case round =>
    obtain ⟨v, acc, rfl, rfl, hacc, hv⟩ := hrel
    have hal : acc.length ≤ 1000 := by rw [← hacc, List.length_append] at hlen; omega
    have HA := Lib.hid hacc
    clear hacc
    have x1 := digs10_extract (v % 10) (by omega)
    obtain ⟨c, hc⟩ : ∃ c, UInt8.ofNat (48 + v % 10) = c := ⟨_, rfl⟩
    rw [hc] at x1
    have HC := Lib.hid hc
    clear hc
    by_cases h10 : v < 10
    · have hz : ((v : Int) / 10 == 0) = true := by rw [beq_iff_eq]; omega
      go_wp2
      go_ret
      refine ⟨?_, rfl⟩
      have e : [c] ++ acc = D := by rw [← HA.out, decD_small h10, ← HC.out, Nat.mod_eq_of_lt h10]
      rw [← e, ← ByteArray.mk_append_mk]
      rfl
    · have hz : ((v : Int) / 10 == 0) = false := by rw [beq_eq_false_iff_ne]; omega
      go_wp2
      go_round
      case rel => exact ⟨v / 10, [c] ++ acc, by go_num, congrArg Value.string (ByteArray.mk_append_mk [c] acc), by rw [← List.append_assoc, ← HC.out, ← decD_big (by omega)]; exact HA.out, by omega⟩
      case measure => simp [intOf]; omega

theorem tmod_neg10 (v : Nat) : (-(v : Int)).tmod 10 = -((v % 10 : Nat) : Int) := by rw [Int.neg_tmod, Int.tmod_eq_emod_of_nonneg (by omega)]; omega
theorem tdiv_negN (v : Nat) : (-(v : Int)).tdiv 10 = -((v / 10 : Nat) : Int) := by rw [Int.neg_tdiv, Int.tdiv_eq_ediv_of_nonneg (by omega)]; omega

set_option maxHeartbeats 1000000 in
theorem rdigits_neg (u : Nat) (w : World) (hu1 : 1 ≤ u) (hu : u ≤ 9223372036854775808) :
    Calls Tryd.prog 34 #[.int .i64 (-(u : Int))] w fun e w' => e = .returned (.string ⟨(45 :: Lib.decDigits u).toArray⟩) ∧ w = w' := by
  have hlen : (Lib.decDigits u).length ≤ 1000 := by
    rw [Lib.decDigits_length]; have := Lib.nDigits_le20 u (by omega); omega
  generalize hD : Lib.decDigits u = D at *
  have HD := Lib.hid hD
  obtain ⟨x, hx⟩ : ∃ x : Int, -(u : Int) = x := ⟨_, rfl⟩
  rw [hx]
  have HX := Lib.hid hx
  have hx0 : x < 0 := by omega
  have hx1 : -9223372036854775808 ≤ x := by omega
  clear hD hx
  go_enter Tryd.func34, Tryd.ntmps34
  go_wp2
  go_loop [0, 3, 4] (fun n s _ => ∃ (v : Nat) (y : Int) (acc : List UInt8), n = .int .i64 y ∧ s = .string ⟨acc.toArray⟩ ∧ y = -(v : Int) ∧ (v = 0 → acc = D) ∧ (1 ≤ v → Lib.decDigits v ++ acc = D) ∧ v ≤ u ∧ acc.length ≤ 1000) (fun n _ _ => (-intOf n).toNat)
  case atStart => exact ⟨u, x, [], rfl, rfl, HX.out.symm, fun h => by omega, fun _ => by rw [HD.out, List.append_nil], Nat.le_refl _, by simp⟩
  case round =>
    obtain ⟨v, y, acc, rfl, rfl, hy, h0, h1, hv, hal⟩ := hrel
    have H0 := Lib.hid h0
    have H1 := Lib.hid h1
    have hy1 : -9223372036854775808 ≤ y := by omega
    have ht : y.tmod 10 = -((v % 10 : Nat) : Int) := by rw [hy, tmod_neg10]
    have hq : y.tdiv 10 = -((v / 10 : Nat) : Int) := by rw [hy, tdiv_negN]
    obtain ⟨r, hr⟩ : ∃ r, v % 10 = r := ⟨_, rfl⟩
    have hr9 : r < 10 := by omega
    rw [hr] at ht
    obtain ⟨v', hv'⟩ : ∃ v', v / 10 = v' := ⟨_, rfl⟩
    rw [hv'] at hq
    have HR := Lib.hid hr
    have HV := Lib.hid hv'
    have HY := Lib.hid hy
    have hvv : v' ≤ v := by omega
    have x1 := digs10_extract r hr9
    rw [Nat.add_comm r 1] at x1
    obtain ⟨c, hc⟩ : ∃ c, UInt8.ofNat (48 + r) = c := ⟨_, rfl⟩
    rw [hc] at x1
    have HC := Lib.hid hc
    by_cases hneg : y < 0
    · have hlt : v' < v := by omega
      have hb : v' ≤ 922337203685477580 := by omega
      have n0 : v' = 0 → [c] ++ acc = D := fun h => by
        have e := H1.out (by omega)
        rw [decD_small (show v < 10 by omega)] at e
        rw [← e, ← HC.out, ← HR.out, Nat.mod_eq_of_lt (show v < 10 by omega)]
      have n1 : 1 ≤ v' → Lib.decDigits v' ++ ([c] ++ acc) = D := fun h => by
        have e := H1.out (by omega)
        rw [decD_big (show 10 ≤ v by omega), HV.out, HR.out, HC.out, List.append_assoc] at e
        exact e
      have nl : ([c] ++ acc).length ≤ 1000 := by
        rcases Nat.eq_zero_or_pos v' with h | h
        · rw [n0 h]; exact hlen
        · have := congrArg List.length (n1 h)
          rw [List.length_append] at this
          omega
      have N0 := Lib.hid n0
      have N1 := Lib.hid n1
      have NL := Lib.hid nl
      have hst := ByteArray.mk_append_mk [c] acc
      have HST := Lib.hid hst
      clear hr hv' hy hc h0 h1 n0 n1 nl hst
      go_wp2
      go_round
      case rel => exact ⟨v', -(v' : Int), [c] ++ acc, rfl, congrArg Value.string HST.out, rfl, N0.out, N1.out, by omega, NL.out⟩
      case measure => have := HY.out; simp [intOf]; omega
    · clear hr hv' hc h0 h1 ht hq
      have hv0 : v = 0 := by omega
      have hD2 := H0.out hv0
      clear hy
      go_wp2
      go_ret
      refine ⟨?_, rfl⟩
      have e := ByteArray.mk_append_mk [45] D
      rw [show (45 :: D) = [45] ++ D from rfl, ← e]
      rfl

theorem rdigits_any (n : Int) (w : World) (h0 : -9223372036854775808 ≤ n) (h1 : n ≤ 9223372036854775807) :
    Calls Tryd.prog 34 #[.int .i64 n] w fun e w' => e = .returned (.string ⟨(Lib.itoa n).toArray⟩) ∧ w = w' := by
  by_cases hn : 0 ≤ n
  · obtain ⟨u, rfl⟩ := Int.eq_ofNat_of_zero_le hn
    rw [itoa_nn hn]
    exact rdigits_pos u w h1
  · obtain ⟨u, hu⟩ : ∃ u : Nat, n = -(u : Int) := ⟨(-n).toNat, by omega⟩
    subst hu
    have e : Lib.itoa (-(u : Int)) = 45 :: Lib.decDigits u := by
      unfold Lib.itoa
      rw [if_pos (by omega), show (-(u : Int)).natAbs = u by omega]
    rw [e]
    exact rdigits_neg u w (by omega) (by omega)
end Go.Proofs.YtlbgmpjeckigjaaDoor
namespace Go.Proofs.YtlbgmpjeckigjaaDoor
open Go Go.RowKit

/-- A fact kept from the walk, whatever it unfolds. -/
structure Held (p : Prop) : Prop where
  out : p

set_option maxHeartbeats 2000000 in
theorem rnumber_any (s : ByteArray) (most : Int) (w : World) (hs : s.size ≤ 1000000) (hm1 : most ≤ 9223372036854775807) :
    Calls Tryd.prog 43 #[.string s, .int .i64 most] w fun e w' => e = .returned (.tuple #[.int .i64 (numV s.data.toList most), .bool (numB s.data.toList most)]) ∧ w = w' := by
  generalize hl : s.data.toList = l at *
  have hll : l.length = s.size := by rw [← hl]; rfl
  have hb : ∀ k (h : k < s.size), (s[k].toNat : Int) = byteAt l k := fun k h => by rw [← hl]; exact str_at s k h
  have HM : Held (most ≤ 9223372036854775807) := ⟨hm1⟩
  by_cases h0 : s.size = 0
  · have e : l = [] := List.eq_nil_of_length_eq_zero (by rw [hll]; exact h0)
    have e2 : s.toList.isEmpty = true := by rw [ByteArray.toList_eq, hl, e]; rfl
    rw [e, numV_no (numB_empty _), numB_empty]
    clear e h0 hb hll hl hm1
    go_enter Tryd.func43, Tryd.ntmps43
    go_wp2
    go_ret2
    exact ⟨rfl, rfl⟩
  have hne : l ≠ [] := fun e => by rw [e] at hll; exact h0 hll.symm
  have e2 : s.toList.isEmpty = false := by
    rw [ByteArray.toList_eq, hl, List.isEmpty_eq_false_iff]
    exact hne
  by_cases h19 : 19 < s.size
  · have e := numB_long (l := l) (most := most) (by rw [hll]; exact h19) hm1
    rw [numV_no e, e]
    clear e h0 hb hll hl hm1 hne
    go_enter Tryd.func43, Tryd.ntmps43
    go_wp2
    go_ret2
    exact ⟨rfl, rfl⟩
  have HB := Lib.hid hb
  have HLL := Lib.hid hll
  have HNE := Lib.hid hne
  have HL := Lib.hid hl
  clear hb hll hl hm1 hne h0
  go_enter Tryd.func43, Tryd.ntmps43
  go_wp2
  go_loop [6, 7, 8] (fun n i _ => ∃ k : Nat, k ≤ s.size ∧ i = .int .i64 k ∧ n = .int .i64 (decV (l.take k)) ∧ (l.take k).all isDec = true ∧ Held (decV (l.take k) ≤ 9223372036854775807)) (fun _ i _ => s.size - (intOf i).toNat)
  case atStart => exact ⟨0, Nat.zero_le _, rfl, rfl, rfl, ⟨show (0 : Int) ≤ _ by decide⟩⟩
  case round =>
    obtain ⟨k, hk, rfl, rfl, hall, hnm⟩ := hrel
    by_cases hlt : k < s.size
    · have hkl : k < l.length := by rw [HLL.out]; exact hlt
      have hsk := HB.out k hlt
      have hn0 := decV_nonneg _ hall
      have b0 := byteAt_nonneg l k
      have b1 := byteAt_le l k
      by_cases hd : 48 ≤ byteAt l k ∧ byteAt l k ≤ 57
      · have hds := decV_take_succ l k hkl
        have HDS := Lib.hid hds
        have HA := Lib.hid (all_take_succ l k hkl hall ((isDec_iff _).2 hd))
        obtain ⟨hd1, hd2⟩ := hd
        have hgr := fun (h : most < decV (l.take (k + 1))) => numB_great (l := l) (most := most) (k + 1) h
        have HGR := Lib.hid hgr
        clear hds hall hgr
        generalize decV (l.take k) = n at *
        generalize byteAt l k = b at *
        have hnm2 := hnm.out
        by_cases hov : (9223372036854775807 - (b - 48)) / 10 < n
        · have hno := HGR.out (by rw [HDS.out]; have := HM.out; omega)
          have HNo := Lib.hid hno
          clear hno
          go_wp2
          go_ret2
          rw [HNo.out, numV_no HNo.out]
          exact ⟨rfl, rfl⟩
        · go_wp2
          go_round
          case rel => exact ⟨k + 1, by omega, by go_num, by rw [HDS.out]; exact congrArg (Value.int .i64) (by omega), HA.out, ⟨by rw [HDS.out]; omega⟩⟩
          case measure => simp [intOf]; omega
      · have HNo := Lib.hid (numB_sign (most := most) k hkl hd)
        clear hall
        generalize decV (l.take k) = n at *
        generalize byteAt l k = b at *
        by_cases hlo : b < 48
        · clear hd
          go_wp2
          go_ret2
          rw [HNo.out, numV_no HNo.out]
          exact ⟨rfl, rfl⟩
        · have hhi : 57 < b := by omega
          clear hd
          go_wp2
          go_ret2
          rw [HNo.out, numV_no HNo.out]
          exact ⟨rfl, rfl⟩
    · have ek : l.take k = l := List.take_of_length_le (by rw [HLL.out]; omega)
      rw [ek] at hall hnm ⊢
      have hn0 := decV_nonneg _ hall
      have hib := numB_itoa (most := most) hall HNE.out
      have HD := Lib.hid (fun W => rdigits_any (decV l) W (by omega) hnm.out)
      have HIB := Lib.hid hib
      have hVV := fun (h : numB l most = true) => numV_yes h
      have HVV := Lib.hid hVV
      clear hib hall ek hVV
      generalize decV l = n at *
      generalize Lib.itoa n = I at *
      go_wp2_with (go_at_call 34; refine (HD.out _).mono ?_; rintro e w' ⟨rfl, rfl⟩)
      · have hmn : most < n := by assumption
        have hB : numB l most = false := by rw [HIB.out, decide_eq_false (show ¬ n ≤ most by omega), Bool.and_false]
        go_ret2
        rw [hB, numV_no hB]
        exact ⟨rfl, rfl⟩
      · have hi : I = s.toList := by assumption
        have hmn : n ≤ most := by assumption
        have hB : numB l most = true := by
          rw [HIB.out, decide_eq_true (show I = l by rw [hi, ByteArray.toList_eq, HL.out]), decide_eq_true hmn]
          rfl
        go_ret2
        rw [hB, HVV.out hB]
        exact ⟨rfl, rfl⟩
      · have hi : ¬ I = s.toList := by assumption
        have hB : numB l most = false := by
          rw [HIB.out, decide_eq_false (show ¬ I = l by rw [← HL.out, ← ByteArray.toList_eq]; exact hi)]
          rfl
        go_ret2
        rw [hB, numV_no hB]
        exact ⟨rfl, rfl⟩
end Go.Proofs.YtlbgmpjeckigjaaDoor
