/- The document's own answers for layer 1: Digits, Number. -/
import Derived.Test.YteomoipbjkafgaaDoorRef3
import Derived.Test.YteomoipbjkafgaaDoorMathDec2
import Derived.Lib.ItoaLen
namespace Go.Proofs.YteomoipbjkafgaaDoor
open Go Go.RowKit

def digs10 : ByteArray := ⟨#[48, 49, 50, 51, 52, 53, 54, 55, 56, 57]⟩
theorem digs10_piece : ∀ i : Fin 10, (digs10.data.toList.drop i.val).take 1 = [UInt8.ofNat (48 + i.val)] := by decide
theorem digs10_extract (y : Nat) (h : y < 10) : (⟨#[48, 49, 50, 51, 52, 53, 54, 55, 56, 57]⟩ : ByteArray).extract y (y + 1) = ⟨[UInt8.ofNat (48 + y)].toArray⟩ := by
  show digs10.extract y (y + 1) = _
  rw [extract_mk, show y + 1 - y = 1 by omega, digs10_piece ⟨y, h⟩]

set_option maxHeartbeats 1000000 in
theorem rdigits_pos (u : Nat) (w : World) (hu : (u : Int) ≤ 9223372036854775807) :
    Calls Tryd.prog 57 #[.int .i64 u] w fun e w' => e = .returned (.string ⟨(Lib.decDigits u).toArray⟩) ∧ w = w' := by
  have hlen : (Lib.decDigits u).length ≤ 1000 := by
    rw [Lib.decDigits_length]; have := Lib.nDigits_le20 u (by omega); omega
  generalize hD : Lib.decDigits u = D at *
  have HD := Lib.hid hD
  clear hD
  go_enter Tryd.func57, Tryd.ntmps57
  go_wp2
  go_loop [0, 5] (fun n s => ∃ (v : Nat) (acc : List UInt8), n = .int .i64 v ∧ s = .string ⟨acc.toArray⟩ ∧ Lib.decDigits v ++ acc = D ∧ v ≤ u) (fun n _ => (intOf n).toNat)
  case atStart => exact ⟨u, [], rfl, rfl, by rw [HD.out, List.append_nil], Nat.le_refl _⟩
  case round =>
    obtain ⟨v, acc, rfl, rfl, hacc, hv⟩ := hrel
    have hal : acc.length ≤ 1000 := by rw [← hacc, List.length_append] at hlen; omega
    have HA := Lib.hid hacc
    clear hacc
    have x1 := digs10_extract (v % 10) (by omega)
    obtain ⟨c, hc⟩ : ∃ c, UInt8.ofNat (48 + v % 10) = c := ⟨_, rfl⟩
    rw [hc] at x1
    have HC := Lib.hid hc
    clear hc
    by_cases h10 : v < 10
    · have hz : ((v : Int) / 10 == 0) = true := by rw [beq_iff_eq]; omega
      go_wp2
      go_ret
      refine ⟨?_, rfl⟩
      have e : [c] ++ acc = D := by rw [← HA.out, decD_small h10, ← HC.out, Nat.mod_eq_of_lt h10]
      rw [← e, ← ByteArray.mk_append_mk]
      rfl
    · have hz : ((v : Int) / 10 == 0) = false := by rw [beq_eq_false_iff_ne]; omega
      go_wp2
      go_round
      case rel => exact ⟨v / 10, [c] ++ acc, by go_num, congrArg Value.string (ByteArray.mk_append_mk [c] acc), by rw [← List.append_assoc, ← HC.out, ← decD_big (by omega)]; exact HA.out, by omega⟩
      case measure => simp [intOf]; omega

theorem tmod_neg10 (v : Nat) : (-(v : Int)).tmod 10 = -((v % 10 : Nat) : Int) := by rw [Int.neg_tmod, Int.tmod_eq_emod_of_nonneg (by omega)]; omega
theorem tdiv_negN (v : Nat) : (-(v : Int)).tdiv 10 = -((v / 10 : Nat) : Int) := by rw [Int.neg_tdiv, Int.tdiv_eq_ediv_of_nonneg (by omega)]; omega

set_option maxHeartbeats 1000000 in
theorem rdigits_neg (u : Nat) (w : World) (hu1 : 1 ≤ u) (hu : u ≤ 9223372036854775808) :
    Calls Tryd.prog 57 #[.int .i64 (-(u : Int))] w fun e w' => e = .returned (.string ⟨(45 :: Lib.decDigits u).toArray⟩) ∧ w = w' := by
  have hlen : (Lib.decDigits u).length ≤ 1000 := by
    rw [Lib.decDigits_length]; have := Lib.nDigits_le20 u (by omega); omega
  generalize hD : Lib.decDigits u = D at *
  have HD := Lib.hid hD
  obtain ⟨x, hx⟩ : ∃ x : Int, -(u : Int) = x := ⟨_, rfl⟩
  rw [hx]
  have HX := Lib.hid hx
  have hx0 : x < 0 := by omega
  have hx1 : -9223372036854775808 ≤ x := by omega
  clear hD hx
  go_enter Tryd.func57, Tryd.ntmps57
  go_wp2
  go_loop [0, 3, 4] (fun n s _ => ∃ (v : Nat) (y : Int) (acc : List UInt8), n = .int .i64 y ∧ s = .string ⟨acc.toArray⟩ ∧ y = -(v : Int) ∧ (v = 0 → acc = D) ∧ (1 ≤ v → Lib.decDigits v ++ acc = D) ∧ v ≤ u ∧ acc.length ≤ 1000) (fun n _ _ => (-intOf n).toNat)
  case atStart => exact ⟨u, x, [], rfl, rfl, HX.out.symm, fun h => by omega, fun _ => by rw [HD.out, List.append_nil], Nat.le_refl _, by simp⟩
  case round =>
    obtain ⟨v, y, acc, rfl, rfl, hy, h0, h1, hv, hal⟩ := hrel
    have H0 := Lib.hid h0
    have H1 := Lib.hid h1
    have hy1 : -9223372036854775808 ≤ y := by omega
    have ht : y.tmod 10 = -((v % 10 : Nat) : Int) := by rw [hy, tmod_neg10]
    have hq : y.tdiv 10 = -((v / 10 : Nat) : Int) := by rw [hy, tdiv_negN]
    obtain ⟨r, hr⟩ : ∃ r, v % 10 = r := ⟨_, rfl⟩
    have hr9 : r < 10 := by omega
    rw [hr] at ht
    obtain ⟨v', hv'⟩ : ∃ v', v / 10 = v' := ⟨_, rfl⟩
    rw [hv'] at hq
    have HR := Lib.hid hr
    have HV := Lib.hid hv'
    have HY := Lib.hid hy
    have hvv : v' ≤ v := by omega
    have x1 := digs10_extract r hr9
    rw [Nat.add_comm r 1] at x1
    obtain ⟨c, hc⟩ : ∃ c, UInt8.ofNat (48 + r) = c := ⟨_, rfl⟩
    rw [hc] at x1
    have HC := Lib.hid hc
    by_cases hneg : y < 0
    · have hlt : v' < v := by omega
      have hb : v' ≤ 922337203685477580 := by omega
      have n0 : v' = 0 → [c] ++ acc = D := fun h => by
        have e := H1.out (by omega)
        rw [decD_small (show v < 10 by omega)] at e
        rw [← e, ← HC.out, ← HR.out, Nat.mod_eq_of_lt (show v < 10 by omega)]
      have n1 : 1 ≤ v' → Lib.decDigits v' ++ ([c] ++ acc) = D := fun h => by
        have e := H1.out (by omega)
        rw [decD_big (show 10 ≤ v by omega), HV.out, HR.out, HC.out, List.append_assoc] at e
        exact e
      have nl : ([c] ++ acc).length ≤ 1000 := by
        rcases Nat.eq_zero_or_pos v' with h | h
        · rw [n0 h]; exact hlen
        · have := congrArg List.length (n1 h)
          rw [List.length_append] at this
          omega
      have N0 := Lib.hid n0
      have N1 := Lib.hid n1
      have NL := Lib.hid nl
      have hst := ByteArray.mk_append_mk [c] acc
      have HST := Lib.hid hst
      clear hr hv' hy hc h0 h1 n0 n1 nl hst
      go_wp2
      go_round
      case rel => exact ⟨v', -(v' : Int), [c] ++ acc, rfl, congrArg Value.string HST.out, rfl, N0.out, N1.out, by omega, NL.out⟩
      case measure => have := HY.out; simp [intOf]; omega
    · clear hr hv' hc h0 h1 ht hq
      have hv0 : v = 0 := by omega
      have hD2 := H0.out hv0
      clear hy
      go_wp2
      go_ret
      refine ⟨?_, rfl⟩
      have e := ByteArray.mk_append_mk [45] D
      rw [show (45 :: D) = [45] ++ D from rfl, ← e]
      rfl

theorem rdigits_any (n : Int) (w : World) (h0 : -9223372036854775808 ≤ n) (h1 : n ≤ 9223372036854775807) :
    Calls Tryd.prog 57 #[.int .i64 n] w fun e w' => e = .returned (.string ⟨(Lib.itoa n).toArray⟩) ∧ w = w' := by
  by_cases hn : 0 ≤ n
  · obtain ⟨u, rfl⟩ := Int.eq_ofNat_of_zero_le hn
    rw [itoa_nn hn]
    exact rdigits_pos u w h1
  · obtain ⟨u, hu⟩ : ∃ u : Nat, n = -(u : Int) := ⟨(-n).toNat, by omega⟩
    subst hu
    have e : Lib.itoa (-(u : Int)) = 45 :: Lib.decDigits u := by
      unfold Lib.itoa
      rw [if_pos (by omega), show (-(u : Int)).natAbs = u by omega]
    rw [e]
    exact rdigits_neg u w (by omega) (by omega)
end Go.Proofs.YteomoipbjkafgaaDoor
