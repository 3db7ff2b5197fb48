/- The document's own answers for layer 1: Number. -/
import Derived.Test.YteomoipbjkafgaaDoorRef4
namespace Go.Proofs.YteomoipbjkafgaaDoor
open Go Go.RowKit

/-- A fact kept from the walk, whatever it unfolds. -/
structure Held (p : Prop) : Prop where
  out : p

set_option maxHeartbeats 2000000 in
theorem rnumber_any (s : ByteArray) (most : Int) (w : World) (hs : s.size ≤ 1000000) (hm1 : most ≤ 9223372036854775807) :
    Calls Tryd.prog 46 #[.string s, .int .i64 most] w fun e w' => e = .returned (.tuple #[.int .i64 (numV s.data.toList most), .bool (numB s.data.toList most)]) ∧ w = w' := by
  generalize hl : s.data.toList = l at *
  have hll : l.length = s.size := by rw [← hl]; rfl
  have hb : ∀ k (h : k < s.size), (s[k].toNat : Int) = byteAt l k := fun k h => by rw [← hl]; exact str_at s k h
  have HM : Held (most ≤ 9223372036854775807) := ⟨hm1⟩
  by_cases h0 : s.size = 0
  · have e : l = [] := List.eq_nil_of_length_eq_zero (by rw [hll]; exact h0)
    have e2 : s.toList.isEmpty = true := by rw [ByteArray.toList_eq, hl, e]; rfl
    rw [e, numV_no (numB_empty _), numB_empty]
    clear e h0 hb hll hl hm1
    go_enter Tryd.func46, Tryd.ntmps46
    go_wp2
    go_ret2
    exact ⟨rfl, rfl⟩
  have hne : l ≠ [] := fun e => by rw [e] at hll; exact h0 hll.symm
  have e2 : s.toList.isEmpty = false := by
    rw [ByteArray.toList_eq, hl, List.isEmpty_eq_false_iff]
    exact hne
  by_cases h19 : 19 < s.size
  · have e := numB_long (l := l) (most := most) (by rw [hll]; exact h19) hm1
    rw [numV_no e, e]
    clear e h0 hb hll hl hm1 hne
    go_enter Tryd.func46, Tryd.ntmps46
    go_wp2
    go_ret2
    exact ⟨rfl, rfl⟩
  have HB := Lib.hid hb
  have HLL := Lib.hid hll
  have HNE := Lib.hid hne
  have HL := Lib.hid hl
  clear hb hll hl hm1 hne h0
  go_enter Tryd.func46, Tryd.ntmps46
  go_wp2
  go_loop [6, 7, 8] (fun n i _ => ∃ k : Nat, k ≤ s.size ∧ i = .int .i64 k ∧ n = .int .i64 (decV (l.take k)) ∧ (l.take k).all isDec = true ∧ Held (decV (l.take k) ≤ 9223372036854775807)) (fun _ i _ => s.size - (intOf i).toNat)
  case atStart => exact ⟨0, Nat.zero_le _, rfl, rfl, rfl, ⟨show (0 : Int) ≤ _ by decide⟩⟩
  case round =>
    obtain ⟨k, hk, rfl, rfl, hall, hnm⟩ := hrel
    by_cases hlt : k < s.size
    · have hkl : k < l.length := by rw [HLL.out]; exact hlt
      have hsk := HB.out k hlt
      have hn0 := decV_nonneg _ hall
      have b0 := byteAt_nonneg l k
      have b1 := byteAt_le l k
      by_cases hd : 48 ≤ byteAt l k ∧ byteAt l k ≤ 57
      · have hds := decV_take_succ l k hkl
        have HDS := Lib.hid hds
        have HA := Lib.hid (all_take_succ l k hkl hall ((isDec_iff _).2 hd))
        obtain ⟨hd1, hd2⟩ := hd
        have hgr := fun (h : most < decV (l.take (k + 1))) => numB_great (l := l) (most := most) (k + 1) h
        have HGR := Lib.hid hgr
        clear hds hall hgr
        generalize decV (l.take k) = n at *
        generalize byteAt l k = b at *
        have hnm2 := hnm.out
        by_cases hov : (9223372036854775807 - (b - 48)) / 10 < n
        · have hno := HGR.out (by rw [HDS.out]; have := HM.out; omega)
          have HNo := Lib.hid hno
          clear hno
          go_wp2
          go_ret2
          rw [HNo.out, numV_no HNo.out]
          exact ⟨rfl, rfl⟩
        · go_wp2
          go_round
          case rel => exact ⟨k + 1, by omega, by go_num, by rw [HDS.out]; exact congrArg (Value.int .i64) (by omega), HA.out, ⟨by rw [HDS.out]; omega⟩⟩
          case measure => simp [intOf]; omega
      · have HNo := Lib.hid (numB_sign (most := most) k hkl hd)
        clear hall
        generalize decV (l.take k) = n at *
        generalize byteAt l k = b at *
        by_cases hlo : b < 48
        · clear hd
          go_wp2
          go_ret2
          rw [HNo.out, numV_no HNo.out]
          exact ⟨rfl, rfl⟩
        · have hhi : 57 < b := by omega
          clear hd
          go_wp2
          go_ret2
          rw [HNo.out, numV_no HNo.out]
          exact ⟨rfl, rfl⟩
    · have ek : l.take k = l := List.take_of_length_le (by rw [HLL.out]; omega)
      rw [ek] at hall hnm ⊢
      have hn0 := decV_nonneg _ hall
      have hib := numB_itoa (most := most) hall HNE.out
      have HD := Lib.hid (fun W => rdigits_any (decV l) W (by omega) hnm.out)
      have HIB := Lib.hid hib
      have hVV := fun (h : numB l most = true) => numV_yes h
      have HVV := Lib.hid hVV
      clear hib hall ek hVV
      generalize decV l = n at *
      generalize Lib.itoa n = I at *
      go_wp2_with (go_at_call 57; refine (HD.out _).mono ?_; rintro e w' ⟨rfl, rfl⟩)
      · have hmn : most < n := by assumption
        have hB : numB l most = false := by rw [HIB.out, decide_eq_false (show ¬ n ≤ most by omega), Bool.and_false]
        go_ret2
        rw [hB, numV_no hB]
        exact ⟨rfl, rfl⟩
      · have hi : I = s.toList := by assumption
        have hmn : n ≤ most := by assumption
        have hB : numB l most = true := by
          rw [HIB.out, decide_eq_true (show I = l by rw [hi, ByteArray.toList_eq, HL.out]), decide_eq_true hmn]
          rfl
        go_ret2
        rw [hB, HVV.out hB]
        exact ⟨rfl, rfl⟩
      · have hi : ¬ I = s.toList := by assumption
        have hB : numB l most = false := by
          rw [HIB.out, decide_eq_false (show ¬ I = l by rw [← HL.out, ← ByteArray.toList_eq]; exact hi)]
          rfl
        go_ret2
        rw [hB, numV_no hB]
        exact ⟨rfl, rfl⟩
end Go.Proofs.YteomoipbjkafgaaDoor
