/- Number and Digits of package octet. -/
import Derived.Test.YteomoipbjkafgaaDoorOct5
import Derived.Test.YteomoipbjkafgaaDoorMathDec
namespace Go.Proofs.YteomoipbjkafgaaDoor
open Go Go.RowKit

theorem str_at (s : ByteArray) (k : Nat) (h : k < s.size) : (s[k].toNat : Int) = byteAt s.data.toList k := by
  have e : s[k] = s.data.toList.getD k 0 := by
    have hk : k < s.data.toList.length := by simpa using h
    rw [List.getD, List.getElem?_eq_getElem hk]
    rfl
  rw [byteAt, e]
theorem dig10_yes (r : Int) (h0 : 48 ≤ r) (h1 : r ≤ 57) : digB r 10 = true ∧ digV r 10 = r - 48 :=
  digit_fin r 10 (r - 48) (by unfold digW; rw [if_pos ⟨h0, h1⟩]) (by omega)
theorem dig10_no (r : Int) (h : ¬ (48 ≤ r ∧ r ≤ 57)) : digB r 10 = false ∧ digV r 10 = 0 := by
  refine digit_none r 10 ?_
  unfold digW
  rw [if_neg h]
  split
  · omega
  · split <;> omega
theorem decode_not (s : ByteArray) (k : Nat) (h : k < s.size) (p : Int → Prop) (hp : ∀ r, 128 ≤ r → p r) (hb : p (byteAt s.data.toList k)) : p ((Utf8.decode s k).1 : Nat) := by
  by_cases ha : (s[k]'h).toNat < 128
  · rw [decode_ascii s k h ha, str_at]; exact hb
  · exact hp _ (by have := (decode_high s k h (by omega)).1; omega)
theorem tdiv_neg10 (x : Int) (h : x < 0) : x.tdiv 10 = -((-x) / 10) := by
  have e : x.tdiv 10 = -((-x).tdiv 10) := by rw [Int.neg_tdiv]; omega
  rw [e, Int.tdiv_eq_ediv_of_nonneg (by omega)]
theorem str_size (s : ByteArray) : s.data.toList.length = s.size := rfl

set_option maxHeartbeats 1000000 in
theorem number_any (s : ByteArray) (most : Int) (w : World) (hs : s.size ≤ 1000000) (hm0 : -9223372036854775808 ≤ most) (hm1 : most ≤ 9223372036854775807) :
    Calls Tryd.prog 44 #[.string s, .int .i64 most] w fun e w' => e = .returned (.tuple #[.int .i64 (numV s.data.toList most), .bool (numB s.data.toList most)]) ∧ Below w.heap.size w w' := by
  by_cases h0 : s.size = 0
  · have e : s.data.toList = [] := List.eq_nil_of_length_eq_zero h0
    rw [e, numV_no (numB_empty _), numB_empty]
    have e2 : s.toList.isEmpty = true := by rw [ByteArray.toList_eq, e]; rfl
    clear e h0
    go_enter Tryd.func44, Tryd.ntmps44
    go_wp2
    go_ret2
    exact ⟨rfl, Below.refl _ _⟩
  have e2 : s.toList.isEmpty = false := by
    rw [ByteArray.toList_eq, List.isEmpty_eq_false_iff]
    intro e
    have := congrArg List.length e
    exact h0 this
  have hp : 0 < s.size := by omega
  have hat := str_at s 0 hp
  by_cases h1 : 1 < s.size ∧ byteAt s.data.toList 0 = 48
  · have e := numB_zero (most := most) (l := s.data.toList) h1.1 h1.2
    rw [numV_no e, e]
    have h2 : ((s[0].toNat : Int) == 48) = true := by rw [hat, h1.2]; rfl
    have h3 := h1.1
    clear e h0 h1 hat
    go_enter Tryd.func44, Tryd.ntmps44
    go_wp2
    go_ret2
    exact ⟨rfl, Below.refl _ _⟩
  have hneg : most < 0 → -922337203685477580 ≤ most.tdiv 10 ∧ most.tdiv 10 ≤ 0 ∧ (most.tdiv 10 = 0 → -10 < most) := fun h => by rw [tdiv_neg10 most h]; omega
  generalize hl : s.data.toList = l at *
  have hll : l.length = s.size := by rw [← hl]; rfl
  have hb : ∀ k (h : k < s.size), (s[k].toNat : Int) = byteAt l k := fun k h => by rw [← hl]; exact str_at s k h
  have HB := Lib.hid hb
  have HL := Lib.hid hl
  have HLL := Lib.hid hll
  have H1 := Lib.hid h1
  have HN := Lib.hid hneg
  have H0 := Lib.hid h0
  have hg : 1 < s.size → ((s[0].toNat : Int) == 48) = false := by
    intro h
    rw [hat, beq_eq_false_iff_ne]
    exact fun e => h1 ⟨h, e⟩
  clear hb hl hll h1 hneg h0 hat
  by_cases h2 : 1 < s.size
  all_goals
    first | have hg' := hg h2 | skip
    clear hg
    go_enter Tryd.func44, Tryd.ntmps44
    go_wp2
    go_loopw [6] (fun n wr => ∃ k : Nat, k ≤ s.size ∧ wr.heap[w.heap.size]? = some (.stringIter s k) ∧ n = .int .i64 (decV (l.take k)) ∧ (l.take k).all isDec = true ∧ (k = 0 ∨ decV (l.take k) ≤ most) ∧ Below w.heap.size w wr) (fun _ wr => s.size - wr.iterPos w.heap.size)
    case atStart => exact ⟨0, Nat.zero_le _, World.iter_heap _ _ _, rfl, rfl, .inl rfl, (Below.refl _ _).alloc (Nat.le_refl _) _⟩
    case round =>
      obtain ⟨k, hk, hit, rfl, hall, hmost, hbw⟩ := hrel
      by_cases hlt : k < s.size
      · have hkl : k < l.length := by rw [HLL.out]; exact hlt
        have hn0 := decV_nonneg _ hall
        have hit2 := fun j => Lib.iterAt_heap wr w.heap.size s k j hit
        have hbw2 := fun j => Lib.below_iterAt hbw (k := w.heap.size) (Nat.le_refl _) s j
        have HI := Lib.hid hit2
        have HB2 := Lib.hid hbw2
        have HBW := Lib.hid hbw
        have HM := Lib.hid hmost
        clear hit2 hbw2 hbw hmost
        by_cases hd : 48 ≤ byteAt l k ∧ byteAt l k ≤ 57
        · have hsk := HB.out k hlt
          have hnx : ∀ ty, (Instr.next (.pointer (some ⟨w.heap.size, 0, none⟩)) true ty).run Tryd.prog wr = .ok (.tuple #[.bool true, .int .i64 k, .int .i32 (byteAt l k)]) (wr.iterAt w.heap.size s (k + 1)) := fun ty => by
            rw [Lib.run_next_ascii_at wr w.heap.size s k ty hit hlt (by omega), hsk]
          have HD : ∀ W, Calls Tryd.prog 56 #[.int .i32 (byteAt l k), .int .i64 10] W fun e w' => e = .returned (.tuple #[.int .i64 (byteAt l k - 48), .bool true]) ∧ W = w' := fun W => by
            have h := digit_any (byteAt l k) 10 W (by omega) (by omega) (by omega) (by omega)
            rw [(dig10_yes _ hd.1 hd.2).1, (dig10_yes _ hd.1 hd.2).2] at h
            exact h
          have HD := Lib.hid HD
          have hds := decV_take_succ l k hkl
          have HDS := Lib.hid hds
          have hal := all_take_succ l k hkl hall ((isDec_iff _).2 hd)
          have HA := Lib.hid hal
          have hd1 := hd.1
          have hd2 := hd.2
          clear hds hal hall hsk hd
          generalize decV (l.take k) = n at *
          generalize byteAt l k = b at *
          by_cases hgo : n * 10 + (b - 48) ≤ most
          · have hm2 : 0 ≤ most := by omega
            have t1 : n ≤ most / 10 := by omega
            have t2 : n * 10 ≤ most - (b - 48) := by omega
            go_wp2_with (go_at_call 56; refine (HD.out _).mono ?_; rintro e w' ⟨rfl, rfl⟩)
            go_roundw
            case rel => exact ⟨k + 1, by omega, HI.out _, by rw [HDS.out], HA.out, .inr (by rw [HDS.out]; exact hgo), HB2.out _⟩
            case measure => simp only [World.iterPos, HI.out, hit]; omega
          · have hno := numB_great (l := l) (most := most) (k + 1) (by rw [HDS.out]; omega)
            have HNo := Lib.hid hno
            clear hno
            by_cases hm2 : 0 ≤ most
            · by_cases t1 : most / 10 < n
              · go_wp2_with (go_at_call 56; refine (HD.out _).mono ?_; rintro e w' ⟨rfl, rfl⟩)
                go_ret2
                refine ⟨?_, HB2.out _⟩
                rw [HNo.out, numV_no HNo.out]
                rfl
              · have t2 : most - (b - 48) < n * 10 := by omega
                go_wp2_with (go_at_call 56; refine (HD.out _).mono ?_; rintro e w' ⟨rfl, rfl⟩)
                go_ret2
                refine ⟨?_, HB2.out _⟩
                rw [HNo.out, numV_no HNo.out]
                rfl
            · obtain ⟨q1, q2, q3⟩ := HN.out (by omega)
              by_cases t1 : most.tdiv 10 < n
              · clear q3
                go_wp2_with (go_at_call 56; refine (HD.out _).mono ?_; rintro e w' ⟨rfl, rfl⟩)
                go_ret2
                refine ⟨?_, HB2.out _⟩
                rw [HNo.out, numV_no HNo.out]
                rfl
              · have q4 := q3 (by omega)
                have t2 : most - (b - 48) < n * 10 := by omega
                clear q3
                go_wp2_with (go_at_call 56; refine (HD.out _).mono ?_; rintro e w' ⟨rfl, rfl⟩)
                go_ret2
                refine ⟨?_, HB2.out _⟩
                rw [HNo.out, numV_no HNo.out]
                rfl
        · have hr := decode_not s k hlt (fun r => ¬ (48 ≤ r ∧ r ≤ 57)) (fun r h => by omega) (by rw [HL.out]; exact hd)
          have hle := decode_le s k
          have hnx : ∀ ty, (Instr.next (.pointer (some ⟨w.heap.size, 0, none⟩)) true ty).run Tryd.prog wr = .ok (.tuple #[.bool true, .int .i64 k, .int .i32 (Utf8.decode s k).1]) (wr.iterAt w.heap.size s (k + (Utf8.decode s k).2)) := fun ty =>
            Lib.run_next_any_at wr w.heap.size s k ty hit hlt
          generalize (Utf8.decode s k).2 = wd at *
          generalize (Utf8.decode s k).1 = r at *
          have HD : ∀ W, Calls Tryd.prog 56 #[.int .i32 r, .int .i64 10] W fun e w' => e = .returned (.tuple #[.int .i64 0, .bool false]) ∧ W = w' := fun W => by
            have h := digit_any r 10 W (by omega) (by omega) (by omega) (by omega)
            rw [(dig10_no _ hr).1, (dig10_no _ hr).2] at h
            exact h
          have HD := Lib.hid HD
          have hno := numB_sign (most := most) k hkl hd
          have HNo := Lib.hid hno
          clear hno hr hd hall
          go_wp2_with (go_at_call 56; refine (HD.out _).mono ?_; rintro e w' ⟨rfl, rfl⟩)
          go_ret2
          refine ⟨?_, HB2.out _⟩
          rw [HNo.out, numV_no HNo.out]
          rfl
      · have hnx : ∀ ty, (Instr.next (.pointer (some ⟨w.heap.size, 0, none⟩)) true ty).run Tryd.prog wr = _ := fun ty => Lib.run_next_end_at wr w.heap.size s k ty hit hlt
        have ek : l.take k = l := List.take_of_length_le (by rw [HLL.out]; omega)
        rw [ek] at hall hmost
        have hne : l ≠ [] := fun e => by have := HLL.out; rw [e] at this; exact H0.out this.symm
        have hmo : decV l ≤ most := by
          rcases hmost with h | h
          · exfalso; have := H0.out; omega
          · exact h
        have hy := numB_yes hne (by rw [HLL.out]; exact H1.out) hall hmo
        have HY := Lib.hid hy
        have HE := Lib.hid ek
        clear hy ek hmo hne hall hmost
        go_wp2
        go_ret2
        refine ⟨?_, hbw⟩
        rw [HY.out, numV_yes HY.out, HE.out]
        rfl
end Go.Proofs.YteomoipbjkafgaaDoor
