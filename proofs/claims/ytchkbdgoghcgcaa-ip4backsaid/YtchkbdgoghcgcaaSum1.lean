/- Package sum: the adder's take, feed, fold, Raw, Of, Check, Turn. Proved: what each returns, for every argument of its type (rows of at most a million bytes together). -/
import Derived.Test.YtchkbdgoghcgcaaMath2
import Derived.Test.YtchkbdgoghcgcaaOct2
namespace Go.Proofs.Ytchkbdgoghcgcaa
open Go Go.RowKit

/-- v is a slice whose elements are slices of the bytes ls. -/
def IsRows (w : World) (v : Value) (ls : List (List UInt8)) : Prop :=
  ∃ a cap, v = .slice a ls.length cap ∧ ls.length ≤ cap ∧ cap ≤ maxLen ∧
    (0 < ls.length → ∃ b off, a = some ⟨b, off, none⟩ ∧ b < w.heap.size ∧ ∀ i (h : i < ls.length), ∃ ai ci, w.cell? ⟨b, off + i, none⟩ = some (.slice ai (ls[i]).length ci) ∧ IsB w (.slice ai (ls[i]).length ci) ls[i])
theorem IsRows.below {w w' : World} {v : Value} {ls : List (List UInt8)} (h : IsRows w v ls) (hb : Below w.heap.size w w') : IsRows w' v ls := by
  obtain ⟨a, cap, rfl, h1, h2, h3⟩ := h
  refine ⟨a, cap, rfl, h1, h2, fun hp => ?_⟩
  obtain ⟨b, off, rfl, hlt, hc⟩ := h3 hp
  refine ⟨b, off, rfl, Nat.lt_of_lt_of_le hlt hb.size, fun i hi => ?_⟩
  obtain ⟨ai, ci, h4, h5⟩ := hc i hi
  exact ⟨ai, ci, (hb.cell (p := ⟨b, off + i, none⟩) hlt).trans h4, h5.below hb⟩

/-- Block g is an adder. -/
def AdderIs (w : World) (g : Nat) (t : Nat) (lo : Bool) : Prop := w.heap[g]? = some (.cells #[.int .u64 t, .bool lo] 77 (0, 0))

theorem AdderIs.store {w : World} {g t : Nat} {lo : Bool} (h : AdderIs w g t lo) (y : Int) (t' : Nat) (lo' : Bool) (hy : y = (t' : Int)) :
    AdderIs ((w.setCell ⟨g, 0, none⟩ (.int .u64 y)).setCell ⟨g, 1, none⟩ (.bool lo')) g t' lo' := by
  subst hy
  unfold AdderIs
  have h1 := heap_setCell_same w g 0 _ _ (.int .u64 (t' : Int)) h
  rw [heap_setCell_same _ g 1 _ _ _ h1]
  rfl

set_option maxHeartbeats 400000 in
theorem take_any (g : Nat) (t : Nat) (lo : Bool) (x : Int) (w : World) (h : AdderIs w g t lo) (hx0 : 0 ≤ x) (hx : x ≤ 255) (ht : t ≤ 200000000000) :
    Calls Try.prog 50 #[.pointer (some ⟨g, 0, none⟩), .int .u8 x] w fun e w' => e = .returned (.tuple #[]) ∧ AdderIs w' g (t + if lo then x.toNat else x.toNat * 256) (!lo) ∧ ∀ B, B ≤ g → Below B w w' := by
  have hc0 : w.cell? ⟨g, 0, none⟩ = some (.int .u64 t) := by rw [cell_of_row w g 0 _ _ _ h]; rfl
  have hc1 : w.cell? ⟨g, 1, none⟩ = some (.bool lo) := by rw [cell_of_row w g 1 _ _ _ h]; rfl
  have hf0 : w.frozen? ⟨g, 0, none⟩ = false := frozen_of_row w g 0 _ _ h
  have hf1 : w.frozen? ⟨g, 1, none⟩ = false := frozen_of_row w g 1 _ _ h
  have HA := Lib.hid h
  clear h
  cases lo
  · go_enter Try.func50, Try.ntmps50
    go_wp2
    go_end0
    exact ⟨rfl, HA.out.store _ _ _ (by simp; omega), fun B hB => ((Below.refl _ _).setCell hB _).setCell hB _⟩
  · go_enter Try.func50, Try.ntmps50
    go_wp2
    go_end0
    exact ⟨rfl, HA.out.store _ _ _ (by simp; omega), fun B hB => ((Below.refl _ _).setCell hB _).setCell hB _⟩

set_option maxHeartbeats 1000000 in
theorem feed_any (v : Value) (ls : List (List UInt8)) (w0 w : World) (hr : IsRows w0 v ls) (hA : AdderIs w w0.heap.size 0 false) (hb : Below w0.heap.size w0 w) (hlim : ls.flatten.length ≤ 1000000) :
    Calls Try.prog 49 #[.func (.func 50) #[.pointer (some ⟨w0.heap.size, 0, none⟩)] #[], v] w fun e w' => e = .returned (.tuple #[]) ∧ AdderIs w' w0.heap.size (wsum false ls.flatten) (lows false ls.flatten) ∧ Below w0.heap.size w0 w' := by
  obtain ⟨a, cap, rfl, h1, h2, h3⟩ := hr
  have hlen : ls.length ≤ maxLen := Nat.le_trans h1 h2
  unfold maxLen at hlen
  have HR := Lib.hid h3
  have HLim := Lib.hid hlim
  clear h3 hlim
  go_enter Try.func49, Try.ntmps49
  go_wp2
  go_loopw [5, 7, 10] (fun _ _ i wr => ∃ k : Nat, k ≤ ls.length ∧ i = .int .i64 k ∧ AdderIs wr w0.heap.size (wsum false (ls.take k).flatten) (lows false (ls.take k).flatten) ∧ Below w0.heap.size w0 wr) (fun _ _ i _ => ls.length - (intOf i).toNat)
  case atStart => exact ⟨0, Nat.zero_le _, rfl, hA, hb⟩
  case round =>
    obtain ⟨k, hk, rfl, hAr, hbr⟩ := hrel
    by_cases hlt : k < ls.length
    · obtain ⟨b, off, rfl, hbl, hc⟩ := HR.out (by omega)
      obtain ⟨ai, ci, hci, hB⟩ := hc k hlt
      have hck : wr.cell? ⟨b, off + k, none⟩ = some (.slice ai (ls[k]).length ci) := (hbr.cell (p := ⟨b, off + k, none⟩) hbl).trans hci
      have HF := Lib.hid (flat_take_succ ls k hlt)
      have HG := Lib.hid (flat_len_get ls k hlt)
      have hml : (ls[k]).length ≤ 1000000 := by have := HG.out; have := HLim.out; omega
      have hpl : (ls.take k).flatten.length ≤ 1000000 := by have := HG.out; have := HLim.out; omega
      have hpw := wsum_le (ls.take k).flatten false
      generalize hpre : (ls.take k).flatten = pre at *
      generalize hrow : ls[k] = row at *
      clear hci hc hpre hrow
      obtain ⟨lo, hlo⟩ : ∃ lo, lows false pre = lo := ⟨_, rfl⟩
      rw [hlo] at hAr
      have HLo := Lib.hid hlo
      clear hlo
      generalize hP : wsum false pre = P0 at *
      have HP := Lib.hid hP
      have HB := Lib.hid hB
      have HK := Lib.hid hbr
      clear hP hB hbr
      go_wp2
      go_loopw [7, 16] (fun _ i wr => ∃ j : Nat, j ≤ row.length ∧ i = .int .i64 j ∧ AdderIs wr w0.heap.size (P0 + wsum lo (row.take j)) (lows lo (row.take j)) ∧ Below w0.heap.size w0 wr) (fun _ i _ => row.length - (intOf i).toNat)
      case atStart => exact ⟨0, Nat.zero_le _, rfl, hAr, HK.out⟩
      case round =>
        obtain ⟨j, hj, rfl, hAj, hbj⟩ := hrel
        by_cases hlt2 : j < row.length
        · obtain ⟨a2, cap2, he, hq1, hq2, hq3⟩ := HB.out
          simp only [Value.slice.injEq] at he
          obtain ⟨rfl, _, rfl⟩ := he
          obtain ⟨b2, off2, rfl, hb2, hc2⟩ := hq3 (by omega)
          have hcj : wr.cell? ⟨b2, off2 + j, none⟩ = some (.int .u8 (byteAt row j)) := (hbj.cell (p := ⟨b2, off2 + j, none⟩) hb2).trans (hc2 j hlt2)
          have x0 := byteAt_nonneg row j
          have x1 := byteAt_le row j
          have hwj := wsum_le (row.take j) lo
          have HT := Lib.hid (take_any w0.heap.size _ _ (byteAt row j) wr hAj x0 x1 (by rw [List.length_take] at hwj; omega))
          have HW := Lib.hid (wsum_take_succ row j lo hlt2)
          have HW2 := Lib.hid (lows_take_succ row j lo hlt2)
          have HBJ := Lib.hid hbj
          clear hc2 hq3 hAj hbj hwj
          generalize hx : byteAt row j = x at *
          generalize hL : lows lo (row.take j) = L at *
          generalize hS : wsum lo (row.take j) = S at *
          clear hx hL hS
          go_wp2_with (go_at_call 50; refine HT.out.mono ?_; rintro e w' ⟨rfl, hA', hb'⟩)
          go_roundw
          case rel => exact ⟨j + 1, by omega, by go_num, by rw [HW.out, HW2.out, ← Nat.add_assoc]; exact hA', HBJ.out.trans (hb' _ (Nat.le_refl _))⟩
          case measure => simp [intOf]; omega
        · go_wp2
          go_roundw
          case rel => exact ⟨k + 1, by omega, by go_num, by rw [HF.out, wsum_append, lows_append, HLo.out, HP.out]; rw [List.take_of_length_le (by omega)] at hAj; exact hAj, hbj⟩
          case measure => simp [intOf]; omega
    · go_wp2
      go_end0
      rw [List.take_of_length_le (by omega)] at hAr
      exact ⟨rfl, hAr, hbr⟩

theorem ret_int {k : IntKind} {a b : Int} (h : a = b) : Ending.returned (.int k a) = .returned (.int k b) := by rw [h]

set_option maxHeartbeats 400000 in
theorem fold_any (n : Nat) (w : World) (hn : n ≤ 200000000000) :
    Calls Try.prog 46 #[.int .u64 n] w fun e w' => e = .returned (.int .u16 (fold16 n)) ∧ w = w' := by
  go_enter Try.func46, Try.ntmps46
  go_wp2
  go_loop [0] (fun v => ∃ m : Nat, m ≤ 200000000000 ∧ v = .int .u64 m ∧ Hid (fold16 m = fold16 n)) (fun v => (intOf v).toNat)
  case atStart => exact ⟨n, hn, rfl, rfl⟩
  case round =>
    obtain ⟨m, hm, rfl, HM⟩ := hrel
    by_cases hgt : 65535 < m
    · have HS := Lib.hid (fold16_step m hgt)
      go_wp2
      go_round
      case rel => exact ⟨m % 65536 + m / 65536, by omega, by go_num, HS.out.trans HM.out⟩
      case measure => simp [intOf]; omega
    · have HS := Lib.hid (fold16_small m (by omega))
      go_wp2
      go_ret
      exact ⟨ret_int (by rw [← HM.out, HS.out]), rfl⟩

theorem hmf : ∀ (fn : Fn) (first cap : Array Value) (w : World), (Instr.makeFunc fn first cap).run Try.prog w = .ok (.func fn first cap) w := fun _ _ _ _ => rfl

set_option maxHeartbeats 400000 in
theorem raw_any (v : Value) (ls : List (List UInt8)) (w : World) (hr : IsRows w v ls) (hlim : ls.flatten.length ≤ 1000000) :
    Calls Try.prog 36 #[v] w fun e w' => e = .returned (.int .u16 (fold16 (wsum false ls.flatten))) ∧ Below w.heap.size w w' := by
  have HF := Lib.hid (feed_any v ls w (w.alloc (.cells #[.int .u64 ((0 : Nat) : Int), .bool false] 77)) hr (heap_alloc_new _ _) ((Below.refl _ _).alloc (Nat.le_refl _) _) hlim)
  have hle := wsum_le ls.flatten false
  clear hr
  generalize wsum false ls.flatten = T at *
  generalize lows false ls.flatten = L at *
  have hmf := hmf
  go_enter Try.func36, Try.ntmps36
  go_wp2_with (go_at_call 49; refine HF.out.mono ?_; rintro e w' ⟨rfl, hA, hb⟩; refine Hid.out ?_)
  refine Lib.hid ?_
  have hc0 : w'.cell? ⟨w.heap.size, 0, none⟩ = some (.int .u64 T) := by rw [cell_of_row w' w.heap.size 0 _ _ _ hA]; rfl
  have HF2 := Lib.hid (fold_any T w' (by omega))
  clear hA
  go_wp2_with (go_at_call 46; refine HF2.out.mono ?_; rintro e w2 ⟨rfl, rfl⟩)
  go_ret
  exact ⟨rfl, hb⟩

set_option maxHeartbeats 400000 in
theorem of_any (v : Value) (ls : List (List UInt8)) (w : World) (hr : IsRows w v ls) (hlim : ls.flatten.length ≤ 1000000) :
    Calls Try.prog 45 #[v] w fun e w' => e = .returned (.int .u16 ((65535 - fold16 (wsum false ls.flatten) : Nat) : Int)) ∧ Below w.heap.size w w' := by
  have HF := Lib.hid (raw_any v ls w hr hlim)
  have hle := fold16_le (wsum false ls.flatten)
  clear hr
  generalize fold16 (wsum false ls.flatten) = T at *
  go_enter Try.func45, Try.ntmps45
  go_wp2_with (go_at_call 36; refine HF.out.mono ?_; rintro e w' ⟨rfl, hb⟩)
  go_ret
  exact ⟨ret_int (by omega), hb⟩

set_option maxHeartbeats 400000 in
theorem check_any (v : Value) (ls : List (List UInt8)) (w : World) (hr : IsRows w v ls) (hlim : ls.flatten.length ≤ 1000000) :
    Calls Try.prog 21 #[v] w fun e w' => e = .returned (.bool ((fold16 (wsum false ls.flatten) : Int) == 65535)) ∧ Below w.heap.size w w' := by
  have HF := Lib.hid (raw_any v ls w hr hlim)
  have hle := fold16_le (wsum false ls.flatten)
  clear hr
  generalize fold16 (wsum false ls.flatten) = T at *
  go_enter Try.func21, Try.ntmps21
  go_wp2_with (go_at_call 36; refine HF.out.mono ?_; rintro e w' ⟨rfl, hb⟩)
  go_ret
  exact ⟨rfl, hb⟩

set_option maxHeartbeats 400000 in
theorem turn_any (c o n : Nat) (w : World) (hc : c ≤ 65535) (ho : o ≤ 65535) (hn : n ≤ 65535) :
    Calls Try.prog 32 #[.int .u16 c, .int .u16 o, .int .u16 n] w fun e w' => e = .returned (.int .u16 (turnN c o n)) ∧ w = w' := by
  have HF := Lib.hid (fold_any (65535 - c + (65535 - o) + n) w (by omega))
  have hle := fold16_le (65535 - c + (65535 - o) + n)
  unfold turnN
  generalize hT : fold16 (65535 - c + (65535 - o) + n) = T at *
  clear hT
  rw [show ((65535 - c + (65535 - o) + n : Nat) : Int) = (65535 : Int) - c + (65535 - o) + n by omega] at HF
  go_enter Try.func32, Try.ntmps32
  go_wp2_with (go_at_call 46; refine HF.out.mono ?_; rintro e w' ⟨rfl, rfl⟩)
  go_ret
  exact ⟨ret_int (by omega), rfl⟩
end Go.Proofs.Ytchkbdgoghcgcaa
