/- Unhex of package octet. -/
import Derived.Test.YteomoipbjkafgaaDoorOct7
namespace Go.Proofs.YteomoipbjkafgaaDoor
open Go Go.RowKit

theorem made_zeros (n : Nat) : (madeCells (Value.int IntKind.u8 0).cells (n * 1)).toList = byteVals (List.replicate n 0) := by
  apply List.ext_getElem
  · simp [byteVals, size_madeCells]
  · intro i h1 h2
    simp [madeCells, byteVals, Value.cells, Nat.mod_one]

theorem RowIs.iterAt {w : World} {g : Nat} {c : List UInt8} (h : RowIs w g c) {k : Nat} (hk : g ≠ k) (s : ByteArray) (p : Nat) : RowIs (w.iterAt k s p) g c := by
  unfold RowIs; rw [Lib.iterAt_other w k g s p hk]; exact h
theorem unhexL_no {l : List UInt8} (h : unhexB l = false) : unhexL l = [] := by unfold unhexL; rw [h]; rfl
theorem unhexB_odd {l : List UInt8} (h : ¬ l.length % 2 = 0) : unhexB l = false := by unfold unhexB; rw [decide_eq_false h]; rfl
theorem unhexB_sign {l : List UInt8} (k : Nat) (hk : k < l.length) (h : digB (byteAt l k) 16 = false) : unhexB l = false := by
  have : l.all isHex = false := by
    rw [Bool.eq_false_iff]
    intro ha
    have h2 := all_at l k hk ha
    unfold isHex at h2
    rw [byteAt] at h
    rw [h] at h2
    cases h2
  unfold unhexB; rw [this]; simp
theorem dig16_hi (r : Int) (h : 128 ≤ r) : digB r 16 = false := by
  refine (digit_none r 16 ?_).1
  unfold digW
  rw [if_neg (by omega), if_neg (by omega), if_neg (by omega)]
  omega

set_option maxHeartbeats 1000000 in
theorem unhex_any (s : ByteArray) (w : World) (hs : s.size ≤ 1000000) :
    Calls Tryd.prog 55 #[.string s] w fun e w' => (∃ a' n' cap', e = .returned (.tuple #[.slice a' n' cap', .bool (unhexB s.data.toList)]) ∧ IsB w' (.slice a' n' cap') (unhexL s.data.toList)) ∧ Below w.heap.size w w' := by
  by_cases hodd : s.size % 2 = 0
  · obtain ⟨i0, hi, hz0, hz1, hz2⟩ := info_parts info5
    generalize hl : s.data.toList = l at *
    have hll : l.length = s.size := by rw [← hl]; rfl
    have hb : ∀ k (h : k < s.size), (s[k].toNat : Int) = byteAt l k := fun k h => by rw [← hl]; exact str_at s k h
    obtain ⟨m, hm⟩ : ∃ m, s.size = 2 * m := ⟨s.size / 2, by omega⟩
    have HB := Lib.hid hb
    have HL := Lib.hid hl
    have HLL := Lib.hid hll
    have HM := Lib.hid hm
    have hm2 : m ≤ 1000000 := by omega
    have hm3 : m ≤ maxLen := by unfold maxLen; omega
    have hodd2 : ((s.size : Int) % 2 != 0) = false := by simp; omega
    have hhalf : (s.size : Int) / 2 = m := by omega
    clear hb hl hll hm hodd
    go_enter Tryd.func55, Tryd.ntmps55
    go_wp2_with (at_make; refine wpList_make_full _ rfl (.tmp 15) (.tmp 15) 35 rfl w.heap.size 5 i0 (.int .u8 0) 1 Tryd.underlying35 hi hz0 hz1 .i64 .i64 _ _ m rfl rfl (by omega) (by omega) (by rw [hz2]; omega) hm3 (Nat.le_refl _) ?_; intro w1 ho hg; refine Hid.out ?_)
    refine Lib.hid ?_
    have hrow := row_of_owned ho
    rw [made_zeros] at hrow
    have hrow : RowIs w1 w.heap.size (List.replicate m 0) := hrow
    have hb1 : Below w.heap.size w w1 := (Below.refl _ _).grown hg (Nat.le_refl _) (fun k h => by cases h)
    have hgl := hrow.lt
    clear ho hg
    go_wp2
    go_loopw [5] (fun _ wr => ∃ k : Nat, k ≤ s.size ∧ wr.heap[w1.heap.size]? = some (.stringIter s k) ∧ RowIs wr w.heap.size (uhRow l m k) ∧ (l.take k).all isHex = true ∧ Below w.heap.size w wr) (fun _ wr => s.size - wr.iterPos w1.heap.size)
    case atStart => exact ⟨0, Nat.zero_le _, World.iter_heap _ _ _, hrow.below ((Below.refl _ _).alloc (Nat.le_refl _) _), rfl, hb1.alloc hb1.size _⟩
    case round =>
      obtain ⟨k, hk, hit, hrw, hall, hbw⟩ := hrel
      have hne : w.heap.size ≠ w1.heap.size := by omega
      by_cases hlt : k < s.size
      · have hkl : k < l.length := by rw [HLL.out]; exact hlt
        have hit2 := fun j => Lib.iterAt_heap wr w1.heap.size s k j hit
        have hbw2 := fun j => Lib.below_iterAt hbw (k := w1.heap.size) (by omega) s j
        have HI := Lib.hid hit2
        have HB2 := Lib.hid hbw2
        clear hit2 hbw2
        cases hd : digB (byteAt l k) 16
        · have hr := decode_not s k hlt (fun r => digB r 16 = false) (fun r h => dig16_hi r h) (by rw [HL.out]; exact hd)
          have hle := decode_le s k
          have hnx : ∀ ty, (Instr.next (.pointer (some ⟨w1.heap.size, 0, none⟩)) true ty).run Tryd.prog wr = .ok (.tuple #[.bool true, .int .i64 k, .int .i32 (Utf8.decode s k).1]) (wr.iterAt w1.heap.size s (k + (Utf8.decode s k).2)) := fun ty =>
            Lib.run_next_any_at wr w1.heap.size s k ty hit hlt
          generalize (Utf8.decode s k).2 = wd at *
          generalize (Utf8.decode s k).1 = r at *
          have HD : ∀ W, Calls Tryd.prog 56 #[.int .i32 r, .int .i64 16] W fun e w' => e = .returned (.tuple #[.int .i64 (digV r 16), .bool false]) ∧ W = w' := fun W => by
            have h := digit_any r 16 W (by omega) (by omega) (by omega) (by omega)
            rw [hr] at h
            exact h
          have HD := Lib.hid HD
          have HNo := Lib.hid (unhexB_sign k hkl hd)
          clear hr hd hall
          generalize digV (r : Int) 16 = dv at *
          go_wp2_with (go_at_call 56; refine (HD.out _).mono ?_; rintro e w' ⟨rfl, rfl⟩)
          go_ret2
          rw [HNo.out, unhexL_no HNo.out]
          exact ⟨⟨_, _, _, rfl, IsB.nil _⟩, HB2.out _⟩
        · have hsk := HB.out k hlt
          have hlo : byteAt l k < 128 := by
            rcases Int.lt_or_le (byteAt l k) 128 with h | h
            · exact h
            · rw [dig16_hi _ h] at hd; cases hd
          have b0 := byteAt_nonneg l k
          have hnx : ∀ ty, (Instr.next (.pointer (some ⟨w1.heap.size, 0, none⟩)) true ty).run Tryd.prog wr = .ok (.tuple #[.bool true, .int .i64 k, .int .i32 (byteAt l k)]) (wr.iterAt w1.heap.size s (k + 1)) := fun ty => by
            rw [Lib.run_next_ascii_at wr w1.heap.size s k ty hit hlt (by omega), hsk]
          have HD : ∀ W, Calls Tryd.prog 56 #[.int .i32 (byteAt l k), .int .i64 16] W fun e w' => e = .returned (.tuple #[.int .i64 (digV (byteAt l k) 16), .bool true]) ∧ W = w' := fun W => by
            have h := digit_any (byteAt l k) 16 W (by omega) (by omega) (by omega) (by omega)
            rw [hd] at h
            exact h
          have HD := Lib.hid HD
          have hal := all_take_succ l k hkl hall (p := isHex) (by unfold isHex; rw [byteAt] at hd; exact hd)
          have HA := Lib.hid hal
          have dbd := digV16_bd (byteAt l k)
          have hk2 : k / 2 < m := by have := HM.out; omega
          have hul := uhRow_length l m k
          have hrw2 := hrw.iterAt hne s (k + 1)
          have hcell := hrw2.cell (k / 2) (by omega)
          have hfr := hrw2.frozen (k / 2)
          have c0 := byteAt_nonneg (uhRow l m k) (k / 2)
          have c1 := byteAt_le (uhRow l m k) (k / 2)
          have hor := uh_or _ _ c0 c1 dbd.1 dbd.2
          have hx1 : ((byteAt (uhRow l m k) (k / 2)).toNat * 16 % 256 + (digV (byteAt l k) 16).toNat : Nat) < 256 := by omega
          have hstore := hrw2.store (k / 2) (((byteAt (uhRow l m k) (k / 2)).toNat * 16 % 256 + (digV (byteAt l k) 16).toNat : Nat) : Int) (UInt8.ofNat ((byteAt (uhRow l m k) (k / 2)).toNat * 16 % 256 + (digV (byteAt l k) 16).toNat)) (by rw [UInt8.toNat_ofNat_of_lt' hx1])
          have hstore : RowIs ((wr.iterAt w1.heap.size s (k + 1)).setCell ⟨w.heap.size, k / 2, none⟩ (.int .u8 (((byteAt (uhRow l m k) (k / 2)).toNat * 16 % 256 + (digV (byteAt l k) 16).toNat : Nat) : Int))) w.heap.size (uhRow l m (k + 1)) := hstore
          have HS := Lib.hid hstore
          have hitS := fun (v : Value) => (heap_setCell_other (wr.iterAt w1.heap.size s (k + 1)) ⟨w.heap.size, k / 2, none⟩ w1.heap.size v (Ne.symm hne)).trans (HI.out (k + 1))
          have HIS := Lib.hid hitS
          have hbS := fun (v : Value) => (HB2.out (k + 1)).setCell (p := ⟨w.heap.size, k / 2, none⟩) (Nat.le_refl _) v
          have HBS := Lib.hid hbS
          obtain ⟨dbd0, dbd1⟩ := dbd
          clear hal hall hsk hd hlo hul hstore hx1 hitS hbS
          generalize digV (byteAt l k) 16 = d at *
          generalize byteAt (uhRow l m k) (k / 2) = x at *
          generalize byteAt l k = b at *
          generalize ((x.toNat * 16 % 256 + d.toNat : Nat) : Int) = z at *
          go_wp2_with (go_at_call 56; refine (HD.out _).mono ?_; rintro e w' ⟨rfl, rfl⟩)
          go_roundw
          case rel => exact ⟨k + 1, by omega, HIS.out _, HS.out, HA.out, HBS.out _⟩
          case measure => simp only [World.iterPos, HIS.out, hit]; omega
      · have hnx : ∀ ty, (Instr.next (.pointer (some ⟨w1.heap.size, 0, none⟩)) true ty).run Tryd.prog wr = _ := fun ty => Lib.run_next_end_at wr w1.heap.size s k ty hit hlt
        have ek : l.take k = l := List.take_of_length_le (by rw [HLL.out]; omega)
        rw [ek] at hall
        have hB : unhexB l = true := by
          unfold unhexB
          rw [hall, decide_eq_true (by rw [HLL.out, HM.out]; omega)]
          rfl
        have hk3 : k = 2 * m := by have := HM.out; omega
        have hLr : uhRow l m k = unhexL l := by
          unfold unhexL
          rw [if_pos hB, hk3, uhRow_even l m (by rw [HLL.out, HM.out]; omega) m (Nat.le_refl _), Nat.sub_self, ← hk3, ek]
          simp
        have hul := uhRow_length l m k
        rw [hLr] at hrw hul
        have hisb := hrw.isB (by rw [hul]; exact hm3)
        rw [hul] at hisb
        have HBB := Lib.hid hB
        clear hB hLr hk3 ek hall hul
        go_wp2
        go_ret2
        rw [HBB.out]
        exact ⟨⟨_, _, _, rfl, hisb⟩, hbw⟩
  · have HNo := Lib.hid (unhexB_odd (l := s.data.toList) (by rw [str_size]; exact hodd))
    have hodd2 : ((s.size : Int) % 2 != 0) = true := by simp; omega
    clear hodd
    go_enter Tryd.func55, Tryd.ntmps55
    go_wp2
    go_ret2
    rw [HNo.out, unhexL_no HNo.out]
    exact ⟨⟨_, _, _, rfl, IsB.nil _⟩, Below.refl _ _⟩
end Go.Proofs.YteomoipbjkafgaaDoor
