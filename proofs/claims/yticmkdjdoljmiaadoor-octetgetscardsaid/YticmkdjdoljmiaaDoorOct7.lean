/- Hex and Digits of package octet. -/
import Derived.Test.YticmkdjdoljmiaaDoorOct6
import Derived.Test.YticmkdjdoljmiaaDoorLaws
namespace Go.Proofs.YticmkdjdoljmiaaDoor
open Go Go.RowKit

def digs16 : ByteArray := ⟨#[48, 49, 50, 51, 52, 53, 54, 55, 56, 57, 97, 98, 99, 100, 101, 102]⟩
theorem digs16_fin : ∀ i : Fin 16, digs16.data.toList.getD i.val 0 = hexDig i.val := by decide
theorem hexdig_at (y : Int) (h0 : 0 ≤ y) (h1 : y ≤ 15) (w : World) : (Instr.index 9 (.string ⟨#[48, 49, 50, 51, 52, 53, 54, 55, 56, 57, 97, 98, 99, 100, 101, 102]⟩) (.int .u8 y)).run Tryd.prog w = .ok (.int .u8 ((hexDig y.toNat).toNat : Int)) w := by
  show (Instr.index 9 (.string digs16) (.int .u8 y)).run Tryd.prog w = _
  have hsz : digs16.size = 16 := rfl
  rw [run_index_string w 9 digs16 .u8 _ Tryd.underlying9, dif_pos ⟨h0, by rw [hsz]; omega⟩]
  have e := digs16_fin ⟨y.toNat, by omega⟩
  have e2 := str_at digs16 y.toNat (by rw [hsz]; omega)
  rw [e2, byteAt, e]

set_option maxHeartbeats 1000000 in
theorem hex_any (a : Option Addr) (n cap : Nat) (l : List UInt8) (w : World) (hv : IsB w (.slice a n cap) l) (hlim : l.length ≤ 1000000) :
    Calls Tryd.prog 18 #[.slice a n cap] w fun e w' => e = .returned (.string ⟨(hexL l).toArray⟩) ∧ Below w.heap.size w w' := by
  obtain ⟨rfl, h1, h2, h3⟩ := hv.cells
  obtain ⟨i0, hi, hz0, hz1, hz2⟩ := info_parts info5
  have hcell : ∀ k, k < l.length → ∃ ad : Addr, a = some ad ∧ ad.block < w.heap.size ∧ w.cell? (ad.add k) = some (.int .u8 (byteAt l k)) := by
    intro k hk
    obtain ⟨ad, e1, e2, e3⟩ := h3 (by omega)
    exact ⟨ad, e1, e2, e3 k _ (byteVals_getElem? l k hk)⟩
  have HC := Lib.hid hcell
  have hlim2 : 2 * l.length ≤ maxLen := by unfold maxLen; omega
  clear hcell h3 hv
  go_enter Tryd.func18, Tryd.ntmps18
  go_wp2_with (at_make; refine wpList_make_own _ rfl (.const (.int .i64 0)) (.tmp 8) 22 rfl w.heap.size 5 i0 (.int .u8 0) 1 Tryd.underlying22 hi hz0 hz1 .i64 .i64 _ (2 * l.length) rfl rfl (by omega) (by rw [hz2]; omega) hlim2 (Nat.le_refl _) ?_; intro w1 ho hg; refine Hid.out ?_)
  refine Lib.hid ?_
  have hb1 : Below w.heap.size w w1 := (Below.refl _ _).grown hg (Nat.le_refl _) (fun k h => by cases h)
  clear hg
  go_wp2
  go_loopw [3, 5, 12] (fun v _ i wr => ∃ k : Nat, k ≤ l.length ∧ i = .int .i64 k ∧ v = .slice (some ⟨w.heap.size, 0, none⟩) (2 * k) (2 * l.length) ∧ wr.ownsRow w.heap.size 5 1 (.slice (some ⟨w.heap.size, 0, none⟩) (2 * k) (2 * l.length)) (2 * k) (byteVals (hexL (l.take k))) ∧ Below w.heap.size w wr) (fun _ _ i _ => l.length - (intOf i).toNat)
  case atStart => exact ⟨0, Nat.zero_le _, rfl, rfl, ho, hb1⟩
  case round =>
    obtain ⟨k, hk, rfl, rfl, hown, hbw⟩ := hrel
    by_cases hlt : k < l.length
    · obtain ⟨ad, rfl, hblk, hcell⟩ := HC.out k hlt
      have hc2 : wr.cell? (ad.add k) = some (.int .u8 (byteAt l k)) := by
        rw [hbw.cell (p := ad.add k) (by unfold Addr.add; split <;> exact hblk)]; exact hcell
      have b0 := byteAt_nonneg l k
      have b1 := byteAt_le l k
      have hsucc := hexL_take_succ l k hlt
      have HS := Lib.hid hsucc
      clear hsucc hcell
      generalize byteAt l k = x at *
      have hand := and_15 x b0 b1
      have i1 := hexdig_at (x / 16) (by omega) (by omega)
      have i2 := hexdig_at (x % 16) (by omega) (by omega)
      go_wp2
      go_region_law (refine step_append_fits rfl (.tmp 16) (.tmp 23) 22 rfl w.heap.size 5 i0 1 Tryd.underlying22 hi hz1 _ _ _ _ rfl _ 2 2 [.int .u8 ((hexDig (x / 16).toNat).toNat : Int), .int .u8 ((hexDig (x % 16).toNat).toNat : Int)] rfl rfl (by intro u hu; simp at hu; rcases hu with rfl | rfl <;> rfl) (by omega) (by exact (hown.alloc _).drew) (by exact cell_two_new _ _ _ _) ?_; intro w2 ho2 hg2)
      all_goals
        have hb2 : Below w.heap.size w w2 := (hbw.alloc hbw.size _).drew.grown hg2 (by have := hbw.size; simp; omega) (fun j h => by cases h; exact Nat.le_refl _)
        have hx1 : (x / 16).toNat = x.toNat / 16 := by omega
        have hx2 : (x % 16).toNat = x.toNat % 16 := by omega
        have hrow : byteVals (hexL (l.take (k + 1))) = byteVals (hexL (l.take k)) ++ [.int .u8 ((hexDig (x / 16).toNat).toNat : Int), .int .u8 ((hexDig (x % 16).toNat).toNat : Int)] := by
          rw [HS.out, hx1, hx2]; simp [byteVals]
        rw [← hrow] at ho2
        clear hrow hg2 hx1 hx2 hand i1 i2 hc2
        go_wp2
        go_roundw
        case rel => exact ⟨k + 1, by omega, by go_num, rfl, ho2, hb2⟩
        case measure => simp [intOf]; omega
    · have ek : l.take k = l := List.take_of_length_le (by omega)
      rw [ek] at hown
      have hconv := (IsB.of_owned hown).conv Tryd.underlying22 Tryd.underlying5 Tryd.underlying9
      clear ek hown
      go_wp2
      go_ret
      exact ⟨rfl, hbw⟩

open Go.Sort in
theorem below_grow (w : World) (k : Nat) (os : Array Obj) : Below w.heap.size w (grow (w.drewN k) os) :=
  ⟨rfl, rfl, rfl, by simp [grow, World.drewN], fun j hj => by
    show (w.heap ++ os)[j]? = _
    rw [Array.getElem?_append_left hj]⟩

theorem digits_any (n : Int) (w : World) (h0 : -9223372036854775808 ≤ n) (h1 : n ≤ 9223372036854775807) (htab : Lib.TabIs Tryd.prog w "internal/strconv.uint64pow10" .u64 Lib.pow10Tab) :
    Calls Tryd.prog 22 #[.int .i64 n] w fun e w' => e = .returned (.string ⟨(Lib.itoa n).toArray⟩) ∧ Below w.heap.size w w' := by
  have HI := Lib.hid (Tryd.strconv_Itoa n h0 h1 w htab)
  clear htab
  go_enter Tryd.func22, Tryd.ntmps22
  go_wp2_with (go_at_call 32; refine HI.out.mono ?_; rintro e w' ⟨rfl, k, os, rfl⟩)
  go_ret
  exact ⟨rfl, below_grow w k os⟩
end Go.Proofs.YticmkdjdoljmiaaDoor
