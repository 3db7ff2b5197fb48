/- The live examples of layer 2's statements hold. -/
import Derived.Test.YtfecgnhgkciebaaRf3
import Derived.Laws.IdiomStrings
import Derived.Lib.SlBytesConst
namespace Go.Proofs.Ytfecgnhgkciebaa
open Go Go.RowKit

/-- '[]byte(s)'. -/
theorem conv_bytes (w : World) (l : List UInt8) (hm : l.length ≤ 1000000) : ∃ a cap w', (convert 9 22 (.string ⟨l.toArray⟩)).run Try.prog w = .ok (.slice a l.length cap) w' ∧ IsB w' (.slice a l.length cap) l ∧ Below w.heap.size w w' := by
  have h := run_bytes_of_string (P := Try.prog) w 9 22 5 ⟨l.toArray⟩ Try.underlying9 Try.underlying22 Try.underlying5
  have hs : (⟨l.toArray⟩ : ByteArray).size = l.length := by simp [ByteArray.size]
  rw [hs] at h
  have hG := grownCap_ge w l.length 0 5
  have hG63 := grownCap_le_maxLen w l.length 0 5 (by unfold maxLen; omega)
  refine ⟨_, _, _, h, ⟨_, _, rfl, hG, hG63, fun hp => ⟨w.heap.size, 0, rfl, by simp, fun i hi => ?_⟩⟩, (Below.refl _ _).drew.alloc (Nat.le_refl _) _⟩
  rw [cell_of_row _ w.heap.size (0 + i) _ _ _ (heap_alloc_new w.drew _), Nat.zero_add, bytesRow_at _ _ _ (by simpa using hi)]
  simp [byteAt, List.getD, hi]

/-- '[]byte("..")' of a constant. -/
theorem conv_const (W : World) (l : List UInt8) (cs : Array Value) (hcs : cs = (byteVals l).toArray) (n : Nat) (hn : n = l.length) (hm : l.length ≤ 1000) :
    ∃ W', (convert 22 22 (.slice (some ⟨W.heap.size, 0, none⟩) n n)).run Try.prog (W.alloc (.cells cs 5)) = .ok (.slice (some ⟨W.heap.size, 0, none⟩) n n) W' ∧ IsB W' (.slice (some ⟨W.heap.size, 0, none⟩) n n) l ∧ Below W.heap.size W W' := by
  subst hn hcs
  refine ⟨_, Lib.run_convert_bytes_const W 22 5 _ _ _ Try.underlying22 Try.underlying5, IsB.of_row (heap_alloc_new W _) (by unfold maxLen; omega), (Below.refl _ _).alloc (Nat.le_refl _) _⟩

def exB : List UInt8 := [69, 0, 0, 115, 0, 0, 64, 0, 64, 17, 0, 0, 192, 168, 0, 1, 192, 168, 0, 199]
def exS : ByteArray := ⟨#[52, 53, 48, 48, 48, 48, 55, 51, 48, 48, 48, 48, 52, 48, 48, 48, 52, 48, 49, 49, 48, 48, 48, 48, 99, 48, 97, 56, 48, 48, 48, 49, 99, 48, 97, 56, 48, 48, 99, 55]⟩
theorem ex2_unhex (w : World) : Calls Try.prog 18 #[.string exS] w fun e w' => e = .returned (.tuple #[.string ⟨exB.toArray⟩, .bool true]) ∧ Below w.heap.size w w' := by
  have := runhex_any exS w (by decide)
  rw [show unhexL exS.data.toList = exB by decide, show unhexB exS.data.toList = true by decide] at this
  exact this
theorem ex2_of (v : Value) (w : World) (h : IsRows w v [exB]) : Calls Try.prog 11 #[v] w fun e w' => e = .returned (.int .u16 47201) ∧ Below w.heap.size w w' := by
  have := of_any v [exB] w h (by decide)
  rw [show ((65535 - fold16 (wsum false [exB].flatten) : Nat) : Int) = 47201 by decide] at this
  exact this
theorem ex2_check1 (v : Value) (w : World) (h : IsRows w v [exB]) : Calls Try.prog 13 #[v] w fun e w' => e = .returned (.bool false) ∧ Below w.heap.size w w' := by
  have := check_any v [exB] w h (by decide)
  rw [show ((fold16 (wsum false [exB].flatten) : Int) == 65535) = false by decide] at this
  exact this
theorem ex2_check2 (v : Value) (w : World) (h : IsRows w v [exB, [184, 97]]) : Calls Try.prog 13 #[v] w fun e w' => e = .returned (.bool true) ∧ Below w.heap.size w w' := by
  have := check_any v [exB, [184, 97]] w h (by decide)
  rw [show ((fold16 (wsum false [exB, [184, 97]].flatten) : Int) == 65535) = true by decide] at this
  exact this
theorem isRows_nil (w : World) : IsRows w (.slice none 0 0) [] := ⟨none, 0, rfl, Nat.le_refl _, by unfold maxLen; omega, fun h => by simp at h⟩
theorem ex2_raw (w : World) : Calls Try.prog 9 #[.slice none 0 0] w fun e w' => e = .returned (.int .u16 0) ∧ Below w.heap.size w w' := raw_any (.slice none 0 0) [] w (isRows_nil w) (by decide)
theorem ex2_pseudo (a1 : Option Addr) (n1 c1 : Nat) (a2 : Option Addr) (n2 c2 : Nat) (w : World) (h1 : IsB w (.slice a1 n1 c1) [97, 98, 99, 100]) (h2 : IsB w (.slice a2 n2 c2) [101, 102, 103, 104]) :
    Calls Try.prog 16 #[.slice a1 n1 c1, .slice a2 n2 c2, .int .u8 17, .int .i64 8] w fun e w' => (∃ a cap, e = .returned (.slice a 12 cap)) ∧ Below w.heap.size w w' := by
  have := pseudo_any a1 n1 c1 a2 n2 c2 _ _ 17 17 8 w (by decide) h1 h2 (by decide) (by decide) (by decide)
  refine this.mono ?_
  rintro e w' ⟨⟨a, n, cap, rfl, hi⟩, hb⟩
  have hn := hi.cells.1
  rw [show (pseudoL [97, 98, 99, 100] [101, 102, 103, 104] 17 8).length = 12 by decide] at hn
  subst hn
  exact ⟨⟨_, _, rfl⟩, hb⟩
theorem ex2_turn (w : World) : Calls Try.prog 14 #[.int .u16 1, .int .u16 2, .int .u16 2] w fun e w' => e = .returned (.int .u16 1) ∧ w = w' := by
  have := turn_any 1 2 2 w (by decide) (by decide) (by decide)
  rw [show ((turnN 1 2 2 : Nat) : Int) = 1 by decide] at this
  exact this

set_option maxHeartbeats 2000000 in
theorem awake2_any (w : World) :
    Calls Try.prog 8 #[] w fun e w' => e = .returned (.bool true) ∧ Below w.heap.size w w' := by
  go_enter Try.func8, Try.ntmps8
  go_wp2_with (go_at_call 18; refine (ex2_unhex _).mono ?_; rintro e w1 ⟨rfl, b1⟩; refine Hid.out ?_)
  refine Lib.hid ?_
  obtain ⟨a2, c2, w2, hc2, i2, b2⟩ := conv_bytes w1 exB (by decide)
  rw [show exB.length = 20 from rfl] at hc2 i2
  have b2' := below_up b1 b2 b1.size
  have HO := Lib.hid (ex2_of _ _ (rows_one w2 _ rfl _ _ i2))
  clear b1 b2 i2
  go_wp2_with (go_at_call 11; refine HO.out.mono ?_; rintro e w3 ⟨rfl, b3⟩; refine Hid.out ?_)
  refine Lib.hid ?_
  have b3' := below_up (b2'.alloc b2'.size _) b3 (by have := b2'.size; simp; omega)
  clear hc2 HO b2' b3
  obtain ⟨a4, c4, w4, hc4, i4, b4⟩ := conv_bytes w3 exB (by decide)
  rw [show exB.length = 20 from rfl] at hc4 i4
  have b4' := below_up b3' b4 b3'.size
  have HO := Lib.hid (ex2_check1 _ _ (rows_one w4 _ rfl _ _ i4))
  clear b3' b4 i4
  go_wp2_with (go_at_call 13; refine HO.out.mono ?_; rintro e w5 ⟨rfl, b5⟩; refine Hid.out ?_)
  refine Lib.hid ?_
  have b5' := below_up (b4'.alloc b4'.size _) b5 (by have := b4'.size; simp; omega)
  clear hc4 HO b4' b5
  obtain ⟨a6, c6, w6, hc6, i6, b6⟩ := conv_bytes w5 exB (by decide)
  rw [show exB.length = 20 from rfl] at hc6 i6
  have b6' := below_up b5' b6 b5'.size
  have j6 := isB_built w6 [184, 97] #[.int .u8 184, .int .u8 97] rfl (by decide)
  have HO := Lib.hid (ex2_check2 _ _ (rows_two _ (w6.heap.size + 1) (by simp) _ _ _ _ (i6.below ((Below.refl _ _).alloc (Nat.le_refl _) _)) j6))
  clear b5' b6 i6 j6
  go_wp2_with (go_at_call 13; refine HO.out.mono ?_; rintro e w7 ⟨rfl, b7⟩; refine Hid.out ?_)
  refine Lib.hid ?_
  have b6'' := b6'.alloc b6'.size (.cells #[.int .u8 184, .int .u8 97] 5)
  have b7' := below_up (b6''.alloc b6''.size _) b7 (by have := b6'.size; simp; omega)
  clear hc6 HO b6' b6'' b7
  go_wp2_with (go_at_call 9; refine (ex2_raw _).mono ?_; rintro e w8 ⟨rfl, b8⟩; refine Hid.out ?_)
  refine Lib.hid ?_
  have b8' := below_up b7' b8 b7'.size
  clear b7' b8
  obtain ⟨w9, hc9, i9, b9⟩ := conv_const w8 [97, 98, 99, 100] #[.int .u8 97, .int .u8 98, .int .u8 99, .int .u8 100] rfl 4 rfl (by decide)
  obtain ⟨w10, hc10, i10, b10⟩ := conv_const w9 [101, 102, 103, 104] #[.int .u8 101, .int .u8 102, .int .u8 103, .int .u8 104] rfl 4 rfl (by decide)
  have HO := Lib.hid (ex2_pseudo _ _ _ _ _ _ _ (i9.below b10) i10)
  have b10' := below_up (below_up b8' b9 b8'.size) b10 (by have := b8'.size; have := b9.size; omega)
  clear i9 i10 b9 b8' b10
  go_wp2_with (go_at_call 16; refine HO.out.mono ?_; rintro e w11 ⟨⟨a11, c11, rfl⟩, b11⟩; refine Hid.out ?_)
  refine Lib.hid ?_
  have b11' := below_up b10' b11 b10'.size
  clear HO hc9 hc10 b10' b11
  go_wp2_with (go_at_call 14; refine (ex2_turn _).mono ?_; rintro e w12 ⟨rfl, rfl⟩)
  go_ret
  exact ⟨rfl, b11'⟩
end Go.Proofs.Ytfecgnhgkciebaa
