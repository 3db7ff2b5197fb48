/- Package ip6: read. Proved: what it returns. -/
import Derived.Test.YtemocbcibnccpaaSix2
import Derived.Test.YtemocbcibnccpaaSum1
namespace Go.Proofs.Ytemocbcibnccpaa
open Go Go.RowKit

theorem ofInt_i64' (a : Nat) (ha : a < 4294967296) : (BitVec.ofInt 64 (a : Int)).toNat = a := by
  rw [BitVec.ofInt_natCast, BitVec.toNat_ofNat]; exact Nat.mod_eq_of_lt (by omega)
theorem and_flow (a : Nat) (ha : a < 4294967296) : bits .and .i64 (a : Int) 1048575 = ((a % 1048576 : Nat) : Int) := by
  have e : a &&& 1048575 = a % 1048576 := Nat.and_two_pow_sub_one_eq_mod a 20
  show IntKind.i64.wrap ((BitVec.ofInt 64 (a : Int) &&& BitVec.ofInt 64 ((1048575 : Nat) : Int)).toNat : Int) = _
  rw [BitVec.toNat_and, ofInt_i64' a ha, ofInt_i64' 1048575 (by omega), e, IntKind.wrap_i64]
  omega
theorem numAt_one (l : List UInt8) (k : Nat) (h : k < l.length) : numAt l k 1 = (l.getD k 0).toNat := by
  unfold numAt
  rw [List.drop_eq_getElem_cons h]
  show numOf [l[k]] = _
  simp [numOf, List.getD, h]
theorem numAt_two (l : List UInt8) (k : Nat) (h : k + 1 < l.length) : numAt l k 2 = wordAt l k := by
  unfold numAt
  rw [List.drop_eq_getElem_cons (by omega), List.drop_eq_getElem_cons h]
  show numOf [l[k], l[k + 1]] = _
  simp [numOf, wordAt, List.getD, h, show k < l.length by omega]
theorem ip6R_wide (l : List UInt8) (h : 40 ≤ l.length) : (ip6R l).wide := by
  constructor
  · unfold ip6R; simp; omega
  · unfold ip6R; simp; omega
theorem u8_wrap_nat (n : Nat) : IntKind.u8.wrap (n : Int) = ((UInt8.ofNat (n % 256)).toNat : Int) := by
  rw [IntKind.wrap_u8, UInt8.toNat_ofNat_of_lt' (show n % 256 < 256 by omega)]
  omega
theorem ip6N_num (l : List UInt8) : numAt l 0 4 = ip6N l := rfl
set_option maxRecDepth 100000 in
set_option maxHeartbeats 4000000 in
theorem read6_any (a : Option Addr) (n cap : Nat) (l : List UInt8) (w : World) (hv : IsB w (.slice a n cap) l) (hlim : l.length ≤ 1000000) (h40 : 40 ≤ l.length) :
    Calls Try.prog 16 #[.slice a n cap] w fun r w' => r = .returned (ip6R l).val ∧ Below w.heap.size w w' := by
  have HW := Lib.hid (ip6R_wide l h40)
  have H1 := Lib.hid (fun W (hb : Below w.heap.size w W) (hg : W.cell? ⟨w.heap.size, 0, none⟩ = some (.slice a n cap)) k m (hk : k + m ≤ l.length) h1 h4 => read1_any a n cap l k m w.heap.size W (hv.below hb) hg hk h1 h4)
  have H2 := Lib.hid (fun W (hb : Below w.heap.size w W) (hg : W.cell? ⟨w.heap.size, 0, none⟩ = some (.slice a n cap)) (hl : w.heap.size < W.heap.size) k (hk : k + 16 ≤ l.length) => read2_any a n cap l k w.heap.size W (hv.below hb) hlim hg hl hk)
  have hmf := hmf
  have H40 := Lib.hid h40
  clear hv
  go_enter Try.func16, Try.ntmps16
  have z37 : ((#[.int .u8 0, .int .i64 0, .int .i64 0, .int .u8 0, .int .u8 0, .int .u8 0, .int .u8 0, .int .u8 0, .int .u8 0, .int .u8 0, .int .u8 0, .int .u8 0, .int .u8 0, .int .u8 0, .int .u8 0, .int .u8 0, .int .u8 0, .int .u8 0, .int .u8 0, .int .u8 0, .int .u8 0, .int .u8 0, .int .u8 0, .int .u8 0, .int .u8 0, .int .u8 0, .int .u8 0, .int .u8 0, .int .u8 0, .int .u8 0, .int .u8 0, .int .u8 0, .int .u8 0, .int .u8 0, .int .u8 0, .int .u8 0, .int .u8 0] : Array Value)) = hdrZero6.cells := rfl
  have hb1 : Below w.heap.size w ((w.alloc (.cells #[.slice a n cap] 22)).alloc (.cells hdrZero6.cells 26)) := ((Below.refl _ _).alloc (Nat.le_refl _) _).alloc (by simp) _
  have hc1 : ((w.alloc (.cells #[.slice a n cap] 22)).alloc (.cells hdrZero6.cells 26)).cell? ⟨w.heap.size, 0, none⟩ = some (.slice a n cap) := by
    rw [World.cell?_alloc_lt _ _ _ (by simp), cell_of_row _ w.heap.size 0 _ _ _ (heap_alloc_new w _)]; rfl
  have hg1 : ((w.alloc (.cells #[.slice a n cap] 22)).alloc (.cells hdrZero6.cells 26)).heap[w.heap.size + 1]? = some (.cells hdrZero6.cells 26 (0, 0)) := by
    have := heap_alloc_new (w.alloc (.cells #[.slice a n cap] 22)) (.cells hdrZero6.cells 26)
    rwa [World.size_alloc] at this
  rw [← z37] at hb1 hc1 hg1
  have HB1 := Lib.hid hb1
  have HC1 := Lib.hid hc1
  have HG1 := Lib.hid hg1
  clear hb1 hc1 hg1 z37
  go_wp2_with (go_at_call 24; refine (H1.out _ HB1.out HC1.out 0 4 (by have := H40.out; omega) (by omega) (by omega)).mono ?_; rintro e w' ⟨rfl, rfl⟩; refine Hid.out ?_)
  refine Lib.hid ?_
  generalize ((w.alloc (.cells #[.slice a n cap] 22)).alloc _) = w1 at *
  have H1a := Lib.hid (H1.out w1 HB1.out HC1.out 4 2 (by have := H40.out; omega) (by omega) (by omega))
  have H1b := Lib.hid (H1.out w1 HB1.out HC1.out 6 1 (by have := H40.out; omega) (by omega) (by omega))
  have H1c := Lib.hid (H1.out w1 HB1.out HC1.out 7 1 (by have := H40.out; omega) (by omega) (by omega))
  have hlt : w.heap.size < w1.heap.size := by have := (Array.getElem?_eq_some_iff.1 HG1.out).1; omega
  have H2a := Lib.hid (H2.out w1 HB1.out HC1.out hlt 8 (by have := H40.out; omega))
  have hN := numAt_lt l 0 4 (by omega)
  have hA := numAt_lt l 4 2 (by omega)
  have hB := numAt_lt l 6 1 (by omega)
  have hC := numAt_lt l 7 1 (by omega)
  generalize hn0 : numAt l 0 4 = n0 at *
  generalize hn4 : numAt l 4 2 = n4 at *
  generalize hn6 : numAt l 6 1 = n6 at *
  generalize hn7 : numAt l 7 1 = n7 at *
  have e4 : (n4 : Int) = (ip6R l).len := by rw [← hn4, numAt_two l 4 (by have := H40.out; omega)]; rfl
  have e6 : (n6 : Int) = ((ip6R l).next.toNat : Int) := by rw [← hn6, numAt_one l 6 (by have := H40.out; omega)]; rfl
  have e7 : (n7 : Int) = ((ip6R l).ttl.toNat : Int) := by rw [← hn7, numAt_one l 7 (by have := H40.out; omega)]; rfl
  have e0 : (n0 : Int) / 1048576 % 256 = ((ip6R l).cls.toNat : Int) := by
    rw [← hn0]
    show _ = ((UInt8.ofNat (numAt l 0 4 / 1048576 % 256)).toNat : Int)
    rw [UInt8.toNat_ofNat_of_lt' (show numAt l 0 4 / 1048576 % 256 < 256 by omega)]
    omega
  have e1 : bits .and .i64 (n0 : Int) 1048575 = (ip6R l).flow := by
    rw [and_flow n0 hN, ← hn0]; rfl
  have e8 : (l.drop 8).take 16 = (ip6R l).src := rfl
  have e24 : (l.drop 24).take 16 = (ip6R l).dst := rfl
  have b6 := UInt8.toNat_lt (ip6R l).next
  have b7 := UInt8.toNat_lt (ip6R l).ttl
  have q6 : (n6 : Int) ≤ 255 := by omega
  have q7 : (n7 : Int) ≤ 255 := by omega
  rw [e8] at H2a
  have H2' := Lib.hid (fun W hb hg hl => H2.out W hb hg hl 24 (by have := H40.out; omega))
  rw [e24] at H2'
  generalize hR : ip6R l = R at *
  have HRq := Lib.hid hR
  have E := Lib.hid (And.intro e0 (And.intro e1 (And.intro e4 (And.intro e6 e7))))
  clear H1 H2 hn0 hn4 hn6 hn7 hR e0 e1 e4 e6 e7 b6 b7 hlim h40 e8 e24 hB hC
  go_wp2_with (go_at_call 24; refine H1a.out.mono ?_; rintro e w' ⟨rfl, rfl⟩; refine Hid.out ?_)
  refine Lib.hid ?_
  go_wp2_with (go_at_call 24; refine H1b.out.mono ?_; rintro e w' ⟨rfl, rfl⟩; refine Hid.out ?_)
  refine Lib.hid ?_
  go_wp2_with (go_at_call 24; refine H1c.out.mono ?_; rintro e w' ⟨rfl, rfl⟩; refine Hid.out ?_)
  refine Lib.hid ?_
  clear H1a H1b H1c
  go_wp2_with (go_at_call 26; refine H2a.out.mono ?_; rintro e w2 ⟨rfl, b2⟩; refine Hid.out ?_)
  refine Lib.hid ?_
  have B2 := Lib.hid (below_up HB1.out b2 HB1.out.size)
  have C2 := (b2.cell (p := ⟨w.heap.size, 0, none⟩) hlt).trans HC1.out
  have G2 := Lib.hid ((b2.block (w.heap.size + 1) (Array.getElem?_eq_some_iff.1 HG1.out).1).trans HG1.out)
  have H2b := Lib.hid (H2'.out w2 B2.out C2 (Nat.lt_of_lt_of_le hlt b2.size))
  clear b2 H2a H2' HB1 HC1 HG1 C2
  go_wp2_with (go_at_call 26; refine H2b.out.mono ?_; rintro e w3 ⟨rfl, b3⟩; refine Hid.out ?_)
  refine Lib.hid ?_
  have B3 := Lib.hid (below_up B2.out b3 B2.out.size)
  have G3 := Lib.hid ((b3.block (w.heap.size + 1) (Array.getElem?_eq_some_iff.1 G2.out).1).trans G2.out)
  clear b3 H2b B2 G2
  obtain ⟨e0, e1, e4, e6, e7⟩ := E.out
  have E0 := Lib.hid (congrArg (Value.int .u8) e0)
  have E1 := Lib.hid (congrArg (Value.int .i64) e1)
  have E4 := Lib.hid (congrArg (Value.int .i64) e4)
  have E6 := Lib.hid (congrArg (Value.int .u8) e6)
  have E7 := Lib.hid (congrArg (Value.int .u8) e7)
  clear e0 e1 e4 e6 e7
  go_wp2_with (first | (refine wpList_build_hdr6 rfl (.tmp 12) (.tmp 14) (.tmp 16) (.tmp 19) (.tmp 22) (.tmp 24) (.tmp 26) rfl R HW.out E0.out E1.out E4.out E6.out E7.out rfl rfl ?_) | (refine wpList_store_hdr6 rfl (.tmp 2) (.tmp 27) rfl (w.heap.size + 1) R HW.out _ rfl rfl G3.out rfl ?_))
  exact bodyPost_ret (results_hdr6 Try.results16 _ _ (w.heap.size + 1) R HW.out rfl (setRow_heap _ _ _ _ _ _ G3.out)) rfl ⟨by rw [HRq.out], below_setRow B3.out (by omega) _⟩
end Go.Proofs.Ytemocbcibnccpaa
