/- Package ip6: Put. Proved: what it returns. -/
import Derived.Test.YtemocbcibnccpaaSix4
import Derived.Test.YtemocbcibnccpaaCat2
import Derived.Test.YtemocbcibnccpaaSum2
import Derived.Laws.BitsAllLaws
namespace Go.Proofs.Ytemocbcibnccpaa
open Go Go.RowKit

theorem rows_four (W : World) (g : Nat) (hg : g = W.heap.size) (v1 v2 v3 v4 : Value) (l1 l2 l3 l4 : List UInt8) (h1 : IsB W v1 l1) (h2 : IsB W v2 l2) (h3 : IsB W v3 l3) (h4 : IsB W v4 l4) : IsRows (W.alloc (.cells #[v1, v2, v3, v4] 22)) (.slice (some ⟨g, 0, none⟩) 4 4) [l1, l2, l3, l4] :=
  hg ▸ isRows_built W [v1, v2, v3, v4] [l1, l2, l3, l4] _ rfl 4 rfl rfl (by simp) fun i hi _ => by
    match i, hi with
    | 0, _ => exact h1
    | 1, _ => exact h2
    | 2, _ => exact h3
    | 3, _ => exact h4

theorem or_first (c f F : Nat) (hc : c ≤ 255) (hf : f ≤ 1048575) (hF : 1610612736 + c * 1048576 + f = F) : bits .or .u64 (bits .or .u64 1610612736 ((c : Int) * 1048576)) (f : Int) = (F : Int) := by
  rw [← hF]
  rw [show ((1610612736 : Int)) = ((1610612736 : Nat) : Int) from rfl, show ((c : Int) * 1048576) = ((c * 1048576 : Nat) : Int) by omega, u64_or_nat _ _ (by omega) (by omega), nat_join 28 _ _ (by decide) (by omega), u64_or_nat _ _ (by omega) (by omega), nat_join 20 _ _ (by omega) (by omega)]
theorem or_second (n x t S : Nat) (hn : n ≤ 65535) (hx : x ≤ 255) (ht : t ≤ 255) (hS : n * 65536 + x * 256 + t = S) : bits .or .u64 (bits .or .u64 ((n : Int) * 65536) ((x : Int) * 256)) (t : Int) = (S : Int) := by
  rw [← hS]
  rw [show ((n : Int) * 65536) = ((n * 65536 : Nat) : Int) by omega, show ((x : Int) * 256) = ((x * 256 : Nat) : Int) by omega, u64_or_nat _ _ (by omega) (by omega), nat_join 16 _ _ (by omega) (by omega), u64_or_nat _ _ (by omega) (by omega), nat_join 8 _ _ (by omega) (by omega)]
theorem or_both6 (F S M : Nat) (hF : F < 4294967296) (hS : S < 4294967296) (hM : F * 4294967296 + S = M) : bits .or .u64 (IntKind.u64.wrap ((F : Int) * 4294967296)) (S : Int) = (M : Int) := by
  rw [← hM, show IntKind.u64.wrap ((F : Int) * 4294967296) = (F : Int) * 4294967296 by rw [IntKind.wrap_u64]; omega]
  rw [show ((F : Int) * 4294967296) = ((F * 4294967296 : Nat) : Int) by omega, u64_or_nat _ _ (by omega) (by omega), nat_join 32 _ _ (by omega) (by omega)]
theorem low_eight (F n : Nat) (x t : UInt8) (hn : n ≤ 65535) : lowB 8 (F * 4294967296 + (n * 65536 + x.toNat * 256 + t.toNat)) = lowB 4 F ++ lowB 2 n ++ [x, t] := by
  have hx := UInt8.toNat_lt x
  have ht := UInt8.toNat_lt t
  simp only [lowB, Nat.pow_succ, Nat.pow_zero, Nat.one_mul, Nat.div_one, List.cons_append, List.nil_append]
  refine congr (congrArg List.cons ?_) (congr (congrArg List.cons ?_) (congr (congrArg List.cons ?_) (congr (congrArg List.cons ?_) (congr (congrArg List.cons ?_) (congr (congrArg List.cons ?_) (congr (congrArg List.cons ?_) (congr (congrArg List.cons ?_) rfl)))))))
  all_goals
    apply UInt8.toNat.inj
    simp only [UInt8.toNat_ofNat']
    omega
theorem zeros8 : (madeCells (Value.int IntKind.u8 0).cells (8 * 1)).toList = byteVals [0, 0, 0, 0, 0, 0, 0, 0] := by kernel_rfl
theorem fit8 (F S : Nat) (hF : F < 4294967296) (hS : S < 4294967296) : fitB (F * 4294967296 + S) 8 = true ∧ ((F * 4294967296 + S : Nat) : Int) < 18446744073709551616 := by
  constructor
  · refine decide_eq_true ?_
    show F * 4294967296 + S < 256 ^ 8
    omega
  · omega
theorem put8_row (F n S M : Nat) (x t : UInt8) (hF : F < 4294967296) (hn : n ≤ 65535) (hS2 : n * 65536 + x.toNat * 256 + t.toNat = S) (hM : F * 4294967296 + S = M) (a : Option Addr) (m cap : Nat) (W : World) (h : IsB W (.slice a m cap) [0, 0, 0, 0, 0, 0, 0, 0]) :
    Calls Try.prog 20 #[.slice a m cap, .int .i64 0, .int .i64 8, .int .u64 (M : Int)] W fun e w' =>
      e = .returned (.tuple #[.slice (some ⟨W.heap.size, 0, none⟩) 8 8, .bool true]) ∧ RowIs w' W.heap.size (lowB 4 F ++ lowB 2 n ++ [x, t]) ∧ Below W.heap.size W w' := by
  have hx := UInt8.toNat_lt x
  have ht := UInt8.toNat_lt t
  have hS : n * 65536 + x.toNat * 256 + t.toNat < 4294967296 := by omega
  subst hS2 hM
  have h8 := put_row a m cap [0, 0, 0, 0, 0, 0, 0, 0] 0 8 (F * 4294967296 + (n * 65536 + x.toNat * 256 + t.toNat)) W h (by simp) (fit8 F _ hF hS).2 (by omega) (by omega) (by omega) (by simp) (fit8 F _ hF hS).1
  rw [show curL [0, 0, 0, 0, 0, 0, 0, 0] (0 : Int).toNat (8 : Int).toNat (F * 4294967296 + (n * 65536 + x.toNat * 256 + t.toNat)) (8 : Int).toNat = lowB 8 (F * 4294967296 + (n * 65536 + x.toNat * 256 + t.toNat)) ++ [] from rfl, low_eight F n x t hn, List.append_nil] at h8
  exact h8

set_option maxHeartbeats 1000000 in
theorem put6_arg (h : Hdr6) (b : Value) (w : World) (hf : h.flow < 0 ∨ (0 ≤ h.flow ∧ 1048575 < h.flow)) :
    Calls Try.prog 12 #[h.val, b] w fun r w' => r = .returned (.tuple #[.slice none 0 0, .int .i64 1]) ∧ Below w.heap.size w w' := by
  have c1 : (w.alloc (.cells h.cells 26)).cell? ⟨w.heap.size, 1, none⟩ = some (.int .i64 h.flow) := hdr6_cell (heap_alloc_new w _) 1
  rw [show h.val = .agg h.cells from rfl]
  generalize h.flow = O at *
  rcases hf with h1 | ⟨h1, h2⟩
  all_goals
    go_enter Try.func12, Try.ntmps12
    go_wp2
    go_ret2
    exact ⟨rfl, (Below.refl _ _).alloc (Nat.le_refl _) _⟩

/-- What Put reads of the header in its box. -/
def Put6S (g : Nat) (h : Hdr6) (W : World) : Prop := W.heap[g]? = some (.cells h.cells 26 (0, 0))
set_option maxRecDepth 100000 in
set_option maxHeartbeats 4000000 in
theorem put6_own (h : Hdr6) (a : Option Addr) (n cap : Nat) (body : List UInt8) (w : World) (f : h.fit) (hv : IsB w (.slice a n cap) body) (hall : 40 + body.length ≤ 65535) :
    Calls Try.prog 12 #[h.val, .slice a n cap] w fun r w' => (∃ v, r = .returned (.tuple #[v, .int .i64 0]) ∧ w'.ownsRow w.heap.size 5 1 v (put6 h body).length (byteVals (put6 h body))) ∧ Below w.heap.size w w' := by
  obtain ⟨rfl, hv1, hv2, -⟩ := hv.cells
  have hg := heap_alloc_new w (.cells h.cells 26)
  have hb0 : Below w.heap.size w (w.alloc (.cells h.cells 26)) := (Below.refl _ _).alloc (Nat.le_refl _) _
  obtain ⟨fl, hfl⟩ := Int.eq_ofNat_of_zero_le f.f0
  have hfl1 : fl ≤ 1048575 := by have := f.f1; omega
  have c0 : (w.alloc (.cells h.cells 26)).cell? ⟨w.heap.size, 0, none⟩ = some (.int .u8 (h.cls.toNat : Int)) := hdr6_cell hg 0
  have c1 : (w.alloc (.cells h.cells 26)).cell? ⟨w.heap.size, 1, none⟩ = some (.int .i64 (fl : Int)) := by rw [hdr6_cell hg 1, ← hfl]; rfl
  have c3 : (w.alloc (.cells h.cells 26)).cell? ⟨w.heap.size, 3, none⟩ = some (.int .u8 (h.next.toNat : Int)) := hdr6_cell hg 3
  have c4 : (w.alloc (.cells h.cells 26)).cell? ⟨w.heap.size, 4, none⟩ = some (.int .u8 (h.ttl.toNat : Int)) := hdr6_cell hg 4
  have b0 := UInt8.toNat_lt h.cls
  have b3 := UInt8.toNat_lt h.next
  have b4 := UInt8.toNat_lt h.ttl
  have hF : 1610612736 + h.cls.toNat * 1048576 + fl = h.first := by unfold Hdr6.first; rw [hfl]; omega
  have hFlt := first_lt f
  obtain ⟨S2, hS2⟩ : ∃ S2 : Nat, body.length * 65536 + h.next.toNat * 256 + h.ttl.toNat = S2 := ⟨_, rfl⟩
  have hSlt : S2 < 4294967296 := by omega
  obtain ⟨M, hM⟩ : ∃ M : Nat, h.first * 4294967296 + S2 = M := ⟨_, rfl⟩
  have O1 := Lib.hid (or_first h.cls.toNat fl h.first (by omega) hfl1 hF)
  have O2 := Lib.hid (or_second body.length h.next.toNat h.ttl.toNat S2 (by omega) (by omega) (by omega) hS2)
  have O3 := Lib.hid (or_both6 h.first S2 M hFlt hSlt hM)
  have HP := Lib.hid (put8_row h.first body.length S2 M h.next h.ttl hFlt (by omega) hS2 hM)
  clear hF hS2 hM hFlt hSlt
  have HV := Lib.hid hv
  have HF := Lib.hid f
  have HG := Lib.hid hg
  have HB0 := Lib.hid hb0
  have HPut : Hid (put6 h body = lowB 4 h.first ++ lowB 2 body.length ++ [h.next, h.ttl] ++ h.src ++ h.dst ++ body) := rfl
  have HLen := Lib.hid (put6_length f body)
  clear f hv hg hb0 hfl
  rw [show h.val = .agg h.cells from rfl]
  generalize hc0 : h.cls.toNat = x0 at *
  generalize hc3 : h.next.toNat = x3 at *
  generalize hc4 : h.ttl.toNat = x4 at *
  generalize hFF : h.first = F at *
  obtain ⟨i0, hi, hz0, hz1, hz2⟩ := info_parts info5
  have HZ := Lib.hid hz2
  clear hz2
  go_enter Try.func12, Try.ntmps12
  go_wp2_with (at_make; refine Hid.out ?_)
  rw [O1.out, O2.out]
  refine Lib.hid ?_
  refine wpList_make_full _ rfl (.const (.int .i64 8)) (.const (.int .i64 8)) 22 rfl (w.heap.size + 1) 5 i0 (.int .u8 0) 1 Try.underlying22 hi hz0 hz1 .i64 .i64 _ _ 8 rfl rfl rfl rfl (by rw [HZ.out]; omega) (by unfold maxLen; omega) (by simp) ?_
  intro w1 ho hgr
  rw [zeros8, World.size_alloc] at ho
  have hb1 : Below (w.heap.size + 1) (w.alloc (.cells h.cells 26)) w1 := by
    have hx := (Below.refl (w.heap.size + 1) (w.alloc (.cells h.cells 26))).grown hgr (by simp) (fun k h => by cases h)
    exact hx
  have H1 := Lib.hid (HP.out _ _ _ w1 (IsB.of_owned ho))
  have hg1 := (hb1.block w.heap.size (by omega)).trans HG.out
  have B1 : Below w.heap.size w w1 := below_up HB0.out (by rw [World.size_alloc]; exact hb1) HB0.out.size
  have G1 := Lib.hid hg1
  have HB1 := Lib.hid B1
  clear ho hgr HP hb1 hg1 B1 c0 c1 c3 c4
  go_wp2_with (go_at_call 20; rw [O3.out]; refine H1.out.mono ?_; rintro e w2 ⟨rfl, hr2, b2⟩; refine Hid.out ?_)
  refine Lib.hid ?_
  go_wp2_with fail
  have G2 : Put6S w.heap.size h w2 := (b2.block w.heap.size (Array.getElem?_eq_some_iff.1 G1.out).1).trans G1.out
  have B2 := below_up HB1.out b2 HB1.out.size
  have i1 : IsB w2 (.slice (some ⟨w1.heap.size, 0, none⟩) 8 8) (lowB 4 F ++ lowB 2 body.length ++ [h.next, h.ttl]) := hr2.isB (by simp [lowB_length, maxLen])
  refine wp_region_noPanic ?_
  refine wp_region_held_drew (S := Put6S w.heap.size h) (by kernel_rfl) G2 (fun hHeld => ?_)
  refine held_take (v := ?v132) 0 rfl (by kernel_rfl) (by kernel_rfl) (by kernel_rfl) (fun _ _ _ h => h) (by rfl) ?y132 (by assumption) ?_
  case y132 => (intro w hSw; unfold Put6S at hSw; go_simp; (try with_reducible rfl); (try omega))
  simp only [List.setIfInBounds_toArray, List.set_cons_zero, List.set_cons_succ]
  refine held_take (v := ?v135) 1 rfl (by kernel_rfl) (by kernel_rfl) (by kernel_rfl) (fun _ _ _ h => h) (by rfl) ?y135 (by assumption) ?_
  case y135 => (intro w hSw; unfold Put6S at hSw; go_simp; (try with_reducible rfl); (try omega))
  simp only [List.setIfInBounds_toArray, List.set_cons_zero, List.set_cons_succ]
  refine held_take (v := ?v138) 2 rfl (by kernel_rfl) (by kernel_rfl) (by kernel_rfl) (fun _ _ _ h => h) (by rfl) ?y138 (by assumption) ?_
  case y138 => (intro w hSw; unfold Put6S at hSw; go_simp; (try with_reducible rfl); (try omega))
  simp only [List.setIfInBounds_toArray, List.set_cons_zero, List.set_cons_succ]
  refine held_take (v := ?v141) 3 rfl (by kernel_rfl) (by kernel_rfl) (by kernel_rfl) (fun _ _ _ h => h) (by rfl) ?y141 (by assumption) ?_
  case y141 => (intro w hSw; unfold Put6S at hSw; go_simp; (try with_reducible rfl); (try omega))
  simp only [List.setIfInBounds_toArray, List.set_cons_zero, List.set_cons_succ]
  refine held_take (v := ?v144) 4 rfl (by kernel_rfl) (by kernel_rfl) (by kernel_rfl) (fun _ _ _ h => h) (by rfl) ?y144 (by assumption) ?_
  case y144 => (intro w hSw; unfold Put6S at hSw; go_simp; (try with_reducible rfl); (try omega))
  simp only [List.setIfInBounds_toArray, List.set_cons_zero, List.set_cons_succ]
  refine held_take (v := ?v147) 5 rfl (by kernel_rfl) (by kernel_rfl) (by kernel_rfl) (fun _ _ _ h => h) (by rfl) ?y147 (by assumption) ?_
  case y147 => (intro w hSw; unfold Put6S at hSw; go_simp; (try with_reducible rfl); (try omega))
  simp only [List.setIfInBounds_toArray, List.set_cons_zero, List.set_cons_succ]
  refine held_one 6 rfl (by kernel_rfl) (by rfl) (fun K hK => ?_)
  go_simp
  have hne := (Array.getElem?_eq_some_iff.1 G2).1
  have i2 : IsB w2 (.slice (some ⟨w.heap.size, 5, none⟩) 16 16) h.src := by
    have := isB_of_range hne (hdr6_src G2) 16 (by rw [HF.out.s]; omega) (by simp [maxLen])
    rwa [HF.out.s] at this
  have i3 : IsB w2 (.slice (some ⟨w.heap.size, 21, none⟩) 16 16) h.dst := by
    have := isB_of_range hne (hdr6_dst ⟨HF.out.s, HF.out.d⟩ G2) 16 (by rw [HF.out.d]; omega) (by simp [maxLen])
    rwa [HF.out.d] at this
  have hrows := rows_four w2 w2.heap.size rfl _ _ _ _ _ _ _ _ i1 i2 i3 (HV.out.below B2)
  have hG3 : Put6S w.heap.size h (w2.alloc (.cells #[.slice (some ⟨w1.heap.size, 0, none⟩) 8 8, .slice (some ⟨w.heap.size, 5, none⟩) 16 16, .slice (some ⟨w.heap.size, 21, none⟩) 16 16, .slice a body.length cap] 22)).drew := (Below.heap_alloc w2 _ _ hne).trans G2
  have B3 := (B2.alloc B2.size (.cells #[.slice (some ⟨w1.heap.size, 0, none⟩) 8 8, .slice (some ⟨w.heap.size, 5, none⟩) 16 16, .slice (some ⟨w.heap.size, 21, none⟩) 16 16, .slice a body.length cap] 22)).drew
  have HLn : Hid ((lowB 4 F ++ lowB 2 body.length ++ [h.next, h.ttl] ++ h.src ++ h.dst ++ body).length = 40 + body.length) := by
    have := HLen.out
    rw [HPut.out] at this
    exact this
  have hfl : ([lowB 4 F ++ lowB 2 body.length ++ [h.next, h.ttl], h.src, h.dst, body] : List (List UInt8)).flatten = put6 h body := by
    rw [HPut.out]
    simp only [List.flatten_cons, List.flatten_nil, List.append_nil, List.append_assoc]
  have hrd := hrows.below ((Below.refl _ _).drew)
  have HCc := Lib.hid (concat_own _ _ _ hrd (by rw [hfl, HLen.out]; omega))
  rw [hfl] at HCc
  refine hK.out _ _ hG3 (fun hHeld3 => ?_)
  clear hK K hHeld hrows hrd i1 i2 i3 hr2 b2
  refine held_one 7 rfl (by kernel_rfl) (by rfl) (fun K hK => ?_)
  go_simp
  refine HCc.out.mono ?_
  rintro e w5 ⟨⟨v5, rfl, i5⟩, b5⟩
  have hG5 : Put6S w.heap.size h w5 := (b5.block _ (Array.getElem?_eq_some_iff.1 hG3).1).trans hG3
  refine hK.out _ _ hG5 (fun hHeld5 => ?_)
  clear hK K hHeld3
  refine held_take (v := ?v181) 8 rfl (by kernel_rfl) (by kernel_rfl) (by kernel_rfl) (fun _ _ _ h => h) (by rfl) ?y181 (by assumption) ?_
  case y181 => (intro w hSw; unfold Put6S at hSw; go_simp; (try with_reducible rfl); (try omega))
  simp only [List.setIfInBounds_toArray, List.set_cons_zero, List.set_cons_succ]
  refine held_take (v := ?v184) 9 rfl (by kernel_rfl) (by kernel_rfl) (by kernel_rfl) (fun _ _ _ h => h) (by rfl) ?y184 (by assumption) ?_
  case y184 => (intro w hSw; unfold Put6S at hSw; go_simp; (try with_reducible rfl); (try omega))
  simp only [List.setIfInBounds_toArray, List.set_cons_zero, List.set_cons_succ]
  refine wpAnyH_done (by kernel_rfl) ?_ _
  refine NoPanic.normal ?_
  clear hHeld5
  go_wp2
  go_ret2
  exact ⟨⟨_, rfl, own_mono i5 B3.size⟩, below_up B3 b5 B3.size⟩
end Go.Proofs.Ytemocbcibnccpaa
