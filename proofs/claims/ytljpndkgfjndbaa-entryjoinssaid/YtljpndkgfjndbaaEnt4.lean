/- The function that tells what stands in bytes, entry by entry (entries of package entry). Proved: its contract, for every loop body that keeps what lay. -/
import Derived.RangeFuncNested
import Derived.RangeFuncBound
import Derived.RangeFuncCalls
import Derived.RangeFuncLeaves
import Derived.Shelf.Abstract
import Derived.Shelf.RegionOpen
import Derived.WalkKit
import Derived.OwnWalkIn
import Derived.TacticsInMore
import Derived.LoopNIn
import Derived.LoopIn
import Derived.Test.YtljpndkgfjndbaaEnt2
import Derived.Test.YtljpndkgfjndbaaBaseMore
namespace Go.Proofs.Ytljpndkgfjndbaa
open Go Go.RowKit Go.Shelf
attribute [local go_sem] Oper.semAt_some

/-- What comes first, second, .. of bytes. -/
def itemE (bs : List UInt8) (k : Nat) : Ent × Int := (unpE (bs.drop (4 * k)), unpC (bs.drop (4 * k)))
def uptoE (bs : List UInt8) (k : Nat) : List (Ent × Int) := (List.range k).map (itemE bs)
theorem uptoE_succ (bs : List UInt8) (k : Nat) : uptoE bs (k + 1) = uptoE bs k ++ [itemE bs k] := by simp [uptoE, List.range_succ]
theorem uptoE_length (bs : List UInt8) (k : Nat) : (uptoE bs k).length = k := by simp [uptoE]
theorem uptoE_prefix (bs : List UInt8) {j k : Nat} (h : j ≤ k) : uptoE bs j <+: uptoE bs k := by
  obtain ⟨d, rfl⟩ := Nat.le.dest h
  rw [uptoE, uptoE, List.range_add, List.map_append]
  exact List.prefix_append _ _
/-- All that comes of bytes: each four of them, and what is left. -/
def itemsE (bs : List UInt8) : List (Ent × Int) := uptoE bs (bs.length / 4 + 1)
def sliceLen : Value → Nat
  | .slice _ n _ => n
  | _ => 0
theorem grown_of_below {w w' : World} (h : Below w.heap.size w w') : w.grownBy w' none := ⟨h.os, h.tape, h.output, h.size, fun k hk _ => h.block k hk⟩

set_option maxRecDepth 100000 in
set_option maxHeartbeats 1000000 in
theorem entries1_in (n : Nat) (_hn : 1 ≤ n) (l Bn : Nat) (a : Option Addr) (len cap : Nat) (bs : List UInt8) (w0 : World) (hv : IsB w0 (.slice a len cap) bs) (J Jx : List (Ent × Int) → World → Prop)
    (hY : ∀ pre x W, J pre W → pre.length < bs.length / 4 + 1 → YieldAt Fence.wide (n - 1) Try.prog l #[x.1.val, .int .i64 x.2] W fun e W' =>
      (e = .returned (.bool true) ∧ J (pre ++ [x]) W' ∧ Below w0.heap.size W W') ∨ (e = .returned (.bool false) ∧ Jx (pre ++ [x]) W'))
    (W : World) (hJ : AbidesFrom W.heap.size J) (hW : Below w0.heap.size w0 W) (hBn : W.cell? ⟨Bn, 0, none⟩ = some (.slice a len cap)) (h0 : J [] W) :
    CallsIn Fence.wide n Try.prog 31 #[.func (.yield l) #[] #[], .pointer (some ⟨Bn, 0, none⟩)] W fun e W' => (∃ v, e = .returned v) ∧
      ((∃ ys, ys = itemsE bs ∧ J ys W') ∨ (∃ pre, pre <+: itemsE bs ∧ Jx pre W')) := by
  refine callsIn_of_wp Try.func31 rfl trivial ?_ rfl
  simp only [Try.ntmps31, List.size_toArray, List.length_cons, List.length_nil, Nat.reduceAdd, Nat.reduceSub, Array.replicate_succ, Array.replicate_zero, List.push_toArray, List.append_toArray, List.nil_append, List.cons_append]
  gi_wp2
  gi_loopw [3] (fun r wr => ∃ (k : Nat) (a' : Option Addr) (n' c' : Nat), r = .slice a' n' c' ∧ IsB w0 (.slice a' n' c') (bs.drop (4 * k)) ∧ 4 * k ≤ bs.length ∧ J (uptoE bs k) wr ∧ Below w0.heap.size w0 wr) (fun r _ => sliceLen r)
  case atStart => exact ⟨0, a, len, cap, rfl, by simpa using hv, by omega, h0, hW⟩
  case round =>
    obtain ⟨k, a', n', c', rfl, hb, hk, hJs, hB⟩ := hrel
    have HU := Lib.hid (unpack_any a' n' c' (bs.drop (4 * k)) wr (hb.below hB))
    obtain ⟨x, hx⟩ : ∃ x, x = unpE (bs.drop (4 * k)) := ⟨_, rfl⟩
    obtain ⟨c, hc⟩ : ∃ c, c = unpC (bs.drop (4 * k)) := ⟨_, rfl⟩
    rw [← hx, ← hc] at HU
    have HI : Hid (itemE bs k = (x, c)) := Lib.hid (by rw [hx, hc]; rfl)
    have HC := Lib.hid hc
    clear hx hc
    have HY := Lib.hid (fun W' (h : Below wr.heap.size wr W') => hY (uptoE bs k) (x, c) W' (hJ _ _ _ none hJs (grown_of_below h) (fun r e => by cases e)) (by rw [uptoE_length]; omega))
    obtain ⟨L, C, B, T⟩ := x
    unfold Ent.val at HU HY
    simp only at HU HY
    have HK := Lib.hid hk
    clear hk
    gi_wp2_with (refine ⟨trivial, ?_⟩; gi_at_call 11; refine (callsIn_wide.2 HU.out).mono ?_; rintro e w1 ⟨rfl, hb1⟩; refine Hid.out ?_)
    refine Lib.hid ?_
    obtain ⟨fn, tmps, assign, body, hy, hR⟩ := HY.out (w1.alloc (.cells #[.int .i64 L, .int .u8 C, .bool B, .int .u8 T] 23)) (hb1.alloc hb1.size _)
    gi_wp2
    refine hR.mono ?_
    obtain ⟨hn', q1, q2, -⟩ := hb.cells
    have HN := Lib.hid hn'
    rw [← hn'] at q1
    unfold maxLen at q2
    have hlen : (bs.drop (4 * k)).length = bs.length - 4 * k := by simp
    have HLEN := Lib.hid hlen
    have hitem := HI.out
    have hB1 : Below w0.heap.size w0 (w1.alloc (.cells #[.int .i64 L, .int .u8 C, .bool B, .int .u8 T] 23)) := below_up hB (hb1.alloc hb1.size _) hB.size
    have HB1 := Lib.hid hB1
    have HBB := Lib.hid hb
    have HTAIL := Lib.hid (fun h => hb.tail (k := 4) h)
    clear hn' hlen hb hB1 HY hy hR
    rintro e W3 (⟨rfl, hJ3, hk3⟩ | ⟨rfl, hJx3⟩)
    · rw [← hitem, ← uptoE_succ] at hJ3
      have HJ3 := Lib.hid hJ3
      clear hJ3 hitem
      by_cases h4 : 4 ≤ n'
      · obtain rfl : c = 0 := by rw [HC.out, unpC, if_pos (by have := HN.out; omega)]
        gi_wp2
        go_roundw
        case rel =>
          refine ⟨k + 1, _, _, _, rfl, ?_, by have := HN.out; have := HLEN.out; omega, HJ3.out, HB1.out.trans hk3⟩
          have := HTAIL.out (by have := HN.out; omega)
          rw [List.drop_drop, show 4 * k + 4 = 4 * (k + 1) by omega] at this
          exact this
        case measure => simp [sliceLen]; omega
      · obtain rfl : c = 10 := by rw [HC.out, unpC, if_neg (by have := HN.out; omega)]
        gi_wp2
        refine bodyPost_ret (results_none rfl _ _ _) rfl ?_
        refine ⟨⟨_, rfl⟩, .inl ⟨_, ?_, HJ3.out⟩⟩
        rw [itemsE, show bs.length / 4 = k by have := HN.out; have := HLEN.out; have := HK.out; omega]
    · rw [← hitem, ← uptoE_succ] at hJx3
      gi_wp2
      refine bodyPost_ret (results_none rfl _ _ _) rfl ?_
      exact ⟨⟨_, rfl⟩, .inr ⟨_, uptoE_prefix bs (by have := HK.out; omega), hJx3⟩⟩

set_option maxHeartbeats 1000000 in
theorem entries_in (n : Nat) (a : Option Addr) (len cap : Nat) (w : World) :
    CallsIn Fence.wide n Try.prog 24 #[.slice a len cap] w fun e w' => e = .returned (.func (.func 31) #[] #[.pointer (some ⟨w.heap.size, 0, none⟩)]) ∧ w' = w.alloc (.cells #[.slice a len cap] 24) := by
  refine callsIn_of_wp Try.func24 rfl trivial ?_ rfl
  simp only [Try.ntmps24, List.size_toArray, List.length_cons, List.length_nil, Nat.reduceAdd, Nat.reduceSub, Array.replicate_succ, Array.replicate_zero, List.push_toArray, List.append_toArray, List.nil_append, List.cons_append]
  gi_wp2
  go_ret
  exact ⟨rfl, rfl⟩

/-- What entries hands back tells all that comes of the bytes, or a part, where a round has said 'no more'. -/
theorem entries_stops (n : Nat) (hn : 1 ≤ n) (Bn : Nat) (a : Option Addr) (len cap : Nat) (bs : List UInt8) (w0 w : World) (hv : IsB w0 (.slice a len cap) bs) (hw : Below w0.heap.size w0 w) (hBn : Bn < w.heap.size)
    (hc : w.cell? ⟨Bn, 0, none⟩ = some (.slice a len cap)) :
    SeqStopsK Fence.wide n Try.prog 31 #[.pointer (some ⟨Bn, 0, none⟩)] (fun x : Ent × Int => #[x.1.val, .int .i64 x.2]) (Below w0.heap.size) (fun ys => ys = itemsE bs) (fun pre => pre <+: itemsE bs) (bs.length / 4 + 1) w := fun l J Jx W hW hJ _ hY h0 =>
  entries1_in n hn l Bn a len cap bs w0 hv J Jx hY W hJ (below_up hw hW hw.size) ((hW.cell (p := ⟨Bn, 0, none⟩) hBn).trans hc) h0
end Go.Proofs.Ytljpndkgfjndbaa
