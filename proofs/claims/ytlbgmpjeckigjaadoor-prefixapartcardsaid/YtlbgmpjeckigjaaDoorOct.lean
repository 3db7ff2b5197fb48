/- The small functions of package octet: part, field, fits, fresh, digit. Proved: what each returns, for every argument of its type. fresh, fits, digit of package octet. Cut and Get of package octet. fits and Put of package octet. digit, Number, Digits of package octet. Number and Digits of package octet. Steps of a region that draws its order: append within the capacity of a row of the call's own. Hex and Digits of package octet. Unhex of package octet. -/
import Derived.Test.YtlbgmpjeckigjaaDoorChecked
import Derived.Test.YtlbgmpjeckigjaaDoorBase
import Derived.Test.YtlbgmpjeckigjaaDoorShelf
import Derived.Lib.OthersKept
import Derived.Laws.RangeAny
import Derived.Test.YtlbgmpjeckigjaaDoorMathDecs
import Derived.Deep.RegionLaw
import Derived.Laws.OwnMore
import Derived.WalkKit
namespace Go.Proofs.YtlbgmpjeckigjaaDoor
open Go Go.RowKit

end Go.Proofs.YtlbgmpjeckigjaaDoor
namespace Go.Proofs.YtlbgmpjeckigjaaDoor
open Go Go.RowKit

theorem info5 : (Tryd.prog.info? 5).map (fun i => (i.zero, i.size, i.bytes)) = some (some (.int .u8 0), 1, 1) := by kernel_rfl
theorem size5 : (Tryd.prog.info? 5).map (·.size) = some 1 := by kernel_rfl

theorem splice_all {α : Type} (L cs : List α) (h : L.length = cs.length) : splice L 0 cs = cs := by
  unfold splice
  rw [List.take_zero, List.nil_append, Nat.zero_add, ← h, List.drop_length, List.append_nil]

theorem row_of_owned {w : World} {base g n : Nat} {e : TypeId} {xs : List Value} (h : w.ownsRow base e 1 (.slice (some ⟨g, 0, none⟩) n n) n xs) :
    w.heap[g]? = some (.cells xs.toArray e (0, 0)) := by
  obtain ⟨_, ⟨h1, _⟩ | ⟨g2, cap, cur, he, _, hg, _, _, hc, hx⟩⟩ := h
  · cases h1
  · simp only [Value.slice.injEq, Option.some.injEq, Addr.mk.injEq, and_true, true_and] at he
    obtain ⟨rfl, rfl⟩ := he
    rw [hg]
    congr 2
    rw [← hx, List.take_of_length_le (by simp; omega)]

end Go.Proofs.YtlbgmpjeckigjaaDoor
namespace Go.Proofs.YtlbgmpjeckigjaaDoor
open Go Go.RowKit

def inC (l : List UInt8) (t s : Int) : Bool := decide (0 ≤ t ∧ 0 ≤ s ∧ t + s ≤ l.length)
def cutL (l : List UInt8) (t s : Int) : List UInt8 := if inC l t s then (l.drop t.toNat).take s.toNat else []

theorem IsB.shape {w : World} {v : Value} {l : List UInt8} (h : IsB w v l) : ∃ a n cap, v = .slice a n cap := by
  obtain ⟨a, cap, rfl, _⟩ := h
  exact ⟨_, _, _, rfl⟩

def inG (l : List UInt8) (t s : Int) : Bool := decide (0 ≤ t ∧ 1 ≤ s ∧ s ≤ 8 ∧ t + s ≤ l.length)
def getN (l : List UInt8) (t s : Int) : Nat := if inG l t s then numOf ((l.drop t.toNat).take s.toNat) else 0

end Go.Proofs.YtlbgmpjeckigjaaDoor
namespace Go.Proofs.YtlbgmpjeckigjaaDoor
open Go Go.RowKit

def fitB (m : Nat) (s : Int) : Bool := decide (m < 256 ^ s.toNat)

theorem fit_div (m : Nat) (s : Int) (D : Nat) (hD : 256 ^ s.toNat = D) (h0 : 0 < D) : ((m : Int) / (D : Int) == 0) = fitB m s := by
  unfold fitB
  rw [hD, Bool.eq_iff_iff, beq_iff_eq, decide_eq_true_iff]
  constructor
  · intro h
    rcases Nat.lt_or_ge m D with h1 | h1
    · exact h1
    · exfalso
      have : 0 < m / D := Nat.div_pos h1 h0
      omega
  · intro h
    have : m / D = 0 := Nat.div_eq_of_lt h
    omega
theorem ret_bool {a b : Bool} (h : a = b) : Ending.returned (.bool a) = .returned (.bool b) := by rw [h]

def inP (l : List UInt8) (t s : Int) (m : Nat) : Bool := inG l t s && fitB m s
def putL (l : List UInt8) (t s : Int) (m : Nat) : List UInt8 := if inP l t s m then curL l t.toNat s.toNat m s.toNat else []

end Go.Proofs.YtlbgmpjeckigjaaDoor
namespace Go.Proofs.YtlbgmpjeckigjaaDoor
open Go Go.RowKit

set_option maxHeartbeats 1000000 in
theorem digit_any (r base : Int) (w : World) (h0 : 0 ≤ r) (h1 : r ≤ 2147483647) (hb : 10 ≤ base) (hb2 : base ≤ 16) :
    Calls Tryd.prog 59 #[.int .i32 r, .int .i64 base] w fun e w' => e = .returned (.tuple #[.int .i64 (digV r base), .bool (digB r base)]) ∧ w = w' := by
  by_cases c1 : 48 ≤ r ∧ r ≤ 57
  · have e := digit_fin r base (r - 48) (by unfold digW; rw [if_pos c1]) (by omega)
    rw [e.1, e.2]
    obtain ⟨c1, c2⟩ := c1
    clear e
    go_enter Tryd.func59, Tryd.ntmps59
    go_wp2
    go_ret2
    exact ⟨rfl, rfl⟩
  by_cases c2 : 97 ≤ r ∧ r ≤ 102
  · have ew : digW r base = r - 97 + 10 := by unfold digW; rw [if_neg c1, if_pos c2]
    by_cases c3 : base ≤ r - 97 + 10
    · have e := digit_none r base (by omega)
      rw [e.1, e.2]
      obtain ⟨c2, c4⟩ := c2
      have c5 : ¬ r ≤ 57 := by omega
      clear e ew c1
      go_enter Tryd.func59, Tryd.ntmps59
      go_wp2
      go_ret2
      exact ⟨rfl, rfl⟩
    · have e := digit_fin r base _ ew (by omega)
      rw [e.1, e.2]
      obtain ⟨c2, c4⟩ := c2
      have c5 : ¬ r ≤ 57 := by omega
      clear e ew c1
      go_enter Tryd.func59, Tryd.ntmps59
      go_wp2
      go_ret2
      exact ⟨rfl, rfl⟩
  by_cases c3 : 65 ≤ r ∧ r ≤ 70
  · have ew : digW r base = r - 65 + 10 := by unfold digW; rw [if_neg c1, if_neg c2, if_pos c3]
    by_cases c4 : base ≤ r - 65 + 10
    · have e := digit_none r base (by omega)
      rw [e.1, e.2]
      obtain ⟨c3, c6⟩ := c3
      have c5 : ¬ r ≤ 57 := by omega
      have c7 : ¬ 97 ≤ r := by omega
      clear e ew c1 c2
      go_enter Tryd.func59, Tryd.ntmps59
      go_wp2
      go_ret2
      exact ⟨rfl, rfl⟩
    · have e := digit_fin r base _ ew (by omega)
      rw [e.1, e.2]
      obtain ⟨c3, c6⟩ := c3
      have c5 : ¬ r ≤ 57 := by omega
      have c7 : ¬ 97 ≤ r := by omega
      clear e ew c1 c2
      go_enter Tryd.func59, Tryd.ntmps59
      go_wp2
      go_ret2
      exact ⟨rfl, rfl⟩
  have ew : digW r base = base := by unfold digW; rw [if_neg c1, if_neg c2, if_neg c3]
  have e := digit_none r base (by omega)
  rw [e.1, e.2]
  clear e ew
  go_enter Tryd.func59, Tryd.ntmps59
  go_wp2
  all_goals first | (exfalso; omega) | (go_ret2; exact ⟨rfl, rfl⟩)
end Go.Proofs.YtlbgmpjeckigjaaDoor
namespace Go.Proofs.YtlbgmpjeckigjaaDoor
open Go Go.RowKit

theorem str_at (s : ByteArray) (k : Nat) (h : k < s.size) : (s[k].toNat : Int) = byteAt s.data.toList k := by
  have e : s[k] = s.data.toList.getD k 0 := by
    have hk : k < s.data.toList.length := by simpa using h
    rw [List.getD, List.getElem?_eq_getElem hk]
    rfl
  rw [byteAt, e]
theorem dig10_yes (r : Int) (h0 : 48 ≤ r) (h1 : r ≤ 57) : digB r 10 = true ∧ digV r 10 = r - 48 :=
  digit_fin r 10 (r - 48) (by unfold digW; rw [if_pos ⟨h0, h1⟩]) (by omega)
theorem dig10_no (r : Int) (h : ¬ (48 ≤ r ∧ r ≤ 57)) : digB r 10 = false ∧ digV r 10 = 0 := by
  refine digit_none r 10 ?_
  unfold digW
  rw [if_neg h]
  split
  · omega
  · split <;> omega
theorem decode_not (s : ByteArray) (k : Nat) (h : k < s.size) (p : Int → Prop) (hp : ∀ r, 128 ≤ r → p r) (hb : p (byteAt s.data.toList k)) : p ((Utf8.decode s k).1 : Nat) := by
  by_cases ha : (s[k]'h).toNat < 128
  · rw [decode_ascii s k h ha, str_at]; exact hb
  · exact hp _ (by have := (decode_high s k h (by omega)).1; omega)
theorem tdiv_neg10 (x : Int) (h : x < 0) : x.tdiv 10 = -((-x) / 10) := by
  have e : x.tdiv 10 = -((-x).tdiv 10) := by rw [Int.neg_tdiv]; omega
  rw [e, Int.tdiv_eq_ediv_of_nonneg (by omega)]
theorem str_size (s : ByteArray) : s.data.toList.length = s.size := rfl

set_option maxHeartbeats 1000000 in
theorem number_any (s : ByteArray) (most : Int) (w : World) (hs : s.size ≤ 1000000) (hm0 : -9223372036854775808 ≤ most) (hm1 : most ≤ 9223372036854775807) :
    Calls Tryd.prog 42 #[.string s, .int .i64 most] w fun e w' => e = .returned (.tuple #[.int .i64 (numV s.data.toList most), .bool (numB s.data.toList most)]) ∧ Below w.heap.size w w' := by
  by_cases h0 : s.size = 0
  · have e : s.data.toList = [] := List.eq_nil_of_length_eq_zero h0
    rw [e, numV_no (numB_empty _), numB_empty]
    have e2 : s.toList.isEmpty = true := by rw [ByteArray.toList_eq, e]; rfl
    clear e h0
    go_enter Tryd.func42, Tryd.ntmps42
    go_wp2
    go_ret2
    exact ⟨rfl, Below.refl _ _⟩
  have e2 : s.toList.isEmpty = false := by
    rw [ByteArray.toList_eq, List.isEmpty_eq_false_iff]
    intro e
    have := congrArg List.length e
    exact h0 this
  have hp : 0 < s.size := by omega
  have hat := str_at s 0 hp
  by_cases h1 : 1 < s.size ∧ byteAt s.data.toList 0 = 48
  · have e := numB_zero (most := most) (l := s.data.toList) h1.1 h1.2
    rw [numV_no e, e]
    have h2 : ((s[0].toNat : Int) == 48) = true := by rw [hat, h1.2]; rfl
    have h3 := h1.1
    clear e h0 h1 hat
    go_enter Tryd.func42, Tryd.ntmps42
    go_wp2
    go_ret2
    exact ⟨rfl, Below.refl _ _⟩
  have hneg : most < 0 → -922337203685477580 ≤ most.tdiv 10 ∧ most.tdiv 10 ≤ 0 ∧ (most.tdiv 10 = 0 → -10 < most) := fun h => by rw [tdiv_neg10 most h]; omega
  generalize hl : s.data.toList = l at *
  have hll : l.length = s.size := by rw [← hl]; rfl
  have hb : ∀ k (h : k < s.size), (s[k].toNat : Int) = byteAt l k := fun k h => by rw [← hl]; exact str_at s k h
  have HB := Lib.hid hb
  have HL := Lib.hid hl
  have HLL := Lib.hid hll
  have H1 := Lib.hid h1
  have HN := Lib.hid hneg
  have H0 := Lib.hid h0
  have hg : 1 < s.size → ((s[0].toNat : Int) == 48) = false := by
    intro h
    rw [hat, beq_eq_false_iff_ne]
    exact fun e => h1 ⟨h, e⟩
  clear hb hl hll h1 hneg h0 hat
  by_cases h2 : 1 < s.size
  all_goals
    first | have hg' := hg h2 | skip
    clear hg
    go_enter Tryd.func42, Tryd.ntmps42
    go_wp2
    go_loopw [6] (fun n wr => ∃ k : Nat, k ≤ s.size ∧ wr.heap[w.heap.size]? = some (.stringIter s k) ∧ n = .int .i64 (decV (l.take k)) ∧ (l.take k).all isDec = true ∧ (k = 0 ∨ decV (l.take k) ≤ most) ∧ Below w.heap.size w wr) (fun _ wr => s.size - wr.iterPos w.heap.size)
    case atStart => exact ⟨0, Nat.zero_le _, World.iter_heap _ _ _, rfl, rfl, .inl rfl, (Below.refl _ _).alloc (Nat.le_refl _) _⟩
    case round =>
      obtain ⟨k, hk, hit, rfl, hall, hmost, hbw⟩ := hrel
      by_cases hlt : k < s.size
      · have hkl : k < l.length := by rw [HLL.out]; exact hlt
        have hn0 := decV_nonneg _ hall
        have hit2 := fun j => Lib.iterAt_heap wr w.heap.size s k j hit
        have hbw2 := fun j => Lib.below_iterAt hbw (k := w.heap.size) (Nat.le_refl _) s j
        have HI := Lib.hid hit2
        have HB2 := Lib.hid hbw2
        have HBW := Lib.hid hbw
        have HM := Lib.hid hmost
        clear hit2 hbw2 hbw hmost
        by_cases hd : 48 ≤ byteAt l k ∧ byteAt l k ≤ 57
        · have hsk := HB.out k hlt
          have hnx : ∀ ty, (Instr.next (.pointer (some ⟨w.heap.size, 0, none⟩)) true ty).run Tryd.prog wr = .ok (.tuple #[.bool true, .int .i64 k, .int .i32 (byteAt l k)]) (wr.iterAt w.heap.size s (k + 1)) := fun ty => by
            rw [Lib.run_next_ascii_at wr w.heap.size s k ty hit hlt (by omega), hsk]
          have HD : ∀ W, Calls Tryd.prog 59 #[.int .i32 (byteAt l k), .int .i64 10] W fun e w' => e = .returned (.tuple #[.int .i64 (byteAt l k - 48), .bool true]) ∧ W = w' := fun W => by
            have h := digit_any (byteAt l k) 10 W (by omega) (by omega) (by omega) (by omega)
            rw [(dig10_yes _ hd.1 hd.2).1, (dig10_yes _ hd.1 hd.2).2] at h
            exact h
          have HD := Lib.hid HD
          have hds := decV_take_succ l k hkl
          have HDS := Lib.hid hds
          have hal := all_take_succ l k hkl hall ((isDec_iff _).2 hd)
          have HA := Lib.hid hal
          have hd1 := hd.1
          have hd2 := hd.2
          clear hds hal hall hsk hd
          generalize decV (l.take k) = n at *
          generalize byteAt l k = b at *
          by_cases hgo : n * 10 + (b - 48) ≤ most
          · have hm2 : 0 ≤ most := by omega
            have t1 : n ≤ most / 10 := by omega
            have t2 : n * 10 ≤ most - (b - 48) := by omega
            go_wp2_with (go_at_call 59; refine (HD.out _).mono ?_; rintro e w' ⟨rfl, rfl⟩)
            go_roundw
            case rel => exact ⟨k + 1, by omega, HI.out _, by rw [HDS.out], HA.out, .inr (by rw [HDS.out]; exact hgo), HB2.out _⟩
            case measure => simp only [World.iterPos, HI.out, hit]; omega
          · have hno := numB_great (l := l) (most := most) (k + 1) (by rw [HDS.out]; omega)
            have HNo := Lib.hid hno
            clear hno
            by_cases hm2 : 0 ≤ most
            · by_cases t1 : most / 10 < n
              · go_wp2_with (go_at_call 59; refine (HD.out _).mono ?_; rintro e w' ⟨rfl, rfl⟩)
                go_ret2
                refine ⟨?_, HB2.out _⟩
                rw [HNo.out, numV_no HNo.out]
                rfl
              · have t2 : most - (b - 48) < n * 10 := by omega
                go_wp2_with (go_at_call 59; refine (HD.out _).mono ?_; rintro e w' ⟨rfl, rfl⟩)
                go_ret2
                refine ⟨?_, HB2.out _⟩
                rw [HNo.out, numV_no HNo.out]
                rfl
            · obtain ⟨q1, q2, q3⟩ := HN.out (by omega)
              by_cases t1 : most.tdiv 10 < n
              · clear q3
                go_wp2_with (go_at_call 59; refine (HD.out _).mono ?_; rintro e w' ⟨rfl, rfl⟩)
                go_ret2
                refine ⟨?_, HB2.out _⟩
                rw [HNo.out, numV_no HNo.out]
                rfl
              · have q4 := q3 (by omega)
                have t2 : most - (b - 48) < n * 10 := by omega
                clear q3
                go_wp2_with (go_at_call 59; refine (HD.out _).mono ?_; rintro e w' ⟨rfl, rfl⟩)
                go_ret2
                refine ⟨?_, HB2.out _⟩
                rw [HNo.out, numV_no HNo.out]
                rfl
        · have hr := decode_not s k hlt (fun r => ¬ (48 ≤ r ∧ r ≤ 57)) (fun r h => by omega) (by rw [HL.out]; exact hd)
          have hle := decode_le s k
          have hnx : ∀ ty, (Instr.next (.pointer (some ⟨w.heap.size, 0, none⟩)) true ty).run Tryd.prog wr = .ok (.tuple #[.bool true, .int .i64 k, .int .i32 (Utf8.decode s k).1]) (wr.iterAt w.heap.size s (k + (Utf8.decode s k).2)) := fun ty =>
            Lib.run_next_any_at wr w.heap.size s k ty hit hlt
          generalize (Utf8.decode s k).2 = wd at *
          generalize (Utf8.decode s k).1 = r at *
          have HD : ∀ W, Calls Tryd.prog 59 #[.int .i32 r, .int .i64 10] W fun e w' => e = .returned (.tuple #[.int .i64 0, .bool false]) ∧ W = w' := fun W => by
            have h := digit_any r 10 W (by omega) (by omega) (by omega) (by omega)
            rw [(dig10_no _ hr).1, (dig10_no _ hr).2] at h
            exact h
          have HD := Lib.hid HD
          have hno := numB_sign (most := most) k hkl hd
          have HNo := Lib.hid hno
          clear hno hr hd hall
          go_wp2_with (go_at_call 59; refine (HD.out _).mono ?_; rintro e w' ⟨rfl, rfl⟩)
          go_ret2
          refine ⟨?_, HB2.out _⟩
          rw [HNo.out, numV_no HNo.out]
          rfl
      · have hnx : ∀ ty, (Instr.next (.pointer (some ⟨w.heap.size, 0, none⟩)) true ty).run Tryd.prog wr = _ := fun ty => Lib.run_next_end_at wr w.heap.size s k ty hit hlt
        have ek : l.take k = l := List.take_of_length_le (by rw [HLL.out]; omega)
        rw [ek] at hall hmost
        have hne : l ≠ [] := fun e => by have := HLL.out; rw [e] at this; exact H0.out this.symm
        have hmo : decV l ≤ most := by
          rcases hmost with h | h
          · exfalso; have := H0.out; omega
          · exact h
        have hy := numB_yes hne (by rw [HLL.out]; exact H1.out) hall hmo
        have HY := Lib.hid hy
        have HE := Lib.hid ek
        clear hy ek hmo hne hall hmost
        go_wp2
        go_ret2
        refine ⟨?_, hbw⟩
        rw [HY.out, numV_yes HY.out, HE.out]
        rfl
end Go.Proofs.YtlbgmpjeckigjaaDoor
namespace Go.Proofs.YtlbgmpjeckigjaaDoor
open Go Go.RowKit

theorem step_append_fits {P : Program} {ops : Array Oper} {o : Oper} {a : Act} {w : World} {K : Act → World → Prop} {Q : Exit → Act → World → Prop} {E : Prop}
    (hg : o.guard = none) (s x : Operand) (t : TypeId) (hop : o.op = Op.call { callee := Callee.builtin Builtin.append, args := #[s, x], argTypes := #[t, t] })
    (base : Nat) (e : TypeId) (i : TypeInfo) (size : Nat) (h1 : P.underlying t = some (.slice e)) (h2 : P.info? e = some i) (h4 : i.size = size)
    (g n cap : Nat) (xs : List Value) (hs : a.eval s = .slice (some ⟨g, 0, none⟩) n cap)
    (ad : Addr) (m c : Nat) (news : List Value) (hx : a.eval x = .slice (some ad) m c) (hn : news.length = m * size) (h1c : ∀ u ∈ news, u.oneCell' = true) (hroom : n + m ≤ cap)
    (hown : w.ownsRow base e size (.slice (some ⟨g, 0, none⟩) n cap) n xs) (hc : ∀ j u, news[j]? = some u → w.cell? (ad.add j) = some u)
    (hK : ∀ w', w'.ownsRow base e size (.slice (some ⟨g, 0, none⟩) (n + m) cap) (n + m) (xs ++ news) → w.grownBy w' (some g) → K (a.put o.dst (.slice (some ⟨g, 0, none⟩) (n + m) cap)) w') :
    if Region.wanted o (yielded ops a.tmps) = true then Oper.wp P o a w K Q else E := by
  have hw : Region.wanted o (yielded ops a.tmps) = true := by simp [Region.wanted, hg]
  rw [if_pos hw]
  obtain ⟨w', hrun, r1, r2⟩ := run_append_fits (P := P) w base t o.type e i size h1 h2 h4 g n cap xs hown ad m c news hn hc h1c hroom
  unfold Oper.wp
  simp [execOp, hop, resolve, invoke, builtin, hs, hx, hrun, Result.andThen]
  exact hK w' r1 r2
end Go.Proofs.YtlbgmpjeckigjaaDoor
namespace Go.Proofs.YtlbgmpjeckigjaaDoor
open Go Go.RowKit

def digs16 : ByteArray := ⟨#[48, 49, 50, 51, 52, 53, 54, 55, 56, 57, 97, 98, 99, 100, 101, 102]⟩
theorem digs16_fin : ∀ i : Fin 16, digs16.data.toList.getD i.val 0 = hexDig i.val := by decide
theorem hexdig_at (y : Int) (h0 : 0 ≤ y) (h1 : y ≤ 15) (w : World) : (Instr.index 9 (.string ⟨#[48, 49, 50, 51, 52, 53, 54, 55, 56, 57, 97, 98, 99, 100, 101, 102]⟩) (.int .u8 y)).run Tryd.prog w = .ok (.int .u8 ((hexDig y.toNat).toNat : Int)) w := by
  show (Instr.index 9 (.string digs16) (.int .u8 y)).run Tryd.prog w = _
  have hsz : digs16.size = 16 := rfl
  rw [run_index_string w 9 digs16 .u8 _ Tryd.underlying9, dif_pos ⟨h0, by rw [hsz]; omega⟩]
  have e := digs16_fin ⟨y.toNat, by omega⟩
  have e2 := str_at digs16 y.toNat (by rw [hsz]; omega)
  rw [e2, byteAt, e]

open Go.Sort in
theorem below_grow (w : World) (k : Nat) (os : Array Obj) : Below w.heap.size w (grow (w.drewN k) os) :=
  ⟨rfl, rfl, rfl, by simp [grow, World.drewN], fun j hj => by
    show (w.heap ++ os)[j]? = _
    rw [Array.getElem?_append_left hj]⟩

theorem digits_any (n : Int) (w : World) (h0 : -9223372036854775808 ≤ n) (h1 : n ≤ 9223372036854775807) (htab : Lib.TabIs Tryd.prog w "internal/strconv.uint64pow10" .u64 Lib.pow10Tab) :
    Calls Tryd.prog 31 #[.int .i64 n] w fun e w' => e = .returned (.string ⟨(Lib.itoa n).toArray⟩) ∧ Below w.heap.size w w' := by
  have HI := Lib.hid (Tryd.strconv_Itoa n h0 h1 w htab)
  clear htab
  go_enter Tryd.func31, Tryd.ntmps31
  go_wp2_with (go_at_call 49; refine HI.out.mono ?_; rintro e w' ⟨rfl, k, os, rfl⟩)
  go_ret
  exact ⟨rfl, below_grow w k os⟩
end Go.Proofs.YtlbgmpjeckigjaaDoor
namespace Go.Proofs.YtlbgmpjeckigjaaDoor
open Go Go.RowKit

theorem made_zeros (n : Nat) : (madeCells (Value.int IntKind.u8 0).cells (n * 1)).toList = byteVals (List.replicate n 0) := by
  apply List.ext_getElem
  · simp [byteVals, size_madeCells]
  · intro i h1 h2
    simp [madeCells, byteVals, Value.cells, Nat.mod_one]

theorem RowIs.iterAt {w : World} {g : Nat} {c : List UInt8} (h : RowIs w g c) {k : Nat} (hk : g ≠ k) (s : ByteArray) (p : Nat) : RowIs (w.iterAt k s p) g c := by
  unfold RowIs; rw [Lib.iterAt_other w k g s p hk]; exact h
theorem unhexL_no {l : List UInt8} (h : unhexB l = false) : unhexL l = [] := by unfold unhexL; rw [h]; rfl
theorem unhexB_odd {l : List UInt8} (h : ¬ l.length % 2 = 0) : unhexB l = false := by unfold unhexB; rw [decide_eq_false h]; rfl
theorem unhexB_sign {l : List UInt8} (k : Nat) (hk : k < l.length) (h : digB (byteAt l k) 16 = false) : unhexB l = false := by
  have : l.all isHex = false := by
    rw [Bool.eq_false_iff]
    intro ha
    have h2 := all_at l k hk ha
    unfold isHex at h2
    rw [byteAt] at h
    rw [h] at h2
    cases h2
  unfold unhexB; rw [this]; simp
theorem dig16_hi (r : Int) (h : 128 ≤ r) : digB r 16 = false := by
  refine (digit_none r 16 ?_).1
  unfold digW
  rw [if_neg (by omega), if_neg (by omega), if_neg (by omega)]
  omega

set_option maxHeartbeats 1000000 in
theorem unhex_any (s : ByteArray) (w : World) (hs : s.size ≤ 1000000) :
    Calls Tryd.prog 93 #[.string s] w fun e w' => (∃ a' n' cap', e = .returned (.tuple #[.slice a' n' cap', .bool (unhexB s.data.toList)]) ∧ IsB w' (.slice a' n' cap') (unhexL s.data.toList)) ∧ Below w.heap.size w w' := by
  by_cases hodd : s.size % 2 = 0
  · obtain ⟨i0, hi, hz0, hz1, hz2⟩ := info_parts info5
    generalize hl : s.data.toList = l at *
    have hll : l.length = s.size := by rw [← hl]; rfl
    have hb : ∀ k (h : k < s.size), (s[k].toNat : Int) = byteAt l k := fun k h => by rw [← hl]; exact str_at s k h
    obtain ⟨m, hm⟩ : ∃ m, s.size = 2 * m := ⟨s.size / 2, by omega⟩
    have HB := Lib.hid hb
    have HL := Lib.hid hl
    have HLL := Lib.hid hll
    have HM := Lib.hid hm
    have hm2 : m ≤ 1000000 := by omega
    have hm3 : m ≤ maxLen := by unfold maxLen; omega
    have hodd2 : ((s.size : Int) % 2 != 0) = false := by simp; omega
    have hhalf : (s.size : Int) / 2 = m := by omega
    clear hb hl hll hm hodd
    go_enter Tryd.func93, Tryd.ntmps93
    go_wp2_with (at_make; refine wpList_make_full _ rfl (.tmp 15) (.tmp 15) 46 rfl w.heap.size 5 i0 (.int .u8 0) 1 Tryd.underlying46 hi hz0 hz1 .i64 .i64 _ _ m rfl rfl (by omega) (by omega) (by rw [hz2]; omega) hm3 (Nat.le_refl _) ?_; intro w1 ho hg; refine Hid.out ?_)
    refine Lib.hid ?_
    have hrow := row_of_owned ho
    rw [made_zeros] at hrow
    have hrow : RowIs w1 w.heap.size (List.replicate m 0) := hrow
    have hb1 : Below w.heap.size w w1 := (Below.refl _ _).grown hg (Nat.le_refl _) (fun k h => by cases h)
    have hgl := hrow.lt
    clear ho hg
    go_wp2
    go_loopw [5] (fun _ wr => ∃ k : Nat, k ≤ s.size ∧ wr.heap[w1.heap.size]? = some (.stringIter s k) ∧ RowIs wr w.heap.size (uhRow l m k) ∧ (l.take k).all isHex = true ∧ Below w.heap.size w wr) (fun _ wr => s.size - wr.iterPos w1.heap.size)
    case atStart => exact ⟨0, Nat.zero_le _, World.iter_heap _ _ _, hrow.below ((Below.refl _ _).alloc (Nat.le_refl _) _), rfl, hb1.alloc hb1.size _⟩
    case round =>
      obtain ⟨k, hk, hit, hrw, hall, hbw⟩ := hrel
      have hne : w.heap.size ≠ w1.heap.size := by omega
      by_cases hlt : k < s.size
      · have hkl : k < l.length := by rw [HLL.out]; exact hlt
        have hit2 := fun j => Lib.iterAt_heap wr w1.heap.size s k j hit
        have hbw2 := fun j => Lib.below_iterAt hbw (k := w1.heap.size) (by omega) s j
        have HI := Lib.hid hit2
        have HB2 := Lib.hid hbw2
        clear hit2 hbw2
        cases hd : digB (byteAt l k) 16
        · have hr := decode_not s k hlt (fun r => digB r 16 = false) (fun r h => dig16_hi r h) (by rw [HL.out]; exact hd)
          have hle := decode_le s k
          have hnx : ∀ ty, (Instr.next (.pointer (some ⟨w1.heap.size, 0, none⟩)) true ty).run Tryd.prog wr = .ok (.tuple #[.bool true, .int .i64 k, .int .i32 (Utf8.decode s k).1]) (wr.iterAt w1.heap.size s (k + (Utf8.decode s k).2)) := fun ty =>
            Lib.run_next_any_at wr w1.heap.size s k ty hit hlt
          generalize (Utf8.decode s k).2 = wd at *
          generalize (Utf8.decode s k).1 = r at *
          have HD : ∀ W, Calls Tryd.prog 59 #[.int .i32 r, .int .i64 16] W fun e w' => e = .returned (.tuple #[.int .i64 (digV r 16), .bool false]) ∧ W = w' := fun W => by
            have h := digit_any r 16 W (by omega) (by omega) (by omega) (by omega)
            rw [hr] at h
            exact h
          have HD := Lib.hid HD
          have HNo := Lib.hid (unhexB_sign k hkl hd)
          clear hr hd hall
          generalize digV (r : Int) 16 = dv at *
          go_wp2_with (go_at_call 59; refine (HD.out _).mono ?_; rintro e w' ⟨rfl, rfl⟩)
          go_ret2
          rw [HNo.out, unhexL_no HNo.out]
          exact ⟨⟨_, _, _, rfl, IsB.nil _⟩, HB2.out _⟩
        · have hsk := HB.out k hlt
          have hlo : byteAt l k < 128 := by
            rcases Int.lt_or_le (byteAt l k) 128 with h | h
            · exact h
            · rw [dig16_hi _ h] at hd; cases hd
          have b0 := byteAt_nonneg l k
          have hnx : ∀ ty, (Instr.next (.pointer (some ⟨w1.heap.size, 0, none⟩)) true ty).run Tryd.prog wr = .ok (.tuple #[.bool true, .int .i64 k, .int .i32 (byteAt l k)]) (wr.iterAt w1.heap.size s (k + 1)) := fun ty => by
            rw [Lib.run_next_ascii_at wr w1.heap.size s k ty hit hlt (by omega), hsk]
          have HD : ∀ W, Calls Tryd.prog 59 #[.int .i32 (byteAt l k), .int .i64 16] W fun e w' => e = .returned (.tuple #[.int .i64 (digV (byteAt l k) 16), .bool true]) ∧ W = w' := fun W => by
            have h := digit_any (byteAt l k) 16 W (by omega) (by omega) (by omega) (by omega)
            rw [hd] at h
            exact h
          have HD := Lib.hid HD
          have hal := all_take_succ l k hkl hall (p := isHex) (by unfold isHex; rw [byteAt] at hd; exact hd)
          have HA := Lib.hid hal
          have dbd := digV16_bd (byteAt l k)
          have hk2 : k / 2 < m := by have := HM.out; omega
          have hul := uhRow_length l m k
          have hrw2 := hrw.iterAt hne s (k + 1)
          have hcell := hrw2.cell (k / 2) (by omega)
          have hfr := hrw2.frozen (k / 2)
          have c0 := byteAt_nonneg (uhRow l m k) (k / 2)
          have c1 := byteAt_le (uhRow l m k) (k / 2)
          have hor := uh_or _ _ c0 c1 dbd.1 dbd.2
          have hx1 : ((byteAt (uhRow l m k) (k / 2)).toNat * 16 % 256 + (digV (byteAt l k) 16).toNat : Nat) < 256 := by omega
          have hstore := hrw2.store (k / 2) (((byteAt (uhRow l m k) (k / 2)).toNat * 16 % 256 + (digV (byteAt l k) 16).toNat : Nat) : Int) (UInt8.ofNat ((byteAt (uhRow l m k) (k / 2)).toNat * 16 % 256 + (digV (byteAt l k) 16).toNat)) (by rw [UInt8.toNat_ofNat_of_lt' hx1])
          have hstore : RowIs ((wr.iterAt w1.heap.size s (k + 1)).setCell ⟨w.heap.size, k / 2, none⟩ (.int .u8 (((byteAt (uhRow l m k) (k / 2)).toNat * 16 % 256 + (digV (byteAt l k) 16).toNat : Nat) : Int))) w.heap.size (uhRow l m (k + 1)) := hstore
          have HS := Lib.hid hstore
          have hitS := fun (v : Value) => (heap_setCell_other (wr.iterAt w1.heap.size s (k + 1)) ⟨w.heap.size, k / 2, none⟩ w1.heap.size v (Ne.symm hne)).trans (HI.out (k + 1))
          have HIS := Lib.hid hitS
          have hbS := fun (v : Value) => (HB2.out (k + 1)).setCell (p := ⟨w.heap.size, k / 2, none⟩) (Nat.le_refl _) v
          have HBS := Lib.hid hbS
          obtain ⟨dbd0, dbd1⟩ := dbd
          clear hal hall hsk hd hlo hul hstore hx1 hitS hbS
          generalize digV (byteAt l k) 16 = d at *
          generalize byteAt (uhRow l m k) (k / 2) = x at *
          generalize byteAt l k = b at *
          generalize ((x.toNat * 16 % 256 + d.toNat : Nat) : Int) = z at *
          go_wp2_with (go_at_call 59; refine (HD.out _).mono ?_; rintro e w' ⟨rfl, rfl⟩)
          go_roundw
          case rel => exact ⟨k + 1, by omega, HIS.out _, HS.out, HA.out, HBS.out _⟩
          case measure => simp only [World.iterPos, HIS.out, hit]; omega
      · have hnx : ∀ ty, (Instr.next (.pointer (some ⟨w1.heap.size, 0, none⟩)) true ty).run Tryd.prog wr = _ := fun ty => Lib.run_next_end_at wr w1.heap.size s k ty hit hlt
        have ek : l.take k = l := List.take_of_length_le (by rw [HLL.out]; omega)
        rw [ek] at hall
        have hB : unhexB l = true := by
          unfold unhexB
          rw [hall, decide_eq_true (by rw [HLL.out, HM.out]; omega)]
          rfl
        have hk3 : k = 2 * m := by have := HM.out; omega
        have hLr : uhRow l m k = unhexL l := by
          unfold unhexL
          rw [if_pos hB, hk3, uhRow_even l m (by rw [HLL.out, HM.out]; omega) m (Nat.le_refl _), Nat.sub_self, ← hk3, ek]
          simp
        have hul := uhRow_length l m k
        rw [hLr] at hrw hul
        have hisb := hrw.isB (by rw [hul]; exact hm3)
        rw [hul] at hisb
        have HBB := Lib.hid hB
        clear hB hLr hk3 ek hall hul
        go_wp2
        go_ret2
        rw [HBB.out]
        exact ⟨⟨_, _, _, rfl, hisb⟩, hbw⟩
  · have HNo := Lib.hid (unhexB_odd (l := s.data.toList) (by rw [str_size]; exact hodd))
    have hodd2 : ((s.size : Int) % 2 != 0) = true := by simp; omega
    clear hodd
    go_enter Tryd.func93, Tryd.ntmps93
    go_wp2
    go_ret2
    rw [HNo.out, unhexL_no HNo.out]
    exact ⟨⟨_, _, _, rfl, IsB.nil _⟩, Below.refl _ _⟩
end Go.Proofs.YtlbgmpjeckigjaaDoor
