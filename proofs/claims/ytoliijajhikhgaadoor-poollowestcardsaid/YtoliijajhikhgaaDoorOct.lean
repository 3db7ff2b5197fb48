/- The small functions of package octet: part, field, fits, fresh, digit. Proved: what each returns, for every argument of its type. fresh, fits, digit of package octet. Cut and Get of package octet. fits and Put of package octet. digit, Number, Digits of package octet. Number and Digits of package octet. Steps of a region that draws its order: append within the capacity of a row of the call's own. Hex and Digits of package octet. Unhex of package octet. -/
import Derived.Test.YtoliijajhikhgaaDoorChecked
import Derived.Test.YtoliijajhikhgaaDoorBase
import Derived.Lib.OthersKept
import Derived.Laws.RangeAny
import Derived.Test.YtoliijajhikhgaaDoorMathDecs
import Derived.Deep.RegionLaw
import Derived.Laws.OwnMore
import Derived.WalkKit
namespace Go.Proofs.YtoliijajhikhgaaDoor
open Go Go.RowKit

end Go.Proofs.YtoliijajhikhgaaDoor
namespace Go.Proofs.YtoliijajhikhgaaDoor
open Go Go.RowKit

theorem info5 : (Tryd.prog.info? 5).map (fun i => (i.zero, i.size, i.bytes)) = some (some (.int .u8 0), 1, 1) := by kernel_rfl
theorem size5 : (Tryd.prog.info? 5).map (·.size) = some 1 := by kernel_rfl

theorem splice_all {α : Type} (L cs : List α) (h : L.length = cs.length) : splice L 0 cs = cs := by
  unfold splice
  rw [List.take_zero, List.nil_append, Nat.zero_add, ← h, List.drop_length, List.append_nil]

theorem row_of_owned {w : World} {base g n : Nat} {e : TypeId} {xs : List Value} (h : w.ownsRow base e 1 (.slice (some ⟨g, 0, none⟩) n n) n xs) :
    w.heap[g]? = some (.cells xs.toArray e (0, 0)) := by
  obtain ⟨_, ⟨h1, _⟩ | ⟨g2, cap, cur, he, _, hg, _, _, hc, hx⟩⟩ := h
  · cases h1
  · simp only [Value.slice.injEq, Option.some.injEq, Addr.mk.injEq, and_true, true_and] at he
    obtain ⟨rfl, rfl⟩ := he
    rw [hg]
    congr 2
    rw [← hx, List.take_of_length_le (by simp; omega)]

end Go.Proofs.YtoliijajhikhgaaDoor
namespace Go.Proofs.YtoliijajhikhgaaDoor
open Go Go.RowKit

def inC (l : List UInt8) (t s : Int) : Bool := decide (0 ≤ t ∧ 0 ≤ s ∧ t + s ≤ l.length)
def cutL (l : List UInt8) (t s : Int) : List UInt8 := if inC l t s then (l.drop t.toNat).take s.toNat else []

theorem IsB.shape {w : World} {v : Value} {l : List UInt8} (h : IsB w v l) : ∃ a n cap, v = .slice a n cap := by
  obtain ⟨a, cap, rfl, _⟩ := h
  exact ⟨_, _, _, rfl⟩

def inG (l : List UInt8) (t s : Int) : Bool := decide (0 ≤ t ∧ 1 ≤ s ∧ s ≤ 8 ∧ t + s ≤ l.length)
def getN (l : List UInt8) (t s : Int) : Nat := if inG l t s then numOf ((l.drop t.toNat).take s.toNat) else 0

end Go.Proofs.YtoliijajhikhgaaDoor
namespace Go.Proofs.YtoliijajhikhgaaDoor
open Go Go.RowKit

def fitB (m : Nat) (s : Int) : Bool := decide (m < 256 ^ s.toNat)

theorem fit_div (m : Nat) (s : Int) (D : Nat) (hD : 256 ^ s.toNat = D) (h0 : 0 < D) : ((m : Int) / (D : Int) == 0) = fitB m s := by
  unfold fitB
  rw [hD, Bool.eq_iff_iff, beq_iff_eq, decide_eq_true_iff]
  constructor
  · intro h
    rcases Nat.lt_or_ge m D with h1 | h1
    · exact h1
    · exfalso
      have : 0 < m / D := Nat.div_pos h1 h0
      omega
  · intro h
    have : m / D = 0 := Nat.div_eq_of_lt h
    omega
theorem ret_bool {a b : Bool} (h : a = b) : Ending.returned (.bool a) = .returned (.bool b) := by rw [h]

def inP (l : List UInt8) (t s : Int) (m : Nat) : Bool := inG l t s && fitB m s
def putL (l : List UInt8) (t s : Int) (m : Nat) : List UInt8 := if inP l t s m then curL l t.toNat s.toNat m s.toNat else []

end Go.Proofs.YtoliijajhikhgaaDoor
namespace Go.Proofs.YtoliijajhikhgaaDoor
open Go Go.RowKit

end Go.Proofs.YtoliijajhikhgaaDoor
namespace Go.Proofs.YtoliijajhikhgaaDoor
open Go Go.RowKit

theorem str_at (s : ByteArray) (k : Nat) (h : k < s.size) : (s[k].toNat : Int) = byteAt s.data.toList k := by
  have e : s[k] = s.data.toList.getD k 0 := by
    have hk : k < s.data.toList.length := by simpa using h
    rw [List.getD, List.getElem?_eq_getElem hk]
    rfl
  rw [byteAt, e]
theorem dig10_yes (r : Int) (h0 : 48 ≤ r) (h1 : r ≤ 57) : digB r 10 = true ∧ digV r 10 = r - 48 :=
  digit_fin r 10 (r - 48) (by unfold digW; rw [if_pos ⟨h0, h1⟩]) (by omega)
theorem dig10_no (r : Int) (h : ¬ (48 ≤ r ∧ r ≤ 57)) : digB r 10 = false ∧ digV r 10 = 0 := by
  refine digit_none r 10 ?_
  unfold digW
  rw [if_neg h]
  split
  · omega
  · split <;> omega
theorem decode_not (s : ByteArray) (k : Nat) (h : k < s.size) (p : Int → Prop) (hp : ∀ r, 128 ≤ r → p r) (hb : p (byteAt s.data.toList k)) : p ((Utf8.decode s k).1 : Nat) := by
  by_cases ha : (s[k]'h).toNat < 128
  · rw [decode_ascii s k h ha, str_at]; exact hb
  · exact hp _ (by have := (decode_high s k h (by omega)).1; omega)
theorem tdiv_neg10 (x : Int) (h : x < 0) : x.tdiv 10 = -((-x) / 10) := by
  have e : x.tdiv 10 = -((-x).tdiv 10) := by rw [Int.neg_tdiv]; omega
  rw [e, Int.tdiv_eq_ediv_of_nonneg (by omega)]
theorem str_size (s : ByteArray) : s.data.toList.length = s.size := rfl

end Go.Proofs.YtoliijajhikhgaaDoor
namespace Go.Proofs.YtoliijajhikhgaaDoor
open Go Go.RowKit

end Go.Proofs.YtoliijajhikhgaaDoor
namespace Go.Proofs.YtoliijajhikhgaaDoor
open Go Go.RowKit

def digs16 : ByteArray := ⟨#[48, 49, 50, 51, 52, 53, 54, 55, 56, 57, 97, 98, 99, 100, 101, 102]⟩
theorem digs16_fin : ∀ i : Fin 16, digs16.data.toList.getD i.val 0 = hexDig i.val := by decide
theorem hexdig_at (y : Int) (h0 : 0 ≤ y) (h1 : y ≤ 15) (w : World) : (Instr.index 9 (.string ⟨#[48, 49, 50, 51, 52, 53, 54, 55, 56, 57, 97, 98, 99, 100, 101, 102]⟩) (.int .u8 y)).run Tryd.prog w = .ok (.int .u8 ((hexDig y.toNat).toNat : Int)) w := by
  show (Instr.index 9 (.string digs16) (.int .u8 y)).run Tryd.prog w = _
  have hsz : digs16.size = 16 := rfl
  rw [run_index_string w 9 digs16 .u8 _ Tryd.underlying9, dif_pos ⟨h0, by rw [hsz]; omega⟩]
  have e := digs16_fin ⟨y.toNat, by omega⟩
  have e2 := str_at digs16 y.toNat (by rw [hsz]; omega)
  rw [e2, byteAt, e]

end Go.Proofs.YtoliijajhikhgaaDoor
namespace Go.Proofs.YtoliijajhikhgaaDoor
open Go Go.RowKit

theorem made_zeros (n : Nat) : (madeCells (Value.int IntKind.u8 0).cells (n * 1)).toList = byteVals (List.replicate n 0) := by
  apply List.ext_getElem
  · simp [byteVals, size_madeCells]
  · intro i h1 h2
    simp [madeCells, byteVals, Value.cells, Nat.mod_one]

theorem RowIs.iterAt {w : World} {g : Nat} {c : List UInt8} (h : RowIs w g c) {k : Nat} (hk : g ≠ k) (s : ByteArray) (p : Nat) : RowIs (w.iterAt k s p) g c := by
  unfold RowIs; rw [Lib.iterAt_other w k g s p hk]; exact h
theorem unhexL_no {l : List UInt8} (h : unhexB l = false) : unhexL l = [] := by unfold unhexL; rw [h]; rfl
theorem unhexB_odd {l : List UInt8} (h : ¬ l.length % 2 = 0) : unhexB l = false := by unfold unhexB; rw [decide_eq_false h]; rfl
theorem unhexB_sign {l : List UInt8} (k : Nat) (hk : k < l.length) (h : digB (byteAt l k) 16 = false) : unhexB l = false := by
  have : l.all isHex = false := by
    rw [Bool.eq_false_iff]
    intro ha
    have h2 := all_at l k hk ha
    unfold isHex at h2
    rw [byteAt] at h
    rw [h] at h2
    cases h2
  unfold unhexB; rw [this]; simp
theorem dig16_hi (r : Int) (h : 128 ≤ r) : digB r 16 = false := by
  refine (digit_none r 16 ?_).1
  unfold digW
  rw [if_neg (by omega), if_neg (by omega), if_neg (by omega)]
  omega

end Go.Proofs.YtoliijajhikhgaaDoor
