/- Hex and Digits of package octet. -/
import Derived.Test.YtjnejnoojpaifaaDoorOct6
import Derived.Test.YtjnejnoojpaifaaDoorLaws
namespace Go.Proofs.YtjnejnoojpaifaaDoor
open Go Go.RowKit

def digs16 : ByteArray := ⟨#[48, 49, 50, 51, 52, 53, 54, 55, 56, 57, 97, 98, 99, 100, 101, 102]⟩
theorem digs16_fin : ∀ i : Fin 16, digs16.data.toList.getD i.val 0 = hexDig i.val := by decide
theorem hexdig_at (y : Int) (h0 : 0 ≤ y) (h1 : y ≤ 15) (w : World) : (Instr.index 9 (.string ⟨#[48, 49, 50, 51, 52, 53, 54, 55, 56, 57, 97, 98, 99, 100, 101, 102]⟩) (.int .u8 y)).run Tryd.prog w = .ok (.int .u8 ((hexDig y.toNat).toNat : Int)) w := by
  show (Instr.index 9 (.string digs16) (.int .u8 y)).run Tryd.prog w = _
  have hsz : digs16.size = 16 := rfl
  rw [run_index_string w 9 digs16 .u8 _ Tryd.underlying9, dif_pos ⟨h0, by rw [hsz]; omega⟩]
  have e := digs16_fin ⟨y.toNat, by omega⟩
  have e2 := str_at digs16 y.toNat (by rw [hsz]; omega)
  rw [e2, byteAt, e]

open Go.Sort in
theorem below_grow (w : World) (k : Nat) (os : Array Obj) : Below w.heap.size w (grow (w.drewN k) os) :=
  ⟨rfl, rfl, rfl, by simp [grow, World.drewN], fun j hj => by
    show (w.heap ++ os)[j]? = _
    rw [Array.getElem?_append_left hj]⟩

theorem digits_any (n : Int) (w : World) (h0 : -9223372036854775808 ≤ n) (h1 : n ≤ 9223372036854775807) (htab : Lib.TabIs Tryd.prog w "internal/strconv.uint64pow10" .u64 Lib.pow10Tab) :
    Calls Tryd.prog 17 #[.int .i64 n] w fun e w' => e = .returned (.string ⟨(Lib.itoa n).toArray⟩) ∧ Below w.heap.size w w' := by
  have HI := Lib.hid (Tryd.strconv_Itoa n h0 h1 w htab)
  clear htab
  go_enter Tryd.func17, Tryd.ntmps17
  go_wp2_with (go_at_call 20; refine HI.out.mono ?_; rintro e w' ⟨rfl, k, os, rfl⟩)
  go_ret
  exact ⟨rfl, below_grow w k os⟩
end Go.Proofs.YtjnejnoojpaifaaDoor
