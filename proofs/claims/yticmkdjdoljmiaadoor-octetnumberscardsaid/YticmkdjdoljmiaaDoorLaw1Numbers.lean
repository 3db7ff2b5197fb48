/- OctetNumbers returns true, whatever it is given, and turns no old memory. -/
import Derived.Test.YticmkdjdoljmiaaDoorRef5
namespace Go.Proofs.YticmkdjdoljmiaaDoor
open Go Go.RowKit

set_option maxHeartbeats 2000000 in
theorem numbers_walk (n : Int) (s : ByteArray) (most : Int) (w : World) (hn0 : -9223372036854775808 ≤ n) (hn1 : n ≤ 9223372036854775807) (_hs : s.size ≤ maxLen) (hm0 : -9223372036854775808 ≤ most) (hm1 : most ≤ 9223372036854775807)
    (htab : Lib.TabIs Tryd.prog w "internal/strconv.uint64pow10" .u64 Lib.pow10Tab) :
    Calls Tryd.prog 6 #[.int .i64 n, .string s, .int .i64 most] w fun e w' => e = .returned (.bool true) ∧ Below w.heap.size w w' := by
  have HA := Lib.hid (awake_any w htab)
  have HT := Lib.hid (fun (w' : World) (hb : Below w.heap.size w w') => tab_below htab hb)
  have D := fun W h => digits_any n W hn0 hn1 h
  have RD := fun W => rdigits_any n W hn0 hn1
  by_cases hbig : 60 < s.size
  · clear htab _hs hn0 hn1 hm0 hm1 D RD
    go_enter Tryd.func6, Tryd.ntmps6
    go_wp2_with (go_at_call 9; refine HA.out.mono ?_; rintro e w1 ⟨rfl, b1⟩)
    go_ret
    exact ⟨rfl, b1⟩
  have U := Lib.hid (fun W => number_any s most W (by omega) hm0 hm1)
  have R := Lib.hid (fun W => rnumber_any s most W (by omega) hm1)
  have HD := Lib.hid D
  have HRD := Lib.hid RD
  clear htab _hs hn0 hn1 hm0 hm1 D RD
  generalize numV s.data.toList most = q at *
  generalize numB s.data.toList most = qb at *
  generalize Lib.itoa n = I at *
  go_enter Tryd.func6, Tryd.ntmps6
  go_wp2_with (go_at_call 9; refine HA.out.mono ?_; rintro e w1 ⟨rfl, b1⟩; refine Hid.out ?_)
  refine Lib.hid ?_
  go_wp2_with (go_at_call 20; refine (U.out _).mono ?_; rintro e w2 ⟨rfl, b2⟩; refine Hid.out ?_)
  refine Lib.hid ?_
  have b3 := below_up b1 b2 b1.size
  have HT2 := Lib.hid (HT.out _ b3)
  clear b1 b2
  go_wp2_with (first | (go_at_call 21; refine (R.out _).mono ?_; rintro e w' ⟨rfl, rfl⟩) | (go_at_call 22; refine (HD.out _ HT2.out).mono ?_; rintro e w4 ⟨rfl, b4⟩) | (go_at_call 23; refine (HRD.out _).mono ?_; rintro e w' ⟨rfl, rfl⟩))
  go_ret
  exact ⟨by simp, below_up b3 b4 b3.size⟩
end Go.Proofs.YticmkdjdoljmiaaDoor
