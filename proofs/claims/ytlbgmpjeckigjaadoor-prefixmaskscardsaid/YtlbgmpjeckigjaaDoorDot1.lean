/- Show, Multi and Plain of package dotted, and of the document. Proved: what each returns. -/
import Derived.Test.YtlbgmpjeckigjaaDoorDotM
import Derived.Test.YtlbgmpjeckigjaaDoorArr
import Derived.Test.YtlbgmpjeckigjaaDoorOct
import Derived.Test.YtlbgmpjeckigjaaDoorAwake
import Derived.Test.YtlbgmpjeckigjaaDoorStr
import Derived.Test.YtlbgmpjeckigjaaDoorRef
namespace Go.Proofs.YtlbgmpjeckigjaaDoor
open Go Go.RowKit

theorem arr4 : IsArr 45 4 := ⟨by kernel_rfl, Tryd.underlying45, by kernel_rfl⟩
set_option maxRecDepth 100000 in
set_option maxHeartbeats 2000000 in
theorem show4_any (l : List UInt8) (w : World) (hl : l.length = 4) (htab : Lib.TabIs Tryd.prog w "internal/strconv.uint64pow10" .u64 Lib.pow10Tab) :
    Calls Tryd.prog 30 #[arrV l] w fun r w' => r = .returned (.string ⟨(showD l).toArray⟩) ∧ Below w.heap.size w w' := by
  have z0 : ArrT 45 (w.alloc (.cells (byteVals l).toArray 45)) w.heap.size l := heap_alloc_new w _
  have zb : Below w.heap.size w (w.alloc (.cells (byteVals l).toArray 45)) := (Below.refl _ _).alloc (Nat.le_refl _) _
  have zt := tab_below htab zb
  have hc0 := z0.cell 0 (by omega)
  have b0 := byteAt_nonneg l 0
  have b1 := byteAt_le l 0
  have HD := Lib.hid (fun W h => digits_any (byteAt l 0) W (by omega) (by omega) h)
  have H1 := Lib.hid (showD_one l (by omega))
  have Z := Lib.hid (And.intro z0 (And.intro zb zt))
  have HT := Lib.hid (fun (w' : World) (hb : Below w.heap.size w w') => tab_below htab hb)
  rw [show arrV l = .agg (byteVals l).toArray from rfl]
  clear z0 zb zt htab
  generalize hx0 : byteAt l 0 = x0 at *
  clear hx0
  go_enter Tryd.func30, Tryd.ntmps30
  go_wp2_with (go_at_call 31; refine (HD.out _ Z.out.2.2).mono ?_; rintro e w1 ⟨rfl, bb⟩; refine Hid.out ?_)
  refine Lib.hid ?_
  have zA := Z.out.1.up bb
  have zB := below_up Z.out.2.1 bb Z.out.2.1.size
  have HZ := Lib.hid (And.intro zA zB)
  clear zA zB bb Z hc0
  go_wp2
  go_loopw [3, 5, 12] (fun s _ i wr => ∃ k : Nat, k ≤ 3 ∧ i = .int .i64 (k : Int) ∧ s = .string ⟨(showD (l.take (k + 1))).toArray⟩ ∧ ArrT 45 wr w.heap.size l ∧ Below w.heap.size w wr) (fun _ _ i _ => 3 - (intOf i).toNat)
  case atStart => exact ⟨0, by omega, rfl, by rw [H1.out], HZ.out.1, HZ.out.2⟩
  case round =>
    obtain ⟨k, hk, rfl, rfl, hA, hb⟩ := hrel
    clear HZ HD b0 b1
    by_cases hlt : k < 3
    · have hcell := hA.cell (1 + k) (by omega)
      have c0 := byteAt_nonneg l (1 + k)
      have c1 := byteAt_le l (1 + k)
      have hsh := showD_more l (1 + k) (by omega) (by omega)
      rw [show 1 + k + 1 = k + 1 + 1 by omega, show 1 + k = k + 1 by omega] at hsh
      rw [show byteAt l (1 + k) = byteAt l (k + 1) by rw [Nat.add_comm]] at hcell c0 c1
      have HA := Lib.hid hA
      have HB := Lib.hid hb
      have hsl := showD_len (l.take (k + 1))
      have htl : (l.take (k + 1)).length ≤ 4 := by rw [List.length_take]; omega
      have hil := byte_len _ c0 c1
      have hsl2 : (showD (l.take (k + 1))).length ≤ 88 := by omega
      clear hsl htl
      generalize byteAt l (k + 1) = y at *
      have HS : Hid ((⟨(showD (l.take (k + 1))).toArray⟩ : ByteArray) ++ ((⟨[46].toArray⟩ : ByteArray) ++ ⟨(Lib.itoa y).toArray⟩) = ⟨(showD (l.take (k + 1 + 1))).toArray⟩) := by
        show (⟨(showD (l.take (k + 1))).toArray⟩ : ByteArray) ++ ((⟨[46].toArray⟩ : ByteArray) ++ ⟨(Lib.itoa y).toArray⟩) = ⟨(showD (l.take (k + 1 + 1))).toArray⟩
        rw [str_append, str_append, hsh]
        rfl
      have HD := Lib.hid (digits_any y wr (by omega) (by omega) (HT.out _ hb))
      clear hsh hA hb
      go_wp2_with (go_at_call 31; refine HD.out.mono ?_; rintro e w2 ⟨rfl, bb⟩)
      go_roundw
      case rel => exact ⟨k + 1, by omega, by go_num, congrArg Value.string HS.out, HA.out.up bb, below_up HB.out bb HB.out.size⟩
      case measure => simp [intOf]; omega
    · have hk3 : k = 3 := by omega
      subst hk3
      rw [List.take_of_length_le (by omega)]
      have HB := Lib.hid hb
      clear hA hb
      go_wp2
      go_ret
      exact ⟨rfl, HB.out⟩
set_option maxRecDepth 100000 in
set_option maxHeartbeats 2000000 in
theorem rshow4_any (l : List UInt8) (w : World) (hl : l.length = 4) :
    Calls Tryd.prog 32 #[arrV l] w fun r w' => r = .returned (.string ⟨(showD l).toArray⟩) ∧ Below w.heap.size w w' := by
  have z0 : ArrT 45 (w.alloc (.cells (byteVals l).toArray 45)) w.heap.size l := heap_alloc_new w _
  have zb : Below w.heap.size w (w.alloc (.cells (byteVals l).toArray 45)) := (Below.refl _ _).alloc (Nat.le_refl _) _
  have Z := Lib.hid (And.intro z0 zb)
  clear z0 zb
  rw [show arrV l = .agg (byteVals l).toArray from rfl]
  go_enter Tryd.func32, Tryd.ntmps32
  go_wp2
  go_loopw [3, 4] (fun s i wr => ∃ k : Nat, k ≤ 4 ∧ i = .int .i64 (k : Int) ∧ s = .string ⟨(showD (l.take k)).toArray⟩ ∧ ArrT 45 wr w.heap.size l ∧ Below w.heap.size w wr) (fun _ i _ => 4 - (intOf i).toNat)
  case atStart => exact ⟨0, by omega, rfl, rfl, Z.out.1, Z.out.2⟩
  case round =>
    obtain ⟨k, hk, rfl, rfl, hA, hb⟩ := hrel
    clear Z
    by_cases hlt : k < 4
    · have hcell := hA.cell k (by omega)
      have c0 := byteAt_nonneg l k
      have c1 := byteAt_le l k
      have HA := Lib.hid hA
      have HB := Lib.hid hb
      have hsl := showD_len (l.take k)
      have htl : (l.take k).length ≤ 4 := by rw [List.length_take]; omega
      have hil := byte_len _ c0 c1
      have hsl2 : (showD (l.take k)).length ≤ 88 := by omega
      clear hA hb hsl htl
      by_cases hk0 : 0 < k
      · have hsh := showD_more l k (by omega) hk0
        generalize byteAt l k = y at *
        have HD := Lib.hid (rdigits_any y wr (by omega) (by omega))
        have HS : Hid ((⟨(showD (l.take k)).toArray⟩ : ByteArray) ++ (⟨[46].toArray⟩ : ByteArray) ++ ⟨(Lib.itoa y).toArray⟩ = ⟨(showD (l.take (k + 1))).toArray⟩) := by
          show (⟨(showD (l.take k)).toArray⟩ : ByteArray) ++ (⟨[46].toArray⟩ : ByteArray) ++ ⟨(Lib.itoa y).toArray⟩ = ⟨(showD (l.take (k + 1))).toArray⟩
          rw [str_append, str_append, hsh, List.append_assoc]
          rfl
        clear hsh
        go_wp2_with (go_at_call 34; refine HD.out.mono ?_; rintro e w2 ⟨rfl, rfl⟩)
        go_roundw
        case rel => exact ⟨k + 1, by omega, by go_num, congrArg Value.string HS.out, HA.out, HB.out⟩
        case measure => simp [intOf]; omega
      · have hsh : showD (l.take (k + 1)) = showD (l.take k) ++ Lib.itoa (byteAt l k) := by
          obtain rfl : k = 0 := by omega
          rw [showD_one l (by omega)]
          rfl
        generalize byteAt l k = y at *
        have HD := Lib.hid (rdigits_any y wr (by omega) (by omega))
        have HS : Hid ((⟨(showD (l.take k)).toArray⟩ : ByteArray) ++ ⟨(Lib.itoa y).toArray⟩ = ⟨(showD (l.take (k + 1))).toArray⟩) := by
          show (⟨(showD (l.take k)).toArray⟩ : ByteArray) ++ ⟨(Lib.itoa y).toArray⟩ = ⟨(showD (l.take (k + 1))).toArray⟩
          rw [str_append, hsh]
        clear hsh
        go_wp2_with (go_at_call 34; refine HD.out.mono ?_; rintro e w2 ⟨rfl, rfl⟩)
        go_roundw
        case rel => exact ⟨k + 1, by omega, by go_num, congrArg Value.string HS.out, HA.out, HB.out⟩
        case measure => simp [intOf]; omega
    · have hk4 : k = 4 := by omega
      subst hk4
      rw [List.take_of_length_le (by omega)]
      have HB := Lib.hid hb
      clear hA hb
      go_wp2
      go_ret
      exact ⟨rfl, HB.out⟩
end Go.Proofs.YtlbgmpjeckigjaaDoor
