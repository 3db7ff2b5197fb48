/- PrefixParses returns true, whatever it is given, and turns no old memory. -/
import Derived.Test.YtlbgmpjeckigjaaDoorAw8
import Derived.Test.YtlbgmpjeckigjaaDoorRp4
namespace Go.Proofs.YtlbgmpjeckigjaaDoor
open Go Go.RowKit

theorem parP_len (l : List UInt8) : ((parP l).getD zeroP).addr.length = 16 := by
  unfold parP
  split
  · rfl
  · split
    · exact adrT_length _
    · rfl
set_option maxRecDepth 100000 in
set_option maxHeartbeats 8000000 in
theorem pparses_walk (s : ByteArray) (w : World) (_hs : s.size ≤ maxLen) (hE : Env8 w) :
    Calls Tryd.prog 5 #[.string s] w fun e w' => e = .returned (.bool true) ∧ Below w.heap.size w w' := by
  have HA := Lib.hid (fun W h => awake8_any W h)
  have HE := Lib.hid hE
  clear hE
  by_cases hbig : 100 < s.size
  · have hbig2 : (100 : Int) < (s.size : Int) := by omega
    go_enter Tryd.func5, Tryd.ntmps5
    go_wp2_with (go_at_call 9; refine (HA.out _ HE.out).mono ?_; rintro e w1 ⟨rfl, b1⟩)
    go_ret
    exact ⟨rfl, b1⟩
  have hbig2 : ¬ (100 : Int) < (s.size : Int) := by omega
  have HP := Lib.hid (fun W h => pparse_any s W (by omega) h)
  have HQ := Lib.hid (fun W => qparse_any s W (by omega))
  have HL := Lib.hid (parP_len s.data.toList)
  generalize (parP s.data.toList).getD zeroP = X at *
  generalize (parP s.data.toList).isSome = b at *
  clear _hs hbig
  go_enter Tryd.func5, Tryd.ntmps5
  go_wp2_with (first | (go_at_call 9; refine (HA.out _ HE.out).mono ?_; rintro e w1 ⟨rfl, b1⟩; refine Hid.out ?_))
  refine Lib.hid ?_
  have E1 := Lib.hid (And.intro (HE.out.up b1) b1)
  clear HE HA b1
  go_wp2_with (first | (go_at_call 26; refine (HP.out _ E1.out.1).mono ?_; rintro e w2 ⟨rfl, b2⟩; refine Hid.out ?_))
  refine Lib.hid ?_
  have E2 : Hid (PfxT (w2.alloc (.cells X.cells 24)) w2.heap.size X ∧ Below w.heap.size w (w2.alloc (.cells X.cells 24))) := by
    have hb := below_up E1.out.2 b2 E1.out.2.size
    exact ⟨pfxT_new w2 X, hb.alloc hb.size _⟩
  clear E1 b2 HP
  go_wp2_with (first | (refine wpList_store_newP rfl (.tmp 4) (.tmp 17) rfl X HL.out _ rfl rfl rfl ?_) | (go_at_call 27; refine (HQ.out _).mono ?_; rintro e w3 ⟨rfl, b3⟩; refine Hid.out ?_))
  refine Lib.hid ?_
  have E3 : Hid (PfxT (w3.alloc (.cells X.cells 24)) w2.heap.size X ∧ PfxT (w3.alloc (.cells X.cells 24)) w3.heap.size X ∧ Below w.heap.size w (w3.alloc (.cells X.cells 24))) := by
    have hb := below_up E2.out.2 b3 E2.out.2.size
    exact ⟨(E2.out.1.up b3).al _, pfxT_new w3 X, hb.alloc hb.size _⟩
  clear E2 b3 HQ
  generalize w2.heap.size = g4 at *
  cases b
  · go_wp2_with (first | (refine wpList_store_newP rfl (.tmp 6) (.tmp 22) rfl X HL.out _ rfl rfl rfl ?_) | (refine wpList_load_pfx rfl (.tmp 4) rfl g4 X HL.out rfl E3.out.1 ?_) | (refine wpList_load_pfx rfl (.tmp 6) rfl w3.heap.size X HL.out rfl E3.out.2.1 ?_) | (refine wpList_eql_pfxB rfl 24 25 _ rfl X X HL.out HL.out true (eqP_self X) rfl rfl ?_))
    go_ret
    exact ⟨rfl, E3.out.2.2⟩
  · go_wp2_with (first | (refine wpList_store_newP rfl (.tmp 6) (.tmp 22) rfl X HL.out _ rfl rfl rfl ?_) | (refine wpList_load_pfx rfl (.tmp 4) rfl g4 X HL.out rfl E3.out.1 ?_) | (refine wpList_load_pfx rfl (.tmp 6) rfl w3.heap.size X HL.out rfl E3.out.2.1 ?_) | (refine wpList_eql_pfxB rfl 24 25 _ rfl X X HL.out HL.out true (eqP_self X) rfl rfl ?_))
    go_ret
    exact ⟨rfl, E3.out.2.2⟩
end Go.Proofs.YtlbgmpjeckigjaaDoor
