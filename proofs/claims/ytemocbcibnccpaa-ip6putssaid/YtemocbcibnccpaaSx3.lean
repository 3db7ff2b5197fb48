/- The document's ip6: Ttl. Proved: what it returns, for every text (of at most a million bytes). -/
import Derived.Test.YtemocbcibnccpaaSx2
namespace Go.Proofs.Ytemocbcibnccpaa
open Go Go.RowKit

set_option maxRecDepth 100000 in
set_option maxHeartbeats 2000000 in
theorem rttl6_any (l : List UInt8) (q : Int) (t : UInt8) (w : World) (hq : q = (t.toNat : Int)) (hlim : l.length ≤ 1000000) :
    Calls Try.prog 15 #[.string ⟨l.toArray⟩, .int .u8 q] w fun r w' => r = .returned (.tuple #[.string ⟨(ttlA6 l t).toArray⟩, .int .i64 (ip6C l)]) ∧ Below w.heap.size w w' := by
  subst hq
  have HP := Lib.hid (rparse6_any l w hlim)
  have HW := Lib.hid (ip6H_wide l)
  by_cases h0 : ip6C l = 0
  · obtain ⟨e1, e2, e3, f⟩ := ip6_ok h0
    have hz : (⟨l.toArray⟩ : ByteArray).size = l.length := by simp [ByteArray.size]
    have x7 : (⟨l.toArray⟩ : ByteArray).extract 0 7 = ⟨(l.take 7).toArray⟩ := by rw [extract_mk]; simp
    have x8 : (⟨l.toArray⟩ : ByteArray).extract 8 l.length = ⟨(l.drop 8).toArray⟩ := by rw [extract_mk, List.take_of_length_le (by simp)]
    have EA : Hid (ttlA6 l t = l.take 7 ++ [t] ++ l.drop 8) := by
      show ttlA6 l t = _
      unfold ttlA6 ttl6; rw [if_pos h0]; simp
    have p7 : (7 : Int) ≤ (l.length : Int) := by omega
    have p8 : (8 : Int) ≤ (l.length : Int) := by omega
    rw [h0] at HP ⊢
    clear h0 e1 f
    generalize ip6H l = R at *
    go_enter Try.func15, Try.ntmps15
    go_wp2_with (go_at_call 9; refine HP.out.mono ?_; rintro e w2 ⟨rfl, b2⟩; refine Hid.out ?_)
    refine Lib.hid ?_
    have B3 := Lib.hid (b2.alloc b2.size (.cells R.cells 26))
    clear b2
    go_wp2_with (refine wpList_store_new6 rfl (.tmp 6) (.tmp 11) rfl R HW.out _ rfl rfl rfl ?_)
    generalize (w2.alloc (.cells R.cells 26)) = w3 at *
    refine wp_region_noPanic ?_
    refine wp_region_held_drew (S := fun W => Below w.heap.size w W) (by kernel_rfl) B3.out.drew (fun hHeld => ?_)
    refine held_take (v := ?v34) 0 rfl (by kernel_rfl) (by kernel_rfl) (by kernel_rfl) (fun _ _ _ h => h) (by rfl) ?y34 (by assumption) ?_
    case y34 => (intro w hSw; (try dsimp only at hSw); go_simp; (try with_reducible rfl); (try omega))
    simp only [List.setIfInBounds_toArray, List.set_cons_zero, List.set_cons_succ]
    refine held_take (v := ?v37) 1 rfl (by kernel_rfl) (by kernel_rfl) (by kernel_rfl) (fun _ _ _ h => h) (by rfl) ?y37 (by assumption) ?_
    case y37 => (intro w hSw; (try dsimp only at hSw); go_simp; (try with_reducible rfl); (try omega))
    simp only [List.setIfInBounds_toArray, List.set_cons_zero, List.set_cons_succ]
    refine held_take (v := ?v40) 2 rfl (by kernel_rfl) (by kernel_rfl) (by kernel_rfl) (fun _ _ _ h => h) (by rfl) ?y40 (by assumption) ?_
    case y40 => (intro w hSw; (try dsimp only at hSw); go_simp; (try with_reducible rfl); (try omega))
    simp only [List.setIfInBounds_toArray, List.set_cons_zero, List.set_cons_succ]
    refine held_take (v := ?v43) 6 rfl (by kernel_rfl) (by kernel_rfl) (by kernel_rfl) (fun _ _ _ h => h) (by rfl) ?y43 (by assumption) ?_
    case y43 => (intro w hSw; (try dsimp only at hSw); go_simp; (try with_reducible rfl); (try omega))
    simp only [List.setIfInBounds_toArray, List.set_cons_zero, List.set_cons_succ]
    refine held_take (v := ?v46) 7 rfl (by kernel_rfl) (by kernel_rfl) (by kernel_rfl) (fun _ _ _ h => h) (by rfl) ?y46 (by assumption) ?_
    case y46 => (intro w hSw; (try dsimp only at hSw); go_simp; (try with_reducible rfl); (try omega))
    simp only [List.setIfInBounds_toArray, List.set_cons_zero, List.set_cons_succ]
    have b4 : Below w.heap.size w (w3.alloc (.cells #[.int .u8 (t.toNat : Int)] 5)).drew := (B3.out.alloc B3.out.size _).drew
    have hc := ((isB_built w3 [t] _ rfl (by simp)).below (Below.refl _ _).drew).conv (P := Try.prog) Try.underlying22 Try.underlying5 Try.underlying9
    change (convert 22 9 (.slice (some ⟨w3.heap.size, 0, none⟩) 1 1)).run Try.prog (w3.alloc (.cells #[.int .u8 (t.toNat : Int)] 5)).drew = _ at hc
    refine held_one 3 rfl (by kernel_rfl) (by rfl) (fun K hK => ?_)
    go_simp
    refine hK.out _ _ b4 (fun hHeld4 => ?_)
    clear hK K hHeld
    refine held_one 4 rfl (by kernel_rfl) (by rfl) (fun K hK => ?_)
    go_simp
    refine hK.out _ _ b4 (fun hHeld5 => ?_)
    clear hK K hHeld4 hc
    have hs1 := str_append (l.take 7) [t]
    have hs2 := str_append (l.take 7 ++ [t]) (l.drop 8)
    have hl1 : (l.take 7).length = 7 := by simp; omega
    have hl2 : (l.take 7 ++ [t]).length = 8 := by simp; omega
    have hl3 : (l.drop 8).length ≤ 1000000 := by simp; omega
    rw [← EA.out] at hs2
    generalize hAN : ttlA6 l t = AN at *
    have HAN := Lib.hid hAN
    generalize hT1 : (l.take 7 ++ [t]) = T1 at *
    generalize l.take 7 = T0 at *
    generalize l.drop 8 = T2 at *
    generalize hT3 : [t] = T3 at *
    have hl4 : T3.length = 1 := by rw [← hT3]; rfl
    clear hT1 hT3 EA hAN
    refine held_take (v := ?v74) 5 rfl (by kernel_rfl) (by kernel_rfl) (by kernel_rfl) (fun _ _ _ h => h) (by rfl) ?y74 (by assumption) ?_
    case y74 => (intro w hSw; (try dsimp only at hSw); go_simp; (try with_reducible rfl); (try omega))
    simp only [List.setIfInBounds_toArray, List.set_cons_zero, List.set_cons_succ]
    refine held_take (v := .string ⟨AN.toArray⟩) 8 rfl (by kernel_rfl) (by kernel_rfl) (by kernel_rfl) (fun _ _ _ h => h) (by rfl) (by intro W hSw; go_simp; omega) (by assumption) ?_
    simp only [List.setIfInBounds_toArray, List.set_cons_zero, List.set_cons_succ]
    refine held_take (v := ?v79) 9 rfl (by kernel_rfl) (by kernel_rfl) (by kernel_rfl) (fun _ _ _ h => h) (by rfl) ?y79 (by assumption) ?_
    case y79 => (intro w hSw; (try dsimp only at hSw); go_simp; (try with_reducible rfl); (try omega))
    simp only [List.setIfInBounds_toArray, List.set_cons_zero, List.set_cons_succ]
    refine held_take (v := ?v82) 10 rfl (by kernel_rfl) (by kernel_rfl) (by kernel_rfl) (fun _ _ _ h => h) (by rfl) ?y82 (by assumption) ?_
    case y82 => (intro w hSw; (try dsimp only at hSw); go_simp; (try with_reducible rfl); (try omega))
    simp only [List.setIfInBounds_toArray, List.set_cons_zero, List.set_cons_succ]
    refine wpAnyH_done (by kernel_rfl) ?_ _
    refine NoPanic.normal ?_
    have HH := Lib.hid hHeld5
    clear hHeld5
    go_wp2
    go_ret2
    exact ⟨by rw [HAN.out]; rfl, HH.out⟩
  · have eA : ttlA6 l t = [] := by unfold ttlA6; rw [if_neg h0]
    rw [eA]
    clear eA
    generalize ip6H l = R at *
    generalize ip6C l = C at *
    go_enter Try.func15, Try.ntmps15
    go_wp2_with (go_at_call 9; refine HP.out.mono ?_; rintro e w2 ⟨rfl, b2⟩; refine Hid.out ?_)
    refine Lib.hid ?_
    go_wp2_with (refine wpList_store_new6 rfl (.tmp 6) (.tmp 11) rfl R HW.out _ rfl rfl rfl ?_)
    go_ret2
    exact ⟨rfl, b2.alloc b2.size _⟩
end Go.Proofs.Ytemocbcibnccpaa
