/- The document's ip4: num, four, text, Size. Proved: what each returns. -/
import Derived.Test.YtchkbdgoghcgcaaIpP
import Derived.Test.YtchkbdgoghcgcaaIpT
import Derived.Test.YtchkbdgoghcgcaaRf2
namespace Go.Proofs.Ytchkbdgoghcgcaa
open Go Go.RowKit

set_option maxHeartbeats 1000000 in
theorem rnum_any (l : List UInt8) (k : Nat) (w : World) (hs : l.length ≤ 1000000) (hk : k + 2 ≤ l.length) :
    Calls Try.prog 23 #[.string ⟨l.toArray⟩, .int .i64 (k : Int), .int .i64 2] w fun r w' => r = .returned (.int .i64 (wordAt l k : Int)) ∧ w = w' := by
  have HG := Lib.hid (rget_l l k 2 w hs)
  rw [(get2 l k hk).1, (get2 l k hk).2] at HG
  have hle := wordAt_le l k
  generalize wordAt l k = m at *
  clear hk hs
  go_enter Try.func23, Try.ntmps23
  go_wp2_with (go_at_call 37; refine HG.out.mono ?_; rintro e w2 ⟨rfl, rfl⟩)
  go_ret
  exact ⟨ret_int (by go_num), rfl⟩

set_option maxHeartbeats 1000000 in
theorem rsize_any (h : Hdr) (w : World) (hs : h.opt.length ≤ 1000000) : Calls Try.prog 17 #[h.val] w fun r w' => r = .returned (.int .i64 (h.size : Int)) ∧ Below w.heap.size w w' := by
  obtain ⟨tos, len, id, keep, more, off, ttl, proto, s0, s1, s2, s3, d0, d1, d2, d3, opt⟩ := h
  unfold Hdr.val Hdr.cells Hdr.size
  simp only at hs ⊢
  have hz : (⟨opt.toArray⟩ : ByteArray).size = opt.length := by simp [ByteArray.size]
  go_enter Try.func17, Try.ntmps17
  go_wp2
  go_ret
  exact ⟨ret_int (by go_num), (Below.refl _ _).alloc (Nat.le_refl _) _⟩

theorem index_str (W : World) (l : List UInt8) (k : Nat) (hk : k < l.length) : (Instr.index 9 (.string ⟨l.toArray⟩) (.int .i64 (k : Int))).run Try.prog W = .ok (.int .u8 (byteAt l k)) W := by
  have hz : (⟨l.toArray⟩ : ByteArray).size = l.length := by simp [ByteArray.size]
  rw [run_index_string W _ _ _ _ Try.underlying9, dif_pos ⟨by omega, by rw [hz]; omega⟩]
  congr 2
  rw [byteAt_get l k hk]
  rfl
theorem exec_index {ρ : Operand → Value} {o : Oper} {W : World} (x : Operand) (j : Int) (k : Nat) (hj : j = (k : Int)) (l : List UInt8) (ho : o.op = .index 9 x (.const (.int .i64 j))) (hρ : ρ (.const (.int .i64 j)) = .int .i64 j) (hx : ρ x = .string ⟨l.toArray⟩) (hk : k < l.length) :
    (execOp ρ o).run Try.prog W = .ok (.value (.int .u8 (byteAt l k))) W := by
  subst hj
  unfold execOp
  simp only [ho, hx, hρ, Sem.run_bind, index_str W l k hk, Result.andThen_ok]
  rfl

set_option maxHeartbeats 1000000 in
theorem rfour_any (l : List UInt8) (w : World) (h4 : 4 ≤ l.length) :
    Calls Try.prog 25 #[.string ⟨l.toArray⟩] w fun r w' => r = .returned (.agg #[.int .u8 (byteAt l 0), .int .u8 (byteAt l 1), .int .u8 (byteAt l 2), .int .u8 (byteAt l 3)]) ∧ Below w.heap.size w w' := by
  go_enter Try.func25, Try.ntmps25
  go_wp2_with fail
  refine wp_region_noPanic ?_
  refine wp_region_held_drew (S := fun _ => True) (by kernel_rfl) trivial (fun hHeld => ?_)
  refine held_take (v := ?v51) 0 rfl (by kernel_rfl) (by kernel_rfl) (by kernel_rfl) (fun _ _ _ h => h) (by rfl) ?y51 (by assumption) ?_
  case y51 => (intro w hSw; (try dsimp only at hSw); go_simp; try with_reducible rfl)
  simp only [List.setIfInBounds_toArray, List.set_cons_zero, List.set_cons_succ]
  refine held_take (v := ?v54) 2 rfl (by kernel_rfl) (by kernel_rfl) (by kernel_rfl) (fun _ _ _ h => h) (by rfl) ?y54 (by assumption) ?_
  case y54 => (intro w hSw; (try dsimp only at hSw); go_simp; try with_reducible rfl)
  simp only [List.setIfInBounds_toArray, List.set_cons_zero, List.set_cons_succ]
  refine held_take (v := ?v57) 4 rfl (by kernel_rfl) (by kernel_rfl) (by kernel_rfl) (fun _ _ _ h => h) (by rfl) ?y57 (by assumption) ?_
  case y57 => (intro w hSw; (try dsimp only at hSw); go_simp; try with_reducible rfl)
  simp only [List.setIfInBounds_toArray, List.set_cons_zero, List.set_cons_succ]
  refine held_take (v := ?v60) 6 rfl (by kernel_rfl) (by kernel_rfl) (by kernel_rfl) (fun _ _ _ h => h) (by rfl) ?y60 (by assumption) ?_
  case y60 => (intro w hSw; (try dsimp only at hSw); go_simp; try with_reducible rfl)
  simp only [List.setIfInBounds_toArray, List.set_cons_zero, List.set_cons_succ]
  refine held_take (v := .int .u8 (byteAt l 0)) 1 rfl (by kernel_rfl) (by kernel_rfl) (by kernel_rfl) (fun _ _ _ h => h) (by rfl) (fun W _ => exec_index (.tmp 3) 0 0 rfl l rfl rfl rfl (by omega)) (by assumption) ?_
  simp only [List.setIfInBounds_toArray, List.set_cons_zero, List.set_cons_succ]
  refine held_take (v := .int .u8 (byteAt l 1)) 3 rfl (by kernel_rfl) (by kernel_rfl) (by kernel_rfl) (fun _ _ _ h => h) (by rfl) (fun W _ => exec_index (.tmp 5) 1 1 rfl l rfl rfl rfl (by omega)) (by assumption) ?_
  simp only [List.setIfInBounds_toArray, List.set_cons_zero, List.set_cons_succ]
  refine held_take (v := .int .u8 (byteAt l 2)) 5 rfl (by kernel_rfl) (by kernel_rfl) (by kernel_rfl) (fun _ _ _ h => h) (by rfl) (fun W _ => exec_index (.tmp 7) 2 2 rfl l rfl rfl rfl (by omega)) (by assumption) ?_
  simp only [List.setIfInBounds_toArray, List.set_cons_zero, List.set_cons_succ]
  refine held_take (v := .int .u8 (byteAt l 3)) 7 rfl (by kernel_rfl) (by kernel_rfl) (by kernel_rfl) (fun _ _ _ h => h) (by rfl) (fun W _ => exec_index (.tmp 9) 3 3 rfl l rfl rfl rfl (by omega)) (by assumption) ?_
  simp only [List.setIfInBounds_toArray, List.set_cons_zero, List.set_cons_succ]
  refine held_take (v := ?v71) 8 rfl (by kernel_rfl) (by kernel_rfl) (by kernel_rfl) (fun _ _ _ h => h) (by rfl) ?y71 (by assumption) ?_
  case y71 => (intro w hSw; (try dsimp only at hSw); go_simp; try with_reducible rfl)
  simp only [List.setIfInBounds_toArray, List.set_cons_zero, List.set_cons_succ]
  refine held_none 9 rfl (by kernel_rfl) (by rfl) (fun K hK => ?_)
  go_simp
  refine hK.out _ _ trivial (fun _ => ?_)
  refine wpAnyH_done (by kernel_rfl) ?_ _
  refine NoPanic.normal ?_
  clear hK K
  go_wp2
  refine bodyPost_ret (v := .agg #[.int .u8 (byteAt l 0), .int .u8 (byteAt l 1), .int .u8 (byteAt l 2), .int .u8 (byteAt l 3)]) (by simp [results, Try.results25, go_sem]) rfl ⟨rfl, ((Below.refl _ _).alloc (Nat.le_refl _) _).drew⟩

theorem conv_four (W : World) (x0 x1 x2 x3 : UInt8) : (convert 22 9 (.slice (some ⟨W.heap.size, 0, none⟩) 4 4)).run Try.prog (W.alloc (.cells #[.int .u8 (x0.toNat : Int), .int .u8 (x1.toNat : Int), .int .u8 (x2.toNat : Int), .int .u8 (x3.toNat : Int)] 5)) = .ok (.string ⟨[x0, x1, x2, x3].toArray⟩) (W.alloc (.cells #[.int .u8 (x0.toNat : Int), .int .u8 (x1.toNat : Int), .int .u8 (x2.toNat : Int), .int .u8 (x3.toNat : Int)] 5)) :=
  (isB_built W [x0, x1, x2, x3] _ rfl (by simp)).conv Try.underlying22 Try.underlying5 Try.underlying9
set_option maxHeartbeats 1000000 in
theorem rtext_any (x0 x1 x2 x3 : UInt8) (w : World) :
    Calls Try.prog 30 #[.agg #[.int .u8 (x0.toNat : Int), .int .u8 (x1.toNat : Int), .int .u8 (x2.toNat : Int), .int .u8 (x3.toNat : Int)]] w fun r w' => r = .returned (.string ⟨[x0, x1, x2, x3].toArray⟩) ∧ Below w.heap.size w w' := by
  have hc := conv_four (w.alloc (.cells #[.int .u8 (x0.toNat : Int), .int .u8 (x1.toNat : Int), .int .u8 (x2.toNat : Int), .int .u8 (x3.toNat : Int)] 25)) x0 x1 x2 x3
  rw [World.size_alloc] at hc
  go_enter Try.func30, Try.ntmps30
  go_wp2
  go_ret
  exact ⟨rfl, ((Below.refl _ _).alloc (Nat.le_refl _) _).alloc (by simp) _⟩
end Go.Proofs.Ytchkbdgoghcgcaa
