/- The document's ip6: Put. Proved: what it returns. -/
import Derived.Test.YtemocbcibnccpaaSx3
import Derived.Test.YtemocbcibnccpaaRef2
import Derived.Test.YtemocbcibnccpaaOrd
import Derived.Test.YtemocbcibnccpaaExe
namespace Go.Proofs.Ytemocbcibnccpaa
open Go Go.RowKit

set_option maxHeartbeats 1000000 in
theorem rput6_arg (h : Hdr6) (b : Value) (w : World) (hf : h.flow < 0 ∨ (0 ≤ h.flow ∧ 1048575 < h.flow)) :
    Calls Try.prog 13 #[h.val, b] w fun r w' => r = .returned (.tuple #[.string ⟨#[]⟩, .int .i64 1]) ∧ Below w.heap.size w w' := by
  have c1 : (w.alloc (.cells h.cells 26)).cell? ⟨w.heap.size, 1, none⟩ = some (.int .i64 h.flow) := hdr6_cell (heap_alloc_new w _) 1
  rw [show h.val = .agg h.cells from rfl]
  generalize h.flow = O at *
  rcases hf with h1 | ⟨h1, h2⟩
  all_goals
    go_enter Try.func13, Try.ntmps13
    go_wp2
    go_ret2
    exact ⟨rfl, (Below.refl _ _).alloc (Nat.le_refl _) _⟩
set_option maxHeartbeats 1000000 in
theorem rput6_long (h : Hdr6) (body : List UInt8) (w : World) (f0 : 0 ≤ h.flow) (f1 : h.flow ≤ 1048575) (hlim : body.length ≤ 500000) (hall : 65535 < 40 + body.length) :
    Calls Try.prog 13 #[h.val, .string ⟨body.toArray⟩] w fun r w' => r = .returned (.tuple #[.string ⟨#[]⟩, .int .i64 13]) ∧ Below w.heap.size w w' := by
  have hz : (⟨body.toArray⟩ : ByteArray).size = body.length := by simp [ByteArray.size]
  have c1 : (w.alloc (.cells h.cells 26)).cell? ⟨w.heap.size, 1, none⟩ = some (.int .i64 h.flow) := hdr6_cell (heap_alloc_new w _) 1
  rw [show h.val = .agg h.cells from rfl]
  generalize h.flow = O at *
  have q : 65535 < (body.length : Int) + 40 := by omega
  go_enter Try.func13, Try.ntmps13
  go_wp2
  go_ret2
  exact ⟨rfl, (Below.refl _ _).alloc (Nat.le_refl _) _⟩

/-- A fact that no walk looks into. -/
structure Sealed (p : Prop) : Prop where
  out : p
section
variable {ops : Array Oper} {rest : List Oper} {o : Oper} {a : Act} {w : World} {Q : Exit → Act → World → Prop}
/-- A product or a sum of two numbers whose value is known ahead. -/
theorem wpList_mulN (hgd : o.guard = none) (x y : Operand) (t2 : TypeId) (ho : o.op = .binOp .mul 3 x y t2) (u v r : Int) (hx : a.eval x = .int .i64 u) (hy : a.eval y = .int .i64 v) (hr : Sealed (IntKind.i64.wrap (u * v) = r))
    (hR : wpList Try.prog ops Q rest (a.put o.dst (.int .i64 r)) w) : wpList Try.prog ops Q (o :: rest) a w :=
  wpList_plain hgd fun K hK => by
    unfold Oper.wp execOp
    have hb : (do eqGuard .mul 3 x y (.int .i64 u) (.int .i64 v); binOp .mul 3 (.int .i64 u) (.int .i64 v) : Sem Value).run Try.prog w = .ok (.int .i64 (IntKind.i64.wrap (u * v))) w := by go_simp
    rw [hr.out] at hb
    simp only [ho, hx, hy, Sem.run_bind] at hb ⊢
    rw [hb]
    exact hK _ _ hR
theorem wpList_addN (hgd : o.guard = none) (x y : Operand) (t2 : TypeId) (ho : o.op = .binOp .add 3 x y t2) (u v r : Int) (hx : a.eval x = .int .i64 u) (hy : a.eval y = .int .i64 v) (hr : Sealed (IntKind.i64.wrap (u + v) = r))
    (hR : wpList Try.prog ops Q rest (a.put o.dst (.int .i64 r)) w) : wpList Try.prog ops Q (o :: rest) a w :=
  wpList_plain hgd fun K hK => by
    unfold Oper.wp execOp
    have hb : (do eqGuard .add 3 x y (.int .i64 u) (.int .i64 v); binOp .add 3 (.int .i64 u) (.int .i64 v) : Sem Value).run Try.prog w = .ok (.int .i64 (IntKind.i64.wrap (u + v))) w := by go_simp
    rw [hr.out] at hb
    simp only [ho, hx, hy, Sem.run_bind] at hb ⊢
    rw [hb]
    exact hK _ _ hR
end
/-- What Put's last line reads. -/
def RPutS (g : Nat) (h : Hdr6) (w W : World) : Prop := W.cell? ⟨g, 3, none⟩ = some (.int .u8 (h.next.toNat : Int)) ∧ W.cell? ⟨g, 4, none⟩ = some (.int .u8 (h.ttl.toNat : Int)) ∧ W.heap[g]? = some (.cells h.cells 26 (0, 0)) ∧ Below w.heap.size w W
/-- The frame of Put's last line. -/
def rputT (h : Hdr6) (body : List UInt8) (g fl x0 F : Nat) (X1 X2 : Int) (x : Nat → Value) : Array Value :=
  #[.agg h.cells, .string ⟨body.toArray⟩, .pointer (some ⟨g, 0, none⟩), undef, x 25, x 26, .int .i64 (F : Int), .pointer (some ⟨g, 1, none⟩), .int .i64 (fl : Int), .bool (decide ((fl : Int) < 0)), .bool (decide ((fl : Int) < 0)), .pointer (some ⟨g, 1, none⟩), .int .i64 (fl : Int),
    .bool (decide (1048575 < (fl : Int))), .bool (decide ((fl : Int) < 0) || decide (1048575 < (fl : Int))), .string ⟨body.toArray⟩, .int .i64 (body.length : Int), .int .i64 (wrap64 ((body.length : Int) + 40)), .bool (decide (65535 < wrap64 ((body.length : Int) + 40))),
    .pointer (some ⟨g, 0, none⟩), .int .u8 (x0 : Int), .int .i64 (x0 : Int), .int .i64 X1, .int .i64 X2, .pointer (some ⟨g, 1, none⟩), .int .i64 (fl : Int), .int .i64 (F : Int), .int .i64 (F : Int), .int .u64 (IntKind.u64.wrap (F : Int)), x 2, .string ⟨body.toArray⟩, .int .i64 (body.length : Int),
    .int .u64 (IntKind.u64.wrap (body.length : Int)), x 6, x 7, .pointer (some ⟨g, 3, none⟩), .int .u8 (h.next.toNat : Int), .pointer (some ⟨g, 4, none⟩), .int .u8 (h.ttl.toNat : Int), x 12, x 13, x 14, .pointer (some ⟨g, 5, none⟩), arrV h.src, x 17, x 18, .pointer (some ⟨g, 21, none⟩), arrV h.dst, x 21, x 22, .string ⟨body.toArray⟩, x 24]
def RPutF (L1 L2 L3 L4 L5 body : List UInt8) (i : Nat) (v : Value) (W : World) : Prop :=
  match i with
  | 2 => v = .string ⟨L1.toArray⟩
  | 6 => v = .string ⟨L2.toArray⟩
  | 7 => v = .string ⟨(L1 ++ L2).toArray⟩
  | 12 => IsB W v L3
  | 13 => v = .string ⟨L3.toArray⟩
  | 14 => v = .string ⟨(L1 ++ L2 ++ L3).toArray⟩
  | 17 => v = .string ⟨L4.toArray⟩
  | 18 => v = .string ⟨(L1 ++ L2 ++ L3 ++ L4).toArray⟩
  | 21 => v = .string ⟨L5.toArray⟩
  | 22 => v = .string ⟨(L1 ++ L2 ++ L3 ++ L4 ++ L5).toArray⟩
  | 24 => v = .string ⟨(L1 ++ L2 ++ L3 ++ L4 ++ L5 ++ body).toArray⟩
  | 25 => v = .string ⟨(L1 ++ L2 ++ L3 ++ L4 ++ L5 ++ body).toArray⟩
  | 26 => v = .int .i64 0
  | _ => True
def rputPend : List Nat := [2, 6, 7, 12, 13, 14, 17, 18, 21, 22, 24, 25, 26]
theorem rputF_mono (L1 L2 L3 L4 L5 body : List UInt8) : ∀ i v W W', i ∈ rputPend → Below W.heap.size W W' → RPutF L1 L2 L3 L4 L5 body i v W → RPutF L1 L2 L3 L4 L5 body i v W' := by
  intro i v W W' hi hE hF
  simp only [rputPend, List.mem_cons, List.not_mem_nil, or_false] at hi
  rcases hi with rfl | rfl | rfl | rfl | rfl | rfl | rfl | rfl | rfl | rfl | rfl | rfl | rfl
  case _ => exact hF
  case _ => exact hF
  case _ => exact hF
  case _ => exact hF.below hE
  all_goals exact hF
theorem RPutS.below {g : Nat} {h : Hdr6} {w W W' : World} (hS : RPutS g h w W) (hb : Below W.heap.size W W') (hw : w.heap.size ≤ W.heap.size) : RPutS g h w W' := by
  obtain ⟨h1, h2, h3, h4⟩ := hS
  have hg := (Array.getElem?_eq_some_iff.1 h3).1
  exact ⟨(hb.cell (p := ⟨g, 3, none⟩) hg).trans h1, (hb.cell (p := ⟨g, 4, none⟩) hg).trans h2, (hb.block g hg).trans h3, below_up h4 hb hw⟩
set_option maxRecDepth 100000 in
set_option maxHeartbeats 4000000 in
theorem rput6_fit (h : Hdr6) (body : List UInt8) (w : World) (f : h.fit) (hall : 40 + body.length ≤ 65535) :
    Calls Try.prog 13 #[h.val, .string ⟨body.toArray⟩] w fun r w' => r = .returned (.tuple #[.string ⟨(put6 h body).toArray⟩, .int .i64 0]) ∧ Below w.heap.size w w' := by
  have hz : (⟨body.toArray⟩ : ByteArray).size = body.length := by simp [ByteArray.size]
  have hg := heap_alloc_new w (.cells h.cells 26)
  have hb0 : Below w.heap.size w (w.alloc (.cells h.cells 26)) := (Below.refl _ _).alloc (Nat.le_refl _) _
  obtain ⟨fl, hfl⟩ := Int.eq_ofNat_of_zero_le f.f0
  have hfl1 : fl ≤ 1048575 := by have := f.f1; omega
  have c0 : (w.alloc (.cells h.cells 26)).cell? ⟨w.heap.size, 0, none⟩ = some (.int .u8 (h.cls.toNat : Int)) := hdr6_cell hg 0
  have c1 : (w.alloc (.cells h.cells 26)).cell? ⟨w.heap.size, 1, none⟩ = some (.int .i64 (fl : Int)) := by rw [hdr6_cell hg 1, ← hfl]; rfl
  have c3 : (w.alloc (.cells h.cells 26)).cell? ⟨w.heap.size, 3, none⟩ = some (.int .u8 (h.next.toNat : Int)) := hdr6_cell hg 3
  have c4 : (w.alloc (.cells h.cells 26)).cell? ⟨w.heap.size, 4, none⟩ = some (.int .u8 (h.ttl.toNat : Int)) := hdr6_cell hg 4
  have hS0 : RPutS w.heap.size h w (w.alloc (.cells h.cells 26)) := ⟨c3, c4, hg, hb0⟩
  have b0 := UInt8.toNat_lt h.cls
  have hF : (1610612736 : Int) + (h.cls.toNat : Int) * 1048576 + (fl : Int) = (h.first : Int) := by unfold Hdr6.first; rw [hfl]; omega
  have hFlt := first_lt f
  obtain ⟨F, hFF⟩ : ∃ F, h.first = F := ⟨_, rfl⟩
  rw [hFF] at hF hFlt
  have HFlt : Sealed _ := ⟨hFlt⟩
  have HB4 := Lib.hid (fun W => rbytes_any F 4 W (by omega) (by omega))
  have HB2 := Lib.hid (fun W => rbytes_any body.length 2 W (by omega) (by omega))
  have HT5 := Lib.hid (fun W => rtext6_any h.src W f.s)
  have HT6 := Lib.hid (fun W => rtext6_any h.dst W f.d)
  have HF := Lib.hid f
  have HS0 := Lib.hid hS0
  have EF : Sealed _ := ⟨hF⟩
  have HFF : Sealed _ := ⟨hFF⟩
  clear hFF
  clear f hg hb0 hfl hF hFlt c3 c4 hS0
  rw [show h.val = .agg h.cells from rfl]
  generalize hc0 : h.cls.toNat = x0 at *
  obtain ⟨X1, hX1⟩ : ∃ X1 : Int, IntKind.i64.wrap ((x0 : Int) * 1048576) = X1 := ⟨_, rfl⟩
  obtain ⟨X2, hX2⟩ : ∃ X2 : Int, IntKind.i64.wrap (1610612736 + X1) = X2 := ⟨_, rfl⟩
  have hX3 : IntKind.i64.wrap (X2 + (fl : Int)) = (F : Int) := by
    have := EF.out
    rw [IntKind.wrap_i64] at hX1 hX2 ⊢
    omega
  have HX1 : Sealed _ := ⟨hX1⟩
  have HX2 : Sealed _ := ⟨hX2⟩
  have HX3 : Sealed _ := ⟨hX3⟩
  have hx0 : x0 ≤ 255 := by omega
  clear b0 EF hX1 hX2 hX3
  have HAll := Lib.hid hall
  have hq : wrap64 ((body.length : Int) + 40) ≤ 65535 := by
    unfold wrap64; omega
  clear hall
  go_enter Try.func13, Try.ntmps13
  go_wp2_with (first | (refine wpList_mulN rfl (.tmp 21) (.const (.int .i64 1048576)) _ rfl x0 1048576 X1 rfl rfl HX1 ?_) | (refine wpList_addN rfl (.const (.int .i64 1610612736)) (.tmp 22) _ rfl 1610612736 X1 X2 rfl rfl HX2 ?_) | (refine wpList_addN rfl (.tmp 23) (.tmp 25) _ rfl X2 fl F rfl rfl HX3 ?_))
  generalize (w.alloc (.cells h.cells 26)) = w0 at *
  refine wp_region_noPanic ?_
  refine wp_region_held_drew (S := RPutS w.heap.size h w) (by kernel_rfl) ⟨HS0.out.1, HS0.out.2.1, HS0.out.2.2.1, HS0.out.2.2.2.drew⟩ (fun hHeld => ?_)
  refine held_take (v := ?v148) 0 rfl (by kernel_rfl) (by kernel_rfl) (by kernel_rfl) (fun _ _ _ h => h) (by rfl) ?y148 (by assumption) ?_
  case y148 => (intro w hSw; unfold RPutS at hSw; go_simp; (try with_reducible rfl); (try omega))
  simp only [List.setIfInBounds_toArray, List.set_cons_zero, List.set_cons_succ]
  refine held_take (v := ?v151) 1 rfl (by kernel_rfl) (by kernel_rfl) (by kernel_rfl) (fun _ _ _ h => h) (by rfl) ?y151 (by assumption) ?_
  case y151 => (intro w hSw; unfold RPutS at hSw; go_simp; (try with_reducible rfl); (try omega))
  simp only [List.setIfInBounds_toArray, List.set_cons_zero, List.set_cons_succ]
  refine held_take (v := ?v154) 3 rfl (by kernel_rfl) (by kernel_rfl) (by kernel_rfl) (fun _ _ _ h => h) (by rfl) ?y154 (by assumption) ?_
  case y154 => (intro w hSw; unfold RPutS at hSw; go_simp; (try with_reducible rfl); (try omega))
  simp only [List.setIfInBounds_toArray, List.set_cons_zero, List.set_cons_succ]
  refine held_take (v := ?v157) 4 rfl (by kernel_rfl) (by kernel_rfl) (by kernel_rfl) (fun _ _ _ h => h) (by rfl) ?y157 (by assumption) ?_
  case y157 => (intro w hSw; unfold RPutS at hSw; go_simp; (try with_reducible rfl); (try omega))
  simp only [List.setIfInBounds_toArray, List.set_cons_zero, List.set_cons_succ]
  refine held_take (v := ?v160) 5 rfl (by kernel_rfl) (by kernel_rfl) (by kernel_rfl) (fun _ _ _ h => h) (by rfl) ?y160 (by assumption) ?_
  case y160 => (intro w hSw; unfold RPutS at hSw; go_simp; (try with_reducible rfl); (try omega))
  simp only [List.setIfInBounds_toArray, List.set_cons_zero, List.set_cons_succ]
  refine held_take (v := ?v163) 8 rfl (by kernel_rfl) (by kernel_rfl) (by kernel_rfl) (fun _ _ _ h => h) (by rfl) ?y163 (by assumption) ?_
  case y163 => (intro w hSw; unfold RPutS at hSw; go_simp; (try with_reducible rfl); (try omega))
  simp only [List.setIfInBounds_toArray, List.set_cons_zero, List.set_cons_succ]
  refine held_take (v := ?v166) 9 rfl (by kernel_rfl) (by kernel_rfl) (by kernel_rfl) (fun _ _ _ h => h) (by rfl) ?y166 (by assumption) ?_
  case y166 => (intro w hSw; unfold RPutS at hSw; go_simp; (try with_reducible rfl); (try omega))
  simp only [List.setIfInBounds_toArray, List.set_cons_zero, List.set_cons_succ]
  refine held_take (v := ?v169) 10 rfl (by kernel_rfl) (by kernel_rfl) (by kernel_rfl) (fun _ _ _ h => h) (by rfl) ?y169 (by assumption) ?_
  case y169 => (intro w hSw; unfold RPutS at hSw; go_simp; (try with_reducible rfl); (try omega))
  simp only [List.setIfInBounds_toArray, List.set_cons_zero, List.set_cons_succ]
  refine held_take (v := ?v172) 11 rfl (by kernel_rfl) (by kernel_rfl) (by kernel_rfl) (fun _ _ _ h => h) (by rfl) ?y172 (by assumption) ?_
  case y172 => (intro w hSw; unfold RPutS at hSw; go_simp; (try with_reducible rfl); (try omega))
  simp only [List.setIfInBounds_toArray, List.set_cons_zero, List.set_cons_succ]
  refine held_take (v := ?v175) 15 rfl (by kernel_rfl) (by kernel_rfl) (by kernel_rfl) (fun _ _ _ h => h) (by rfl) ?y175 (by assumption) ?_
  case y175 => (intro w hSw; unfold RPutS at hSw; go_simp; (try with_reducible rfl); (try omega))
  simp only [List.setIfInBounds_toArray, List.set_cons_zero, List.set_cons_succ]
  refine held_take (v := ?v178) 19 rfl (by kernel_rfl) (by kernel_rfl) (by kernel_rfl) (fun _ _ _ h => h) (by rfl) ?y178 (by assumption) ?_
  case y178 => (intro w hSw; unfold RPutS at hSw; go_simp; (try with_reducible rfl); (try omega))
  simp only [List.setIfInBounds_toArray, List.set_cons_zero, List.set_cons_succ]
  refine held_take (v := ?v181) 23 rfl (by kernel_rfl) (by kernel_rfl) (by kernel_rfl) (fun _ _ _ h => h) (by rfl) ?y181 (by assumption) ?_
  case y181 => (intro w hSw; unfold RPutS at hSw; go_simp; (try with_reducible rfl); (try omega))
  simp only [List.setIfInBounds_toArray, List.set_cons_zero, List.set_cons_succ]
  refine held_take (v := arrV h.src) 16 rfl (by kernel_rfl) (by kernel_rfl) (by kernel_rfl) (fun _ _ _ h => h) (by rfl) (fun W hSw => exec_load_arr (.tmp 42) rfl w.heap.size 5 h.src HF.out.s rfl (hdr6_src hSw.2.2.1)) (by assumption) ?_
  simp only [List.setIfInBounds_toArray, List.set_cons_zero, List.set_cons_succ]
  refine held_take (v := arrV h.dst) 20 rfl (by kernel_rfl) (by kernel_rfl) (by kernel_rfl) (fun _ _ _ h => h) (by rfl) (fun W hSw => exec_load_arr (.tmp 46) rfl w.heap.size 21 h.dst HF.out.d rfl (hdr6_dst ⟨HF.out.s, HF.out.d⟩ hSw.2.2.1)) (by assumption) ?_
  simp only [List.setIfInBounds_toArray, List.set_cons_zero, List.set_cons_succ]
  have lens : (lowB 4 F).length = 4 ∧ (lowB 2 body.length).length = 2 ∧ h.src.length = 16 ∧ h.dst.length = 16 ∧ body.length ≤ 65535 := ⟨lowB_length _ _, lowB_length _ _, HF.out.s, HF.out.d, by have := HAll.out; omega⟩
  have HLens := Lib.hid lens
  have ePut : put6 h body = lowB 4 F ++ lowB 2 body.length ++ [h.next, h.ttl] ++ h.src ++ h.dst ++ body := by
    unfold put6
    rw [HFF.out]
  have EPut := Lib.hid ePut
  rw [show (F : Int) = IntKind.u64.wrap (F : Int) by rw [IntKind.wrap_u64]; have := HFlt.out; omega] at HB4
  rw [show (body.length : Int) = IntKind.u64.wrap (body.length : Int) by rw [IntKind.wrap_u64]; have := lens.2.2.2.2; omega] at HB2
  clear ePut lens hq HAll hHeld
  refine any_order0 (T := rputT h body w.heap.size fl x0 F X1 X2) rputPend (RPutF (lowB 4 F) (lowB 2 body.length) [h.next, h.ttl] h.src h.dst body) (fun W W' => Below W.heap.size W W') (upd (upd (fun _ => undef) 25 (.string ⟨#[]⟩)) 26 (.int .i64 0)) (by kernel_rfl) (by kernel_rfl) (rputF_mono _ _ _ _ _ _) ⟨HS0.out.1, HS0.out.2.1, HS0.out.2.2.1, HS0.out.2.2.2.drew⟩ ?_ ?_
  · intro i hi x W hS hd K hK0
    have hK : Shut (∀ v w', RPutS w.heap.size h w w' → Below W.heap.size W w' → RPutF (lowB 4 F) (lowB 2 body.length) [h.next, h.ttl] h.src h.dst body i v w' → K ⟨rputT h body w.heap.size fl x0 F X1 X2 (upd x i v), []⟩ w') := hK0
    clear hK0
    have hwW : w.heap.size ≤ W.heap.size := hS.2.2.2.size
    simp only [rputPend, List.mem_cons, List.not_mem_nil, or_false] at hi
    rcases hi with rfl | rfl | rfl | rfl | rfl | rfl | rfl | rfl | rfl | rfl | rfl | rfl | rfl
    · refine op_one 2 rfl ?_
      unfold rputT
      go_simp
      refine (HB4.out _).mono ?_
      rintro e w' ⟨rfl, b⟩
      exact hK.out _ _ (hS.below b hwW) b rfl
    · refine op_one 6 rfl ?_
      unfold rputT
      go_simp
      refine (HB2.out _).mono ?_
      rintro e w' ⟨rfl, b⟩
      exact hK.out _ _ (hS.below b hwW) b rfl
    · have e2 : x 2 = .string ⟨(lowB 4 F).toArray⟩ := hd 2 (by kernel_rfl) (by decide)
      have e6 : x 6 = .string ⟨(lowB 2 body.length).toArray⟩ := hd 6 (by kernel_rfl) (by decide)
      exact op_value (T := rputT h body w.heap.size fl x0 F X1 X2) 7 _ W rfl (exec_cat (.tmp 29) (.tmp 33) _ rfl _ _ _ e2 e6 rfl (by simp only [List.length_append, HLens.out.1, HLens.out.2.1]; omega)) rfl (hK.out _ _ hS (Below.refl _ _) rfl)
    · have b : Below W.heap.size W (W.alloc (.cells #[.int .u8 (h.next.toNat : Int), .int .u8 (h.ttl.toNat : Int)] 5)) := (Below.refl _ _).alloc (Nat.le_refl _) _
      refine op_value (T := rputT h body w.heap.size fl x0 F X1 X2) 12 (.slice (some ⟨W.heap.size, 0, none⟩) 2 2) (W.alloc (.cells #[.int .u8 (h.next.toNat : Int), .int .u8 (h.ttl.toNat : Int)] 5)) rfl ?_ rfl (hK.out _ _ (hS.below b hwW) b (isB_built W [h.next, h.ttl] _ rfl (by simp)))
      unfold rputT
      go_simp
    · have e12 : IsB W (x 12) [h.next, h.ttl] := hd 12 (by kernel_rfl) (by decide)
      exact op_value (T := rputT h body w.heap.size fl x0 F X1 X2) 13 _ W rfl (exec_str (.tmp 39) rfl (x 12) _ rfl e12) rfl (hK.out _ _ hS (Below.refl _ _) rfl)
    · have e7 : x 7 = .string ⟨(lowB 4 F ++ lowB 2 body.length).toArray⟩ := hd 7 (by kernel_rfl) (by decide)
      have e13 : x 13 = .string ⟨[h.next, h.ttl].toArray⟩ := hd 13 (by kernel_rfl) (by decide)
      exact op_value (T := rputT h body w.heap.size fl x0 F X1 X2) 14 _ W rfl (exec_cat (.tmp 34) (.tmp 40) _ rfl _ _ _ e7 e13 rfl (by simp only [List.length_append, List.length_cons, List.length_nil, HLens.out.1, HLens.out.2.1]; omega)) rfl (hK.out _ _ hS (Below.refl _ _) rfl)
    · refine op_one 17 rfl ?_
      unfold rputT
      go_simp
      refine (HT5.out _).mono ?_
      rintro e w' ⟨rfl, b⟩
      exact hK.out _ _ (hS.below b hwW) b rfl
    · have e14 : x 14 = .string ⟨(lowB 4 F ++ lowB 2 body.length ++ [h.next, h.ttl]).toArray⟩ := hd 14 (by kernel_rfl) (by decide)
      have e17 : x 17 = .string ⟨h.src.toArray⟩ := hd 17 (by kernel_rfl) (by decide)
      exact op_value (T := rputT h body w.heap.size fl x0 F X1 X2) 18 _ W rfl (exec_cat (.tmp 41) (.tmp 44) _ rfl _ _ _ e14 e17 rfl (by simp only [List.length_append, List.length_cons, List.length_nil, HLens.out.1, HLens.out.2.1, HLens.out.2.2.1]; omega)) rfl (hK.out _ _ hS (Below.refl _ _) rfl)
    · refine op_one 21 rfl ?_
      unfold rputT
      go_simp
      refine (HT6.out _).mono ?_
      rintro e w' ⟨rfl, b⟩
      exact hK.out _ _ (hS.below b hwW) b rfl
    · have e18 : x 18 = .string ⟨(lowB 4 F ++ lowB 2 body.length ++ [h.next, h.ttl] ++ h.src).toArray⟩ := hd 18 (by kernel_rfl) (by decide)
      have e21 : x 21 = .string ⟨h.dst.toArray⟩ := hd 21 (by kernel_rfl) (by decide)
      exact op_value (T := rputT h body w.heap.size fl x0 F X1 X2) 22 _ W rfl (exec_cat (.tmp 45) (.tmp 48) _ rfl _ _ _ e18 e21 rfl (by simp only [List.length_append, List.length_cons, List.length_nil, HLens.out.1, HLens.out.2.1, HLens.out.2.2.1, HLens.out.2.2.2.1]; omega)) rfl (hK.out _ _ hS (Below.refl _ _) rfl)
    · have e22 : x 22 = .string ⟨(lowB 4 F ++ lowB 2 body.length ++ [h.next, h.ttl] ++ h.src ++ h.dst).toArray⟩ := hd 22 (by kernel_rfl) (by decide)
      exact op_value (T := rputT h body w.heap.size fl x0 F X1 X2) 24 _ W rfl (exec_cat (.tmp 49) (.tmp 50) _ rfl _ _ _ e22 rfl rfl (by have := HLens.out.2.2.2.2; simp only [List.length_append, List.length_cons, List.length_nil, HLens.out.1, HLens.out.2.1, HLens.out.2.2.1, HLens.out.2.2.2.1]; omega)) rfl (hK.out _ _ hS (Below.refl _ _) rfl)
    · have e24 : x 24 = .string ⟨(lowB 4 F ++ lowB 2 body.length ++ [h.next, h.ttl] ++ h.src ++ h.dst ++ body).toArray⟩ := hd 24 (by kernel_rfl) (by decide)
      exact op_value (T := rputT h body w.heap.size fl x0 F X1 X2) 25 _ W rfl (exec_assign (.tmp 51) rfl _ e24) rfl (hK.out _ _ hS (Below.refl _ _) rfl)
    · exact op_value (T := rputT h body w.heap.size fl x0 F X1 X2) 26 _ W rfl (exec_assign (.const (.int .i64 0)) rfl (.int .i64 0) rfl) rfl (hK.out _ _ hS (Below.refl _ _) rfl)
  · intro x W hS hF
    have e25 : x 25 = .string ⟨(lowB 4 F ++ lowB 2 body.length ++ [h.next, h.ttl] ++ h.src ++ h.dst ++ body).toArray⟩ := hF 25 (by decide)
    have e26 : x 26 = .int .i64 0 := hF 26 (by decide)
    rw [← EPut.out] at e25
    have E25 := Lib.hid e25
    have E26 := Lib.hid e26
    have HS := Lib.hid hS.2.2.2
    clear hF e25 e26 hS
    refine NoPanic.normal ?_
    unfold rputT
    go_wp2
    go_ret2
    refine ⟨?_, HS.out⟩
    show Ending.returned (.tuple #[x 25, x 26]) = _
    rw [E25.out, E26.out]

theorem rput6_any (h : Hdr6) (f : h.wide) (body : List UInt8) (w : World) (hlim : body.length ≤ 500000) :
    Calls Try.prog 13 #[h.val, .string ⟨body.toArray⟩] w fun r w' => r = .returned (.tuple #[.string ⟨(putP6 h body).toArray⟩, .int .i64 (putC6 h body.length)]) ∧ Below w.heap.size w w' := by
  unfold putC6 putP6
  cases ho : h.okB
  · simp only [Bool.false_eq_true, if_false]
    have hn := of_decide_eq_false ho
    exact rput6_arg h _ w (by omega)
  · simp only [if_true]
    have hf := Hdr6.fit_of f ho
    by_cases hl : 40 + body.length ≤ 65535
    · rw [if_pos hl, if_pos hl]
      exact rput6_fit h body w hf hl
    · rw [if_neg hl, if_neg hl]
      exact rput6_long h body w hf.f0 hf.f1 hlim (by omega)
end Go.Proofs.Ytemocbcibnccpaa
