/- Package pool: Ref, Unref, AddInt, AddText. -/
import Derived.Test.YtoliijajhikhgaaDoorPo5
import Derived.Test.YtoliijajhikhgaaDoorShelf
namespace Go.Proofs.YtoliijajhikhgaaDoor
open Go Go.RowKit Go.Shelf
attribute [local go_sem] Oper.semAt_some

section
variable {base pt : Nat} {room : Int} {T : List (Value × Int)} {vt vk : Value} {ks : List Nat}
set_option maxRecDepth 100000 in
theorem pref_no (id : Int) (w : World) (h : PoolM w base pt room T vt vk ks) (hz : (atT T id).2 = 0) :
    Calls Tryd.prog 11 #[.pointer (some ⟨pt, 0, none⟩), .int .i64 id] w fun e w' => e = .returned (.int .i64 31) ∧ Below w.heap.size w w' := by
  have HC := Lib.hid (pcheck_any id w h)
  rw [show chkP14 T id = 31 from if_pos hz] at HC
  clear h hz
  go_enter Tryd.func11, Tryd.ntmps11
  go_wp2_with (go_at_call 28; refine HC.out.mono ?_; rintro e w1 ⟨rfl, b1⟩; refine Hid.out ?_)
  refine Lib.hid ?_
  have HB := Lib.hid b1
  clear b1
  go_wp2
  go_ret
  exact ⟨rfl, HB.out⟩
set_option maxRecDepth 100000 in
theorem pref_any (i : Nat) (x : Value × Int) (w : World) (h : PoolM w base pt room T vt vk ks) (hx : T[i]? = some x) (hu : 0 < x.2) (hu2 : x.2 ≤ 100000) :
    Calls Tryd.prog 11 #[.pointer (some ⟨pt, 0, none⟩), .int .i64 (i : Int)] w fun e w' => e = .returned (.int .i64 0) ∧ PoTo w w' base pt room (T.set i (x.1, x.2 + 1)) vt vk ks := by
  have hi : i < T.length := (List.getElem?_eq_some_iff.1 hx).1
  have HC := Lib.hid (pcheck_any (i : Int) w h)
  rw [show chkP14 T (i : Int) = 0 from if_neg (by rw [atT_of hx]; omega)] at HC
  have hiT : (i : Int) < (T.length : Int) := by omega
  have hi0 : ¬ (i : Int) < 0 := by omega
  have kk1 : IntKind.i64.wrap (x.2 + 1) = x.2 + 1 := by simp [IntKind.wrap, IntKind.bits, IntKind.signed]; omega
  have HX := Lib.hid hx
  have HT2 : Hid (cntU (usT (T.set i (x.1, x.2 + 1))) = cntU (usT T)) := by
    have := cntU_set (us := usT T) (i := i) (by rw [usT_len]; exact hi) (x.2 + 1)
    rw [usT_at hx, if_pos hu, if_pos (by omega)] at this
    show cntU (usT (T.set i (x.1, x.2 + 1))) = _
    rw [usT_set]
    exact Nat.add_right_cancel this
  have HTK : Hid (Taken (usT (T.set i (x.1, x.2 + 1))) ks) := by
    show Taken _ _
    rw [usT_set]
    exact h.tk.same (by rw [usT_len]; exact hi) (by show 0 < x.2 + 1; omega) (by rw [usT_at hx]; exact hu)
  have HM := Lib.hid h
  clear h hu hu2 hi hx
  go_enter Tryd.func11, Tryd.ntmps11
  go_wp2_with (go_at_call 28; refine HC.out.mono ?_; rintro e w1 ⟨rfl, b1⟩; refine Hid.out ?_)
  refine Lib.hid ?_
  have hS := (PoTo.below b1 HM.out).mid
  clear b1
  obtain ⟨gt, ct, hvt⟩ := ownG_form hS.r.kt (by have := (List.getElem?_eq_some_iff.1 HX.out).1; omega)
  subst hvt
  have c2 : w1.cell? ⟨pt, 2, none⟩ = some (.slice (some ⟨gt, 0, none⟩) T.length ct) := by rw [hS.r.bx.cell]; rfl
  have c5 : w1.cell? ⟨gt, i * 2 + 1, none⟩ = some (.int .i64 x.2) := ownG_range hS.r.kt (thR_all T) i x HX.out 1 _ rfl
  have y5 : w1.frozen? ⟨gt, i * 2 + 1, none⟩ = false := (ownG_there hS.r.kt (thR_all T) i (List.getElem?_eq_some_iff.1 HX.out).1 1 (by decide)).2
  have H1 := Lib.hid (hS.use HX.out (x.2 + 1))
  clear hS
  go_wp2
  go_ret
  exact ⟨rfl, H1.out.fin (by rw [HT2.out]) HTK.out⟩
set_option maxRecDepth 100000 in
theorem punref_no (id : Int) (w : World) (h : PoolM w base pt room T vt vk ks) (hz : (atT T id).2 = 0) :
    Calls Tryd.prog 16 #[.pointer (some ⟨pt, 0, none⟩), .int .i64 id] w fun e w' => e = .returned (.tuple #[.bool false, .int .i64 31]) ∧ Below w.heap.size w w' := by
  have HC := Lib.hid (pcheck_any id w h)
  rw [show chkP14 T id = 31 from if_pos hz] at HC
  clear h hz
  go_enter Tryd.func16, Tryd.ntmps16
  go_wp2_with (go_at_call 28; refine HC.out.mono ?_; rintro e w1 ⟨rfl, b1⟩; refine Hid.out ?_)
  refine Lib.hid ?_
  have HB := Lib.hid b1
  clear b1
  go_wp2
  go_ret2
  exact ⟨rfl, HB.out⟩
set_option maxRecDepth 100000 in
theorem punref_more (i : Nat) (x : Value × Int) (w : World) (h : PoolM w base pt room T vt vk ks) (hx : T[i]? = some x) (hu : 1 < x.2) (hu2 : x.2 ≤ 100000) :
    Calls Tryd.prog 16 #[.pointer (some ⟨pt, 0, none⟩), .int .i64 (i : Int)] w fun e w' => e = .returned (.tuple #[.bool false, .int .i64 0]) ∧ PoTo w w' base pt room (T.set i (x.1, x.2 - 1)) vt vk ks := by
  have hi : i < T.length := (List.getElem?_eq_some_iff.1 hx).1
  have HC := Lib.hid (pcheck_any (i : Int) w h)
  rw [show chkP14 T (i : Int) = 0 from if_neg (by rw [atT_of hx]; omega)] at HC
  have hiT : (i : Int) < (T.length : Int) := by omega
  have hi0 : ¬ (i : Int) < 0 := by omega
  have kk1 : IntKind.i64.wrap (x.2 - 1) = x.2 - 1 := by simp [IntKind.wrap, IntKind.bits, IntKind.signed]; omega
  have hgt : x.2 - 1 > 0 := by omega
  have HX := Lib.hid hx
  have HT2 : Hid (cntU (usT (T.set i (x.1, x.2 - 1))) = cntU (usT T)) := by
    have := cntU_set (us := usT T) (i := i) (by rw [usT_len]; exact hi) (x.2 - 1)
    rw [usT_at hx, if_pos (by omega), if_pos (by omega)] at this
    show cntU (usT (T.set i (x.1, x.2 - 1))) = _
    rw [usT_set]
    exact Nat.add_right_cancel this
  have HTK : Hid (Taken (usT (T.set i (x.1, x.2 - 1))) ks) := by
    show Taken _ _
    rw [usT_set]
    exact h.tk.same (by rw [usT_len]; exact hi) (by show 0 < x.2 - 1; omega) (by rw [usT_at hx]; omega)
  have HM := Lib.hid h
  clear h hu hu2 hi hx
  go_enter Tryd.func16, Tryd.ntmps16
  go_wp2_with (go_at_call 28; refine HC.out.mono ?_; rintro e w1 ⟨rfl, b1⟩; refine Hid.out ?_)
  refine Lib.hid ?_
  have hS := (PoTo.below b1 HM.out).mid
  clear b1
  obtain ⟨gt, ct, hvt⟩ := ownG_form hS.r.kt (by have := (List.getElem?_eq_some_iff.1 HX.out).1; omega)
  subst hvt
  have hne : gt ≠ pt := fun e => hS.r.net (by rw [e]; rfl)
  have c2 : w1.cell? ⟨pt, 2, none⟩ = some (.slice (some ⟨gt, 0, none⟩) T.length ct) := by rw [hS.r.bx.cell]; rfl
  have c5 : w1.cell? ⟨gt, i * 2 + 1, none⟩ = some (.int .i64 x.2) := ownG_range hS.r.kt (thR_all T) i x HX.out 1 _ rfl
  have y5 : w1.frozen? ⟨gt, i * 2 + 1, none⟩ = false := (ownG_there hS.r.kt (thR_all T) i (List.getElem?_eq_some_iff.1 HX.out).1 1 (by decide)).2
  have H1 := Lib.hid (hS.use HX.out (x.2 - 1))
  clear hS
  go_wp2_with fail
  generalize w1.setCell ⟨gt, i * 2 + 1, none⟩ (.int .i64 (x.2 - 1)) = W1 at *
  have d2 : W1.cell? ⟨pt, 2, none⟩ = some (.slice (some ⟨gt, 0, none⟩) T.length ct) := by rw [H1.out.r.bx.cell]; rfl
  have d5 : W1.cell? ⟨gt, i * 2 + 1, none⟩ = some (.int .i64 (x.2 - 1)) := by
    have hl : i < (T.set i (x.1, x.2 - 1)).length := by rw [List.length_set]; exact (List.getElem?_eq_some_iff.1 HX.out).1
    exact ownG_range (show W1.ownsRow base 74 2 (.slice (some ⟨gt, 0, none⟩) T.length ct) (T.set i (x.1, x.2 - 1)).length ((T.set i (x.1, x.2 - 1)).flatMap thR) from H1.out.r.kt) (thR_all _) i (x.1, x.2 - 1) (List.getElem?_set_self (List.getElem?_eq_some_iff.1 HX.out).1) 1 _ rfl
  clear c2 c5 y5
  go_wp2
  go_ret2
  exact ⟨rfl, H1.out.fin (by rw [HT2.out]) HTK.out⟩
set_option maxRecDepth 100000 in
theorem punref_last (i : Nat) (x : Value × Int) (w : World) (h : PoolM w base pt room T vt vk ks) (hx : T[i]? = some x) (hu : x.2 = 1) (hT : T.length ≤ 10000) :
    Calls Tryd.prog 16 #[.pointer (some ⟨pt, 0, none⟩), .int .i64 (i : Int)] w fun e w' => e = .returned (.tuple #[.bool true, .int .i64 0]) ∧ ∃ ks', PoTo w w' base pt room (T.set i (.nilIface, 0)) vt vk ks' := by
  have hi : i < T.length := (List.getElem?_eq_some_iff.1 hx).1
  have HC := Lib.hid (pcheck_any (i : Int) w h)
  rw [show chkP14 T (i : Int) = 0 from if_neg (by rw [atT_of hx]; omega)] at HC
  have hiT : (i : Int) < (T.length : Int) := by omega
  have hi0 : ¬ (i : Int) < 0 := by omega
  have HX := Lib.hid hx
  have HT2 : Hid ((cntU (usT T) : Int) - 1 = cntU (usT (T.set i (.nilIface, 0)))) := by
    have := cntU_set (us := usT T) (i := i) (by rw [usT_len]; exact hi) 0
    rw [usT_at hx, if_pos (by omega), if_neg (by omega)] at this
    show (cntU (usT T) : Int) - 1 = cntU (usT (T.set i (.nilIface, 0)))
    rw [usT_set]
    show (cntU (usT T) : Int) - 1 = cntU ((usT T).set i 0)
    omega
  have hik : i / 64 < ks.length := by have := h.tk.hi; rw [usT_len] at this; omega
  have HTK : Hid (Taken (usT (T.set i (.nilIface, 0))) (ks.set (i / 64) (ks.getD (i / 64) 0 &&& (18446744073709551615 - 2 ^ (i % 64))))) := by
    show Taken _ _
    rw [usT_set]
    exact h.tk.off (by rw [usT_len]; exact hi)
  have hlt : ks.getD (i / 64) 0 < 18446744073709551616 := by
    rw [List.getD_eq_getElem?_getD, List.getElem?_eq_getElem hik]
    exact h.tk.lt _ (List.getElem_mem _)
  have HM := Lib.hid h
  have hcl : cntU (usT T) ≤ 10000 := Nat.le_trans (cntU_le _) (by rw [usT_len]; exact hT)
  obtain ⟨xv, xu⟩ := x
  obtain rfl : xu = 1 := hu
  have HIK := Lib.hid hik
  have HLT := Lib.hid hlt
  have HI := Lib.hid hi
  have HCL := Lib.hid hcl
  clear h hi hx hT hik hlt hcl
  go_enter Tryd.func16, Tryd.ntmps16
  go_wp2_with (go_at_call 28; refine HC.out.mono ?_; rintro e w1 ⟨rfl, b1⟩; refine Hid.out ?_)
  refine Lib.hid ?_
  have hS := (PoTo.below b1 HM.out).mid
  clear b1
  obtain ⟨gt, ct, hvt⟩ := ownG_form hS.r.kt (Nat.lt_of_le_of_lt (Nat.zero_le _) HI.out)
  subst hvt
  have c2 : w1.cell? ⟨pt, 2, none⟩ = some (.slice (some ⟨gt, 0, none⟩) T.length ct) := by rw [hS.r.bx.cell]; rfl
  have c5 : w1.cell? ⟨gt, i * 2 + 1, none⟩ = some (.int .i64 1) := ownG_range hS.r.kt (thR_all T) i (xv, 1) HX.out 1 _ rfl
  have y5 : w1.frozen? ⟨gt, i * 2 + 1, none⟩ = false := (ownG_there hS.r.kt (thR_all T) i HI.out 1 (by decide)).2
  have H1 := Lib.hid (hS.use HX.out 0)
  clear hS
  go_wp2_with fail
  generalize w1.setCell ⟨gt, i * 2 + 1, none⟩ (.int .i64 0) = W1 at *
  have d2 : W1.cell? ⟨pt, 2, none⟩ = some (.slice (some ⟨gt, 0, none⟩) T.length ct) := by rw [H1.out.r.bx.cell]; rfl
  have d5 : W1.cell? ⟨gt, i * 2 + 1, none⟩ = some (.int .i64 0) :=
    ownG_range (show W1.ownsRow base 74 2 (.slice (some ⟨gt, 0, none⟩) T.length ct) (T.set i (xv, 0)).length ((T.set i (xv, 0)).flatMap thR) from H1.out.r.kt) (thR_all _) i (xv, 0) (List.getElem?_set_self HI.out) 1 _ rfl
  have HDR := Lib.hid (pdrop_any i W1 H1.out.r (by rw [List.length_set]; exact HI.out) HIK.out HLT.out (by omega) (by have := HCL.out; omega))
  clear c2 c5 y5
  go_wp2_with (go_at_call 30; refine HDR.out.mono ?_; rintro e w2 ⟨⟨v9, rfl⟩, hS2⟩; refine Hid.out ?_)
  refine Lib.hid ?_
  have H2 := Lib.hid hS2
  clear hS2
  go_wp2
  go_ret2
  have h2 := H2.out
  rw [List.set_set] at h2
  have h3 : PoS w w2 base pt room _ _ _ _ _ := ⟨h2.r, ot_trans H1.out.k h2.k⟩
  exact ⟨rfl, _, h3.fin HT2.out HTK.out⟩
set_option maxRecDepth 100000 in
theorem paddInt_full (n : Int) (w : World) (h : PoolM w base pt room T vt vk ks) (hf : room ≤ (cntU (usT T) : Int)) :
    Calls Tryd.prog 20 #[.pointer (some ⟨pt, 0, none⟩), .int .i64 n] w fun e w' => e = .returned (.tuple #[.int .i64 0, .int .i64 30]) ∧ Below w.heap.size w w' := by
  have HA := Lib.hid (padd_full (.iface 3 (.int .i64 n)) w h hf)
  clear h hf
  go_enter Tryd.func20, Tryd.ntmps20
  go_wp2_with (go_at_call 26; refine HA.out.mono ?_; rintro e w1 ⟨rfl, b1⟩; refine Hid.out ?_)
  refine Lib.hid ?_
  have HB := Lib.hid b1
  clear b1
  go_wp2
  go_ret2
  exact ⟨rfl, HB.out⟩
set_option maxRecDepth 100000 in
theorem paddInt_any (n : Int) (w : World) (h : PoolM w base pt room T vt vk ks) (hf : (cntU (usT T) : Int) < room) (hT : T.length ≤ 10000) :
    Calls Tryd.prog 20 #[.pointer (some ⟨pt, 0, none⟩), .int .i64 n] w fun e w' => e = .returned (.tuple #[.int .i64 (freeU (usT T) : Int), .int .i64 0]) ∧ ∃ vt' vk' ks', PoTo w w' base pt room (addT T (.iface 3 (.int .i64 n))) vt' vk' ks' := by
  have HA := Lib.hid (padd_any 3 (.int .i64 n) w h hf hT)
  clear h hf hT
  go_enter Tryd.func20, Tryd.ntmps20
  go_wp2_with (go_at_call 26; refine HA.out.mono ?_; rintro e w1 ⟨rfl, b1⟩; refine Hid.out ?_)
  refine Lib.hid ?_
  have HB := Lib.hid b1
  clear b1
  go_wp2
  go_ret2
  exact ⟨rfl, HB.out⟩
set_option maxRecDepth 100000 in
theorem sclone_any (s : ByteArray) (w : World) (hs : s.size ≤ 281474976710656) : Calls Tryd.prog 31 #[.string s] w fun e w' => e = .returned (.string s) ∧ Below w.heap.size w w' := by
  have HA := Lib.hid (Tryd.stringslite_Clone s w hs)
  go_enter Tryd.func31, Tryd.ntmps31
  go_wp2_with (go_at_call 36; refine HA.out.mono ?_; rintro e w1 ⟨rfl, b1⟩; refine Hid.out ?_)
  refine Lib.hid ?_
  have HB := Lib.hid b1
  clear b1
  go_wp2
  go_ret
  exact ⟨rfl, HB.out⟩
set_option maxRecDepth 100000 in
theorem paddText_full (s : ByteArray) (w : World) (h : PoolM w base pt room T vt vk ks) (hs : s.size ≤ 281474976710656) (hf : room ≤ (cntU (usT T) : Int)) :
    Calls Tryd.prog 17 #[.pointer (some ⟨pt, 0, none⟩), .string s] w fun e w' => e = .returned (.tuple #[.int .i64 0, .int .i64 30]) ∧ Below w.heap.size w w' := by
  have HC := Lib.hid (sclone_any s w hs)
  have HA := Lib.hid (fun (W : World) (hb : Below w.heap.size w W) => padd_full (.iface 9 (.string s)) W (h.up hb) hf)
  clear h hf hs
  go_enter Tryd.func17, Tryd.ntmps17
  go_wp2_with (first
    | (go_at_call 31; refine HC.out.mono ?_; rintro e w1 ⟨rfl, b1⟩)
    | (go_at_call 26; refine (HA.out _ b1).mono ?_; rintro e w2 ⟨rfl, b2⟩; refine Hid.out ?_))
  refine Lib.hid ?_
  have HB := Lib.hid (below_up b1 b2 b1.size)
  clear b1 b2
  go_wp2
  go_ret2
  exact ⟨rfl, HB.out⟩
set_option maxRecDepth 100000 in
theorem paddText_any (s : ByteArray) (w : World) (h : PoolM w base pt room T vt vk ks) (hs : s.size ≤ 281474976710656) (hf : (cntU (usT T) : Int) < room) (hT : T.length ≤ 10000) :
    Calls Tryd.prog 17 #[.pointer (some ⟨pt, 0, none⟩), .string s] w fun e w' => e = .returned (.tuple #[.int .i64 (freeU (usT T) : Int), .int .i64 0]) ∧ ∃ vt' vk' ks', PoTo w w' base pt room (addT T (.iface 9 (.string s))) vt' vk' ks' := by
  have HC := Lib.hid (sclone_any s w hs)
  have HA := Lib.hid (fun (W : World) (hb : Below w.heap.size w W) => padd_any 9 (.string s) W (h.up hb) hf hT)
  clear h hf hs hT
  go_enter Tryd.func17, Tryd.ntmps17
  go_wp2_with (first
    | (go_at_call 31; refine HC.out.mono ?_; rintro e w1 ⟨rfl, b1⟩)
    | (go_at_call 26; refine (HA.out _ b1).mono ?_; rintro e w2 ⟨rfl, vt', vk', ks', hTo⟩; refine Hid.out ?_))
  refine Lib.hid ?_
  have HB := Lib.hid (show PoTo w w2 base pt room _ vt' vk' ks' from ⟨hTo.m, ot_trans (KpO.below b1) hTo.k⟩)
  clear b1 hTo
  go_wp2
  go_ret2
  exact ⟨rfl, _, _, _, HB.out⟩
end
end Go.Proofs.YtoliijajhikhgaaDoor
