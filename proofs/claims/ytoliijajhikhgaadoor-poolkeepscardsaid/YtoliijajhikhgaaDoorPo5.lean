/- Package pool: a thing is laid in. -/
import Derived.Test.YtoliijajhikhgaaDoorPo4
namespace Go.Proofs.YtoliijajhikhgaaDoor
open Go Go.RowKit Go.Shelf
attribute [local go_sem] Oper.semAt_some

/-- A thing is laid in. -/
def addT (T : List (Value × Int)) (v : Value) : List (Value × Int) := (reachT T).set (freeU (usT T)) (v, 1)
theorem usT_add (T : List (Value × Int)) (v : Value) : usT (addT T v) = addU (usT T) := by
  unfold addT addU
  rw [usT_set, usT_reach]
theorem reachT_len (T : List (Value × Int)) : freeU (usT T) < (reachT T).length ∧ T.length ≤ (reachT T).length ∧ (reachT T).length ≤ T.length + 1 := by
  have := reachU_len (usT T)
  rw [← usT_reach, usT_len, usT_len] at this
  exact this
theorem addT_len (T : List (Value × Int)) (v : Value) : (addT T v).length = (reachT T).length := List.length_set
theorem addT_at (T : List (Value × Int)) (v : Value) : (addT T v)[freeU (usT T)]? = some (v, 1) := by
  unfold addT
  rw [List.getElem?_set_self (reachT_len T).1]
theorem built_th (ty : TypeId) (u : Value) : Tryd.prog.built 74 [(0, .iface ty u), (1, .int .i64 1)] = some (thR (.iface ty u, 1)).toArray := by kernel_rfl
theorem exec_build2P {ρ : Operand → Value} {o : Oper} {W : World} (t : TypeId) (x y : Operand) (ho : o.op = .build t #[(0, x), (1, y)]) {u v : Value} (hx : ρ x = u) (hy : ρ y = v) {l : List Value} (hb : Tryd.prog.built t [(0, u), (1, v)] = some l.toArray) : (execOp ρ o).run Tryd.prog W = .ok (.value (.agg l.toArray)) W := by
  subst hx
  subst hy
  unfold execOp
  have hb := run_build (P := Tryd.prog) W t #[(0, ρ x), (1, ρ y)] l.toArray hb
  simp only [ho, List.map_toArray, List.map_cons, List.map_nil, Sem.run_bind, hb, Result.andThen_ok, Sem.run_pure]
set_option maxRecDepth 100000 in
theorem padd_full {base pt : Nat} {room : Int} {T : List (Value × Int)} {vt vk : Value} {ks : List Nat} (v : Value) (w : World) (h : PoolM w base pt room T vt vk ks) (hf : room ≤ (cntU (usT T) : Int)) :
    Calls Tryd.prog 26 #[.pointer (some ⟨pt, 0, none⟩), v] w fun e w' => e = .returned (.tuple #[.int .i64 0, .int .i64 30]) ∧ Below w.heap.size w w' := by
  have c0 : w.cell? ⟨pt, 0, none⟩ = some (.int .i64 room) := by rw [h.bx.cell]; rfl
  have c1 : w.cell? ⟨pt, 1, none⟩ = some (.int .i64 (cntU (usT T) : Int)) := by rw [h.bx.cell]; rfl
  generalize (cntU (usT T) : Int) = c at *
  have hge : c ≥ room := hf
  have HB := Lib.hid (Below.refl w.heap.size w).drew
  clear h
  go_enter Tryd.func26, Tryd.ntmps26
  go_wp2_with fail
  go_region
  go_wp2
  go_ret2
  exact ⟨rfl, HB.out⟩
set_option maxRecDepth 100000 in
set_option maxHeartbeats 8000000 in
theorem padd_any {base pt : Nat} {room : Int} {T : List (Value × Int)} {vt vk : Value} {ks : List Nat} (ty : TypeId) (u : Value) (w : World) (h : PoolM w base pt room T vt vk ks) (hf : (cntU (usT T) : Int) < room) (hT : T.length ≤ 10000) :
    Calls Tryd.prog 26 #[.pointer (some ⟨pt, 0, none⟩), .iface ty u] w fun e w' => e = .returned (.tuple #[.int .i64 (freeU (usT T) : Int), .int .i64 0]) ∧ ∃ vt' vk' ks', PoTo w w' base pt room (addT T (.iface ty u)) vt' vk' ks' := by
  have c0 : w.cell? ⟨pt, 0, none⟩ = some (.int .i64 room) := by rw [h.bx.cell]; rfl
  have c1 : w.cell? ⟨pt, 1, none⟩ = some (.int .i64 (cntU (usT T) : Int)) := by rw [h.bx.cell]; rfl
  have hfn : ¬ (cntU (usT T) : Int) ≥ room := by omega
  have hD := PoTo.below (Below.refl w.heap.size w).drew h
  have hkl : ks.length ≤ 10000 := by have := h.tk.lo; rw [usT_len] at this; omega
  have HL := Lib.hid (plow_any w.drew hD.m (by omega))
  have HR := Lib.hid (preach_any w.drew hD.m (by omega) (by omega))
  have HD := Lib.hid hD
  have HCL := Lib.hid (show cntU (usT T) ≤ 10000 from Nat.le_trans (cntU_le _) (by rw [usT_len]; exact hT))
  have HTK := Lib.hid h.tk.reach
  have HCR := Lib.hid (cntU_reach (usT T))
  have HCA := Lib.hid (cntU_add (usT T))
  have HRL := Lib.hid (reachT_len T)
  have HAT := Lib.hid (show addT T (.iface ty u) = (reachT T).set (freeU (usT T)) (.iface ty u, 1) from rfl)
  have HUA := Lib.hid (usT_add T (.iface ty u))
  have HUR := Lib.hid (usT_reach T)
  have HAU := Lib.hid (show addU (usT T) = (reachU (usT T)).set (freeU (usT T)) 1 from rfl)
  clear h hD
  generalize freeU (usT T) = f at *
  generalize reachK (usT T) ks = ks1 at *
  generalize reachT T = T1 at *
  generalize addT T (.iface ty u) = T2 at *
  have hfl := HRL.out.1
  have hfl0 := HRL.out.2.2
  have hfk : f / 64 < ks1.length := by have := HTK.out.hi; rw [← HUR.out, usT_len] at this; omega
  have hklt : ks1.getD (f / 64) 0 < 18446744073709551616 := by
    rw [List.getD_eq_getElem?_getD, List.getElem?_eq_getElem hfk]
    exact HTK.out.lt _ (List.getElem_mem _)
  have HFL := Lib.hid hfl
  have HFK := Lib.hid hfk
  have HKLT := Lib.hid hklt
  have hkl1 : ks1.length ≤ 10001 := by have := HTK.out.lo; rw [← HUR.out, usT_len] at this; omega
  have q0 : Int.tdiv (f : Int) 64 = ((f / 64 : Nat) : Int) := by rw [Int.tdiv_eq_ediv_of_nonneg (by omega)]; omega
  have q1 : (f : Int) / 64 = ((f / 64 : Nat) : Int) := by omega
  have m0 : Int.tmod (f : Int) 64 = ((f % 64 : Nat) : Int) := by rw [Int.tmod_eq_emod_of_nonneg (by omega)]; omega
  have m1 : (f : Int) % 64 = ((f % 64 : Nat) : Int) := by omega
  have w5 : IntKind.i64.wrap ((f / 64 : Nat) : Int) = ((f / 64 : Nat) : Int) := by simp [IntKind.wrap, IntKind.bits, IntKind.signed]; omega
  have w9 : IntKind.i64.wrap ((f % 64 : Nat) : Int) = ((f % 64 : Nat) : Int) := by simp [IntKind.wrap, IntKind.bits, IntKind.signed]; omega
  have HRR := Lib.hid (show f % 64 < 64 from Nat.mod_lt _ (by decide))
  obtain ⟨B, hB⟩ : ∃ B, B = 2 ^ (f % 64) := ⟨_, rfl⟩
  have HBB := Lib.hid (show (2 : Int) ^ (f % 64) = (B : Int) by rw [hB]; simp)
  have HBL := Lib.hid (show B < 18446744073709551616 by rw [hB]; exact u64_bit HRR.out)
  have wB : IntKind.u64.wrap ((2 : Int) ^ (f % 64)) = (B : Int) := by have := HBL.out; rw [HBB.out]; simp [IntKind.wrap, IntKind.bits, IntKind.signed]; omega
  have HBE := Lib.hid hB
  have HTON := Lib.hid (HTK.out.on (show f < (reachU (usT T)).length by rw [← HUR.out, usT_len]; exact hfl))
  rw [← hB] at HTON
  clear hB
  have HIT : (f : Int) < (T1.length : Int) := by omega
  have hf0 : ¬ (f : Int) < 0 := by omega
  have hiK : ((f / 64 : Nat) : Int) < (ks1.length : Int) := by omega
  have hk0 : ¬ ((f / 64 : Nat) : Int) < 0 := by omega
  generalize f / 64 = d at *
  generalize f % 64 = r at *
  have hOR := u64_or_nat (ks1.getD d 0) B hklt HBL.out
  obtain ⟨N, hN⟩ : ∃ N, N = ks1.getD d 0 ||| B := ⟨_, rfl⟩
  rw [← hN] at hOR HTON
  obtain ⟨k, hk⟩ : ∃ k, k = ks1.getD d 0 := ⟨_, rfl⟩
  rw [← hk] at hOR
  have HK := Lib.hid hk
  clear hklt hk hN hfk hfl hfl0
  obtain ⟨c, hc⟩ : ∃ c : Int, c = (cntU (usT T) : Int) := ⟨_, rfl⟩
  rw [← hc] at c1 hfn
  have HC := Lib.hid hc
  have kk1 : IntKind.i64.wrap (c + 1) = c + 1 := by have := HCL.out; simp [IntKind.wrap, IntKind.bits, IntKind.signed]; omega
  clear hc hf
  go_enter Tryd.func26, Tryd.ntmps26
  go_wp2_with fail
  go_region
  clear c0 c1
  go_wp2_with (first
    | (go_at_call 34; refine HL.out.mono ?_; rintro e w1 ⟨rfl, rfl⟩)
    | (go_at_call 35; refine HR.out.mono ?_; rintro e w1 ⟨⟨v9, rfl⟩, vt1, vk1, hTo⟩; refine Hid.out ?_))
  refine Lib.hid ?_
  have hS := hTo.mid
  rw [show (cntU (usT T1) : Int) = c by rw [HC.out, HUR.out, HCR.out]] at hS
  obtain ⟨gt, ct, hvt⟩ := ownG_form hS.r.kt (Nat.lt_of_le_of_lt (Nat.zero_le _) HFL.out)
  obtain ⟨gk, ck, hvk⟩ := ownG_form hS.r.kk (Nat.lt_of_le_of_lt (Nat.zero_le _) HFK.out)
  subst hvt
  subst hvk
  have H1 := Lib.hid (hS.cnt (c + 1))
  have c1 : w1.cell? ⟨pt, 1, none⟩ = some (.int .i64 c) := by rw [hS.r.bx.cell]; rfl
  have y1 := hS.r.bx.frozen 1
  have c2 : w1.cell? ⟨pt, 2, none⟩ = some (.slice (some ⟨gt, 0, none⟩) T1.length ct) := by rw [hS.r.bx.cell]; rfl
  have HTH := Lib.hid (ownG_there H1.out.r.kt (thR_all T1) f HFL.out)
  have H2 := Lib.hid (H1.out.th HFL.out (.iface ty u, 1) rfl)
  have HS2 := Lib.hid (H2.out.drew.bitS HFK.out)
  rw [← HK.out] at HS2
  clear hTo hS
  go_wp2_with (first
    | (refine plV rfl (.agg (thR (.iface ty u, 1)).toArray) (exec_build2P _ (.tmp 37) (.const (.int .i64 1)) rfl rfl rfl (built_th ty u)) ?_)
    | (refine wpList_store_mid rfl 74 (.tmp 39) (.tmp 38) rfl gt (f * 2) (thR (.iface ty u, 1)).toArray rfl rfl HTH.out th_info (all_oneCell_toArray (thR_one rfl)) ?_; refine Hid.out ?_))
  refine Lib.hid ?_
  generalize (w1.setCell ⟨pt, 1, none⟩ (.int .i64 (c + 1))).setCells gt (f * 2) (thR (.iface ty u, 1)) = W2 at *
  clear HTH H1 c1 y1 c2
  go_wp2_with fail
  obtain ⟨e3, e4, e5⟩ := HS2.out
  have H3 := Lib.hid (H2.out.bits HFK.out N).drew
  clear H2 HS2
  go_region
  generalize (W2.setCell ⟨gk, d, none⟩ (.int .u64 (N : Int))).drew = W3 at *
  go_wp2
  go_ret2
  rw [← HAT.out] at H3
  have hF := H3.out.fin (by rw [HUA.out, HCA.out, HC.out]; omega) (by rw [HUA.out, HAU.out]; exact HTON.out)
  exact ⟨rfl, _, _, _, hF.m, ot_trans (KpO.below (Below.refl w.heap.size w).drew) hF.k⟩
end Go.Proofs.YtoliijajhikhgaaDoor
