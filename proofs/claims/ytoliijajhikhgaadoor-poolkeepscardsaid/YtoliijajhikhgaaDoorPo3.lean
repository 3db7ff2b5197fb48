/- Package pool: place for the lowest free number. -/
import Derived.Test.YtoliijajhikhgaaDoorPo2
namespace Go.Proofs.YtoliijajhikhgaaDoor
open Go Go.RowKit Go.Shelf
attribute [local go_sem] Oper.semAt_some

def reachT (T : List (Value × Int)) : List (Value × Int) := if freeU (usT T) = T.length then T ++ [(.nilIface, 0)] else T
theorem usT_reach (T : List (Value × Int)) : usT (reachT T) = reachU (usT T) := by
  unfold reachT reachU
  rw [usT_len]
  split
  · unfold usT; rw [List.map_append]; rfl
  · rfl
theorem fill_th1 (x : Value × Int) (z : Array Value) (hz : z.size = 2) : Instr.fill (fun i => some (i * 2, 2)) z [(0, .agg (thR x).toArray)] = some (thR x).toArray := fill_one 2 (thR x) rfl z hz
theorem exec_one_th {ρ : Operand → Value} {o : Oper} {w : World} (x : Operand) (ho : o.op = .buildSlice 61 1 #[(0, x)]) (s : Value × Int) (hx : ρ x = .agg (thR s).toArray) (b : Nat) (hb : w.heap.size = b) :
    (execOp ρ o).run Tryd.prog w = .ok (.value (.slice (some ⟨b, 0, none⟩) 1 1)) (w.alloc (.cells (thR s).toArray 74)) := by
  subst hb
  obtain ⟨i, hi, hz, hs, _⟩ := info_parts th_infoF
  have := run_buildSlice (P := Tryd.prog) w 61 74 1 #[(0, .agg (thR s).toArray)] (thR s).toArray i (.agg (thR (.nilIface, 0)).toArray) Tryd.underlying61 hi hz (by rw [hs]; decide) (by rw [hs]; decide) (by rw [hs]; exact fill_th1 s _ (by simp))
  unfold execOp
  simp only [ho, List.map_toArray, List.map_cons, List.map_nil, hx, Sem.run_bind, this, Result.andThen_ok, Sem.run_pure]
theorem u64_infoF : (Tryd.prog.info? 79).map (fun i => (i.zero, i.size, i.bytes)) = some (some (.int .u64 0), 1, 8) := by kernel_rfl
theorem built_th0 : Tryd.prog.built 74 [] = some (thR (.nilIface, 0)).toArray := by kernel_rfl
theorem slice_of14 {w : World} {base : Nat} {e : TypeId} {c n : Nat} {v : Value} {xs : List Value} (h : w.ownsRow base e c v n xs) : ∃ a k, v = .slice a n k ∧ n ≤ k ∧ k ≤ maxLen := by
  rcases h.2 with ⟨rfl, rfl⟩ | ⟨g, cap, cur, rfl, _, _, h3, h4, _⟩
  · exact ⟨none, 0, rfl, Nat.le_refl _, by simp [maxLen]⟩
  · exact ⟨_, _, rfl, h3, h4⟩
theorem slice_ex {w : World} {base : Nat} {e : TypeId} {c n : Nat} {v : Value} {xs : List Value} (h : w.ownsRow base e c v n xs) : ∃ a m k, v = .slice a m k := by
  obtain ⟨a, k, e, _⟩ := slice_of14 h
  exact ⟨a, _, k, e⟩
theorem kR_one (k : Nat) : ∀ v ∈ kR k, v.oneCell' = true := by
  intro v hv
  rw [List.mem_singleton.1 hv]
  rfl
theorem fill_k1 (x : Nat) (z : Array Value) (hz : z.size = 1) : Instr.fill (fun i => some (i * 1, 1)) z [(0, .int .u64 (x : Int))] = some (kR x).toArray := by
  obtain ⟨z⟩ := z
  match z, hz with
  | [_], _ => rfl
theorem exec_one_k {ρ : Operand → Value} {o : Oper} {w : World} (x : Operand) (ho : o.op = .buildSlice 62 1 #[(0, x)]) (k : Nat) (hx : ρ x = .int .u64 (k : Int)) (b : Nat) (hb : w.heap.size = b) :
    (execOp ρ o).run Tryd.prog w = .ok (.value (.slice (some ⟨b, 0, none⟩) 1 1)) (w.alloc (.cells (kR k).toArray 79)) := by
  subst hb
  obtain ⟨i, hi, hz, hs, _⟩ := info_parts u64_infoF
  have := run_buildSlice (P := Tryd.prog) w 62 79 1 #[(0, .int .u64 (k : Int))] (kR k).toArray i (.int .u64 0) Tryd.underlying62 hi hz (by rw [hs]; decide) (by rw [hs]; decide) (by rw [hs]; exact fill_k1 k _ (by simp))
  unfold execOp
  simp only [ho, List.map_toArray, List.map_cons, List.map_nil, hx, Sem.run_bind, this, Result.andThen_ok, Sem.run_pure]
theorem KpO.trans14 {base : Nat} {w w1 w2 : World} (h : KpO (OT14 w base) w w1) (g : KpO (OT14 w1 base) w1 w2) : KpO (OT14 w base) w w2 := ot_trans h g
theorem exec_build0 {ρ : Operand → Value} {o : Oper} {W : World} (t : TypeId) (ho : o.op = .build t #[]) {l : List Value} (hb : Tryd.prog.built t [] = some l.toArray) : (execOp ρ o).run Tryd.prog W = .ok (.value (.agg l.toArray)) W := by
  unfold execOp
  have hb := run_build (P := Tryd.prog) W t #[] l.toArray hb
  simp only [ho, List.map_toArray, List.map_nil, Sem.run_bind, hb, Result.andThen_ok, Sem.run_pure]
set_option maxRecDepth 100000 in
set_option maxHeartbeats 8000000 in
theorem preach_any {base pt : Nat} {room : Int} {T : List (Value × Int)} {vt vk : Value} {ks : List Nat} (w : World) (h : PoolM w base pt room T vt vk ks) (hT : T.length ≤ 100000) (hn : ks.length ≤ 100000) :
    Calls Tryd.prog 35 #[.pointer (some ⟨pt, 0, none⟩), .int .i64 (freeU (usT T) : Int)] w fun e w' => (∃ v, e = .returned v) ∧ ∃ vt' vk', PoTo w w' base pt room (reachT T) vt' vk' (reachK (usT T) ks) := by
  have hTK := h.tk.reach
  rw [← usT_reach] at hTK
  have HTK := Lib.hid hTK
  have HCN := Lib.hid (show cntU (usT (reachT T)) = cntU (usT T) by rw [usT_reach, cntU_reach])
  have hfl := freeU_le (usT T)
  rw [usT_len] at hfl
  have HRT := Lib.hid (show reachT T = if freeU (usT T) = T.length then T ++ [(.nilIface, 0)] else T from rfl)
  have HRK := Lib.hid (show reachK (usT T) ks = if freeU (usT T) / 64 = ks.length then ks ++ [0] else ks from rfl)
  have HCA : Hid (∀ x ∈ reachT T, x.1.oneCell' = true) := fun x hx => by
    rw [HRT.out] at hx
    split at hx
    · rcases List.mem_append.1 hx with hx | hx
      · exact h.ca x hx
      · rw [List.mem_singleton.1 hx]; rfl
    · exact h.ca x hx
  generalize freeU (usT T) = f at *
  generalize hRTe : reachT T = RT at *
  generalize hRKe : reachK (usT T) ks = RK at *
  generalize (cntU (usT T) : Int) = cn at *
  clear hRTe hRKe hTK
  obtain ⟨at0, ct0, hvt, hct1, hct2⟩ := slice_of14 h.kt
  obtain ⟨ak0, ck0, hvk, hck1, hck2⟩ := slice_of14 h.kk
  unfold maxLen at hct2 hck2
  obtain ⟨cn, hcn⟩ : ∃ cn : Nat, cn = cntU (usT T) := ⟨_, rfl⟩
  have HBX := Lib.hid (show Bx w pt 64 [.int .i64 room, .int .i64 (cn : Int), vt, vk] by rw [hcn]; exact h.bx)
  have c2 : w.cell? ⟨pt, 2, none⟩ = some (.slice at0 T.length ct0) := by rw [HBX.out.cell, ← hvt]; rfl
  have y2 := h.bx.frozen 2
  have q0 : Int.tdiv (f : Int) 64 = ((f / 64 : Nat) : Int) := by rw [Int.tdiv_eq_ediv_of_nonneg (by omega)]; omega
  have q1 : (f : Int) / 64 = ((f / 64 : Nat) : Int) := by omega
  have HOT := Lib.hid h.ot
  have HKT := Lib.hid h.kt
  have HKK := Lib.hid h.kk
  have HNT := Lib.hid h.net
  have HNK := Lib.hid h.nek
  have HTN := Lib.hid h.netk
  have HTZ := Lib.hid h.tz
  have hbw := h.tz.2.1
  have HB := Lib.hid h.hb
  have HCNN := Lib.hid hcn
  have hptl := h.bx.lt
  clear h hcn
  by_cases hA : f = T.length
  · have hae : ((f : Int) == (T.length : Int)) = true := by simp [hA]
    have RT1 := Lib.hid (show RT = T ++ [(.nilIface, 0)] by rw [HRT.out, if_pos hA])
    have hq : (f : Int) = (T.length : Int) := by omega
    have HA := Lib.hid hA
    obtain ⟨ti, hti, htz, hts, htb⟩ := info_parts th_infoF
    have HN0 := Lib.hid (Bx.new w 74 (thR (.nilIface, 0)))
    have hb0 : Below w.heap.size w (w.alloc (.cells (thR (.nilIface, 0)).toArray 74)) := (Below.refl _ _).alloc (Nat.le_refl _) _
    have HROW := Lib.hid (own_below HKT.out hb0)
    have HB0 := Lib.hid hb0
    have hs0 : (w.alloc (.cells (thR (.nilIface, 0)).toArray 74)).heap.size = w.heap.size + 1 := by simp
    clear hb0 hA hq
    subst hvt
    go_enter Tryd.func35, Tryd.ntmps35
    go_wp2_with (first
      | (refine plV rfl (.agg (thR (.nilIface, 0)).toArray) (exec_build0 _ rfl _ built_th0) ?_)
      | (refine plV rfl (.slice (some ⟨w.heap.size, 0, none⟩) 1 1) (exec_one_th (.tmp 16) rfl (.nilIface, 0) rfl _ rfl) ?_)
      | (at_builtin; refine wpList_append_own _ rfl _ _ 61 rfl base 74 ti (.agg (thR (.nilIface, 0)).toArray) 2 24 Tryd.underlying61 hti htz hts htb rfl (by decide) _ _ _ rfl HROW.out ⟨w.heap.size, 0, none⟩ 1 1 (thR (.nilIface, 0)) rfl rfl (fun j u hj => World.news_of_block HN0.out j u (by simpa using hj)) (thR_one rfl) (by unfold maxLen; omega) (by omega) (by omega) ?_; intro v1 w8 hown hgr _; refine Hid.out ?_))
    refine Lib.hid ?_
    obtain ⟨av, nv, cv, hvv⟩ := slice_ex hown
    subst hvv
    have hK8 : KpO (OT14 w base) w w8 := (KpO.below HB0.out).trans14 ((KpO.grown14 hgr).widen (fun k e => by
      have h1 := (HKT.out.lt k e).1
      obtain ⟨cur, hc⟩ := own_type HROW.out k e
      exact ⟨h1, cur, _, hc, .inr (.inl rfl)⟩))
    have HX8 := Lib.hid ((HBX.out.up HB0.out).kp (KpO.grown14 hgr) (fun e => HNT.out e))
    have HK8 := Lib.hid (own_kp (own_below HKK.out HB0.out) (KpO.grown14 hgr) (fun k e e2 => HTN.out k e2 e))
    have HOW := Lib.hid (show w8.ownsRow base 74 2 (Value.slice av nv cv) RT.length (RT.flatMap thR) by rw [RT1.out]; simpa using hown)
    have HZ8 := Lib.hid (HTZ.out.kp hK8 (fun _ e => e.1))
    have HKO8 := Lib.hid hK8
    have c28 : w8.cell? ⟨pt, 2, none⟩ = some (.slice at0 T.length ct0) := by rw [HX8.out.cell]; rfl
    have y28 := HX8.out.frozen 2
    clear hgr hown hK8 HROW HN0 HB0 c2 y2
    have BX1 := Lib.hid (show Bx (w8.setCell ⟨pt, 2, none⟩ (Value.slice av nv cv)) pt 64 [.int .i64 room, .int .i64 (cn : Int), (Value.slice av nv cv), vk] from HX8.out.set 2 (Value.slice av nv cv))
    have hvp : (Value.slice av nv cv).ownBlock ≠ some pt := fun e => by
      obtain ⟨cur, hc⟩ := own_type HOW.out pt e
      have h2 := HX8.out
      unfold Bx at h2
      rw [hc] at h2
      have h3 := Option.some.inj h2
      injection h3 with _ h4
      exact absurd h4 (by decide)
    have KT1 := Lib.hid (show (w8.setCell ⟨pt, 2, none⟩ (Value.slice av nv cv)).ownsRow base 74 2 (Value.slice av nv cv) RT.length (RT.flatMap thR) from ownG_otherC HOW.out hvp 2 (Value.slice av nv cv))
    have KK1 := Lib.hid (ownG_otherC HK8.out HNK.out 2 (Value.slice av nv cv))
    have K1 := Lib.hid (ot_trans HKO8.out ((KpO.set (O := fun k => k = pt) w8 pt 2 (Value.slice av nv cv) rfl).widen (fun k e => by subst e; exact ⟨HB.out, _, _, HX8.out, .inl rfl⟩)))
    have TZ1 := Lib.hid (HZ8.out.kp (O := fun k => k = pt) (KpO.set w8 pt 2 (Value.slice av nv cv) rfl) (fun k e => by rw [e]; exact HB.out))
    have NT1 := Lib.hid hvp
    have NK1 := HNK
    have TN1 : Hid (∀ k, (Value.slice av nv cv).ownBlock = some k → vk.ownBlock ≠ some k) := fun k e e2 => by
      obtain ⟨cur, hc⟩ := own_type KT1.out k e
      obtain ⟨cur2, hc2⟩ := own_type KK1.out k e2
      rw [hc] at hc2
      have h3 := Option.some.inj hc2
      injection h3 with _ h4
      exact absurd h4 (by decide)
    go_wp2_with fail
    clear HX8 HOW HK8 HKO8 HZ8 c28 y28 hvp
    generalize w8.setCell ⟨pt, 2, none⟩ (Value.slice av nv cv) = W1 at *
    have c3 : W1.cell? ⟨pt, 3, none⟩ = some (.slice ak0 ks.length ck0) := by rw [BX1.out.cell, ← hvk]; rfl
    have y3 := BX1.out.frozen 3
    generalize hdiv : f / 64 = fd at *
    by_cases hC : fd = ks.length
    · have hce : ((fd : Int) == (ks.length : Int)) = true := by simp [hC]
      have HRK2 := Lib.hid (show RK = ks ++ [0] by rw [HRK.out, if_pos hC])
      have hq : (fd : Int) = (ks.length : Int) := by omega
      have HC := Lib.hid hC
      obtain ⟨ti, hti, htz, hts, htb⟩ := info_parts u64_infoF
      have HN0 := Lib.hid (Bx.new W1 79 (kR 0))
      have hb0 : Below W1.heap.size W1 (W1.alloc (.cells (kR 0).toArray 79)) := (Below.refl _ _).alloc (Nat.le_refl _) _
      have HROW := Lib.hid (own_below KK1.out hb0)
      have HB0 := Lib.hid hb0
      have hs0 : (W1.alloc (.cells (kR 0).toArray 79)).heap.size = W1.heap.size + 1 := by simp
      have hb1 := TZ1.out.2.1
      clear hb0 hC hq
      subst hvk
      go_wp2_with (first
        | (refine plV rfl (.slice (some ⟨W1.heap.size, 0, none⟩) 1 1) (exec_one_k (.const (.int .u64 0)) rfl 0 rfl _ rfl) ?_)
        | (at_builtin; refine wpList_append_own _ rfl _ _ 62 rfl base 79 ti (.int .u64 0) 1 8 Tryd.underlying62 hti htz hts htb rfl (by decide) _ _ _ rfl HROW.out ⟨W1.heap.size, 0, none⟩ 1 1 (kR 0) rfl rfl (fun j u hj => World.news_of_block HN0.out j u (by simpa using hj)) (kR_one 0) (by unfold maxLen; omega) (by omega) (by omega) ?_; intro v' w9 hown hgr _; refine Hid.out ?_))
      refine Lib.hid ?_
      obtain ⟨ak, nk, ck, hvv⟩ := slice_ex hown
      subst hvv
      have hK9 : KpO (OT14 W1 base) W1 w9 := (KpO.below HB0.out).trans14 ((KpO.grown14 hgr).widen (fun k e => by
        have h1 := (KK1.out.lt k e).1
        obtain ⟨cur, hc⟩ := own_type HROW.out k e
        exact ⟨h1, cur, _, hc, .inr (.inr rfl)⟩))
      have HX9 := Lib.hid ((BX1.out.up HB0.out).kp (KpO.grown14 hgr) (fun e => NK1.out e))
      have HT9 := Lib.hid (own_kp (own_below KT1.out HB0.out) (KpO.grown14 hgr) (fun k e e2 => TN1.out k e e2))
      have HOW := Lib.hid (show w9.ownsRow base 79 1 (Value.slice ak nk ck) RK.length (RK.flatMap kR) by rw [HRK2.out]; simpa using hown)
      have HK9 := Lib.hid (ot_trans K1.out hK9)
      have HZ9 := Lib.hid (TZ1.out.kp hK9 (fun _ e => e.1))
      have c39 : w9.cell? ⟨pt, 3, none⟩ = some (.slice ak0 ks.length ck0) := by rw [HX9.out.cell]; rfl
      have y39 := HX9.out.frozen 3
      clear hgr hown hK9 HROW HN0 HB0 c3 y3
      go_wp2
      go_end0
      refine ⟨⟨_, rfl⟩, (Value.slice av nv cv), (Value.slice ak nk ck), ⟨⟨?_, ?_, ?_, HB.out, HTK.out, HCA.out, ?_⟩, ?_⟩⟩
      · rw [HCN.out, ← HCNN.out]; exact HX9.out.set 3 (Value.slice ak nk ck)
      · exact ownG_otherC HT9.out NT1.out 3 (Value.slice ak nk ck)
      · refine ownG_otherC HOW.out (fun e => ?_) 3 (Value.slice ak nk ck)
        obtain ⟨cur, hc⟩ := own_type HOW.out pt e
        have h2 := HX9.out
        unfold Bx at h2
        rw [hc] at h2
        have h3 := Option.some.inj h2
        injection h3 with _ h4
        exact absurd h4 (by decide)
      · exact HZ9.out.kp (O := fun k => k = pt) (KpO.set w9 pt 3 (Value.slice ak nk ck) rfl) (fun k e => by rw [e]; exact HB.out)
      · exact ot_trans HK9.out ((KpO.set (O := fun k => k = pt) w9 pt 3 (Value.slice ak nk ck) rfl).widen (fun k e => by subst e; exact ⟨HB.out, _, _, HX9.out, .inl rfl⟩))
    · have hce : ((fd : Int) == (ks.length : Int)) = false := by simp; omega
      have hq : ¬ (fd : Int) = (ks.length : Int) := by omega
      have HRK2 := Lib.hid (show RK = ks by rw [HRK.out, if_neg hC])
      go_wp2
      go_end0
      exact ⟨⟨_, rfl⟩, (Value.slice av nv cv), vk, ⟨⟨by rw [HCN.out, ← HCNN.out]; exact BX1.out, KT1.out, by rw [HRK2.out]; exact KK1.out, HB.out, HTK.out, HCA.out, TZ1.out⟩, K1.out⟩⟩
  · have hae : ((f : Int) == (T.length : Int)) = false := by simp; omega
    have hq : ¬ (f : Int) = (T.length : Int) := by omega
    have RT1 := Lib.hid (show RT = T by rw [HRT.out, if_neg hA])
    have BX1 := HBX
    have KT1 := HKT
    have KK1 := HKK
    have K1 := Lib.hid (KpO.refl (OT14 w base) w)
    have TZ1 := HTZ
    have NT1 := HNT
    have NK1 := HNK
    have TN1 := HTN
    have ceq : w.cell? ⟨pt, 2, none⟩ = some (.slice at0 T.length ct0) := c2
    go_enter Tryd.func35, Tryd.ntmps35
    have c3 : w.cell? ⟨pt, 3, none⟩ = some (.slice ak0 ks.length ck0) := by rw [BX1.out.cell, ← hvk]; rfl
    have y3 := BX1.out.frozen 3
    generalize hdiv : f / 64 = fd at *
    by_cases hC : fd = ks.length
    · have hce : ((fd : Int) == (ks.length : Int)) = true := by simp [hC]
      have HRK2 := Lib.hid (show RK = ks ++ [0] by rw [HRK.out, if_pos hC])
      have hq : (fd : Int) = (ks.length : Int) := by omega
      have HC := Lib.hid hC
      obtain ⟨ti, hti, htz, hts, htb⟩ := info_parts u64_infoF
      have HN0 := Lib.hid (Bx.new w 79 (kR 0))
      have hb0 : Below w.heap.size w (w.alloc (.cells (kR 0).toArray 79)) := (Below.refl _ _).alloc (Nat.le_refl _) _
      have HROW := Lib.hid (own_below KK1.out hb0)
      have HB0 := Lib.hid hb0
      have hs0 : (w.alloc (.cells (kR 0).toArray 79)).heap.size = w.heap.size + 1 := by simp
      have hb1 := TZ1.out.2.1
      clear hb0 hC hq
      subst hvk
      go_wp2_with (first
        | (refine plV rfl (.slice (some ⟨w.heap.size, 0, none⟩) 1 1) (exec_one_k (.const (.int .u64 0)) rfl 0 rfl _ rfl) ?_)
        | (at_builtin; refine wpList_append_own _ rfl _ _ 62 rfl base 79 ti (.int .u64 0) 1 8 Tryd.underlying62 hti htz hts htb rfl (by decide) _ _ _ rfl HROW.out ⟨w.heap.size, 0, none⟩ 1 1 (kR 0) rfl rfl (fun j u hj => World.news_of_block HN0.out j u (by simpa using hj)) (kR_one 0) (by unfold maxLen; omega) (by omega) (by omega) ?_; intro v' w9 hown hgr _; refine Hid.out ?_))
      refine Lib.hid ?_
      obtain ⟨ak, nk, ck, hvv⟩ := slice_ex hown
      subst hvv
      have hK9 : KpO (OT14 w base) w w9 := (KpO.below HB0.out).trans14 ((KpO.grown14 hgr).widen (fun k e => by
        have h1 := (KK1.out.lt k e).1
        obtain ⟨cur, hc⟩ := own_type HROW.out k e
        exact ⟨h1, cur, _, hc, .inr (.inr rfl)⟩))
      have HX9 := Lib.hid ((BX1.out.up HB0.out).kp (KpO.grown14 hgr) (fun e => NK1.out e))
      have HT9 := Lib.hid (own_kp (own_below KT1.out HB0.out) (KpO.grown14 hgr) (fun k e e2 => TN1.out k e e2))
      have HOW := Lib.hid (show w9.ownsRow base 79 1 (Value.slice ak nk ck) RK.length (RK.flatMap kR) by rw [HRK2.out]; simpa using hown)
      have HK9 := Lib.hid (ot_trans K1.out hK9)
      have HZ9 := Lib.hid (TZ1.out.kp hK9 (fun _ e => e.1))
      have c39 : w9.cell? ⟨pt, 3, none⟩ = some (.slice ak0 ks.length ck0) := by rw [HX9.out.cell]; rfl
      have y39 := HX9.out.frozen 3
      clear hgr hown hK9 HROW HN0 HB0 c3 y3
      go_wp2
      go_end0
      refine ⟨⟨_, rfl⟩, vt, (Value.slice ak nk ck), ⟨⟨?_, ?_, ?_, HB.out, HTK.out, HCA.out, ?_⟩, ?_⟩⟩
      · rw [HCN.out, ← HCNN.out]; exact HX9.out.set 3 (Value.slice ak nk ck)
      · rw [RT1.out]; exact ownG_otherC HT9.out NT1.out 3 (Value.slice ak nk ck)
      · refine ownG_otherC HOW.out (fun e => ?_) 3 (Value.slice ak nk ck)
        obtain ⟨cur, hc⟩ := own_type HOW.out pt e
        have h2 := HX9.out
        unfold Bx at h2
        rw [hc] at h2
        have h3 := Option.some.inj h2
        injection h3 with _ h4
        exact absurd h4 (by decide)
      · exact HZ9.out.kp (O := fun k => k = pt) (KpO.set w9 pt 3 (Value.slice ak nk ck) rfl) (fun k e => by rw [e]; exact HB.out)
      · exact ot_trans HK9.out ((KpO.set (O := fun k => k = pt) w9 pt 3 (Value.slice ak nk ck) rfl).widen (fun k e => by subst e; exact ⟨HB.out, _, _, HX9.out, .inl rfl⟩))
    · have hce : ((fd : Int) == (ks.length : Int)) = false := by simp; omega
      have hq : ¬ (fd : Int) = (ks.length : Int) := by omega
      have HRK2 := Lib.hid (show RK = ks by rw [HRK.out, if_neg hC])
      go_wp2
      go_end0
      exact ⟨⟨_, rfl⟩, _, vk, ⟨⟨by rw [HCN.out, ← HCNN.out]; exact BX1.out, by rw [RT1.out]; exact KT1.out, by rw [HRK2.out]; exact KK1.out, HB.out, HTK.out, HCA.out, TZ1.out⟩, K1.out⟩⟩
end Go.Proofs.YtoliijajhikhgaaDoor
