/- slices.Replace at spans, slices.Delete at blocks: in place where there is room, in a new row where not. slices.Replace at spans, in the midst of them. slices.Delete at blocks: one goes. -/
import Derived.Test.YtgelbeglffjdaaaIns12
namespace Go.Proofs.Ytgelbeglffjdaaa
open Go Go.RowKit Go.Shelf Go.Lib
attribute [local go_sem] Oper.semAt_some

/-- Appended where there is room, nothing too. -/
theorem run_append_in {P : Program} {w : World} {e : TypeId} {c g : Nat} {cur : List Value} (t ty : TypeId) (i : TypeInfo) (hu : P.underlying t = some (.slice e)) (hi : P.info? e = some i) (hs : i.size = c) (hg : Bx w g e cur) (a cap : Nat) (sp : Option Addr) (m sc : Nat)
    (cs : List Value) (hl : cs.length = m * c) (hc : 0 < cs.length → ∃ x, sp = some x ∧ ∀ j v, cs[j]? = some v → w.cell? (x.add j) = some v) (h1 : ∀ v ∈ cs, v.oneCell' = true) (hroom : a + m ≤ cap) (hfit : a * c + cs.length ≤ cur.length) :
    (Builtin.append_ #[t, t] ty #[.slice (some ⟨g, 0, none⟩) a cap, .slice sp m sc]).run P w = .ok (.slice (some ⟨g, 0, none⟩) (a + m) cap) (w.setRow g (splice cur (a * c) cs).toArray) := by
  subst hs
  have hf : (Builtin.firstCells i.size m (.slice sp m sc)).run P w = .ok cs.toArray w := by
    cases sp with
    | none =>
      have h0 : cs = [] := by
        rcases Nat.eq_zero_or_pos cs.length with h | h
        · exact List.eq_nil_of_length_eq_zero h
        · obtain ⟨x, hx, _⟩ := hc h
          cases hx
      subst h0
      exact run_firstCells_none (P := P) (w := w) i.size m m sc
    | some x =>
      refine run_firstCells_some (P := P) w i.size m x m sc cs hl (fun j v hj => ?_)
      obtain ⟨x', hx, h2⟩ := hc (by have := (List.getElem?_eq_some_iff.1 hj).1; omega)
      cases hx
      exact h2 j v hj
  have hst := run_storeCells_at P g (a * i.size) e cs 0 cur.toArray w hg (by simpa using hfit) h1
  simp only [Nat.add_zero] at hst
  simp [Builtin.append_, run_underlying hu, sizeOf, typeInfo, hi, Builtin.lenOf, hroom, hf, Addr.add_lit, hst, splice, List.append_assoc]
theorem own_src {w : World} {b : Nat} {e : TypeId} {c : Nat} {u : Value} {m : Nat} {nws : List Value} (h : w.ownsRow b e c u m nws) (hc : 0 < c) : ∃ ua uc, u = .slice ua m uc ∧ uc ≤ 9223372036854775807 ∧ (0 < nws.length → ∃ ug ucur, ua = some ⟨ug, 0, none⟩ ∧ Bx w ug e ucur ∧ ucur.take nws.length = nws ∧ ucur.length ≠ 0) := by
  rcases Nat.eq_zero_or_pos m with h0 | h0
  · have hz := h.1
    rw [h0, Nat.zero_mul] at hz
    rcases h.2 with ⟨h2, _⟩ | ⟨g, cap, cur, h2, _, _, _, h3, _⟩
    · exact ⟨none, 0, by rw [h2, h0], by omega, fun h => by omega⟩
    · exact ⟨some ⟨g, 0, none⟩, cap, h2, by unfold maxLen at h3; omega, fun h => by omega⟩
  · obtain ⟨ug, ucap, ucur, h2, _, hU, hx⟩ := own_open h h0
    have hl := h.1
    have := hU.fit
    have h5 := Nat.mul_pos (show 0 < ucap by omega) hc
    exact ⟨_, ucap, h2, by have := hU.max; unfold maxLen at this; omega, fun _ => ⟨ug, ucur, rfl, hU.bx, by rw [hl]; exact hx, by rw [hU.len]; omega⟩⟩
theorem RwI.drew {w : World} {e : TypeId} {c g n cap : Nat} {cur : List Value} (h : RwI w e c g n cap cur) : RwI w.drew e c g n cap cur := ⟨h.bx, h.fit, h.max, h.len⟩

set_option maxRecDepth 100000 in
set_option maxHeartbeats 4000000 in
theorem repl_same (v : Value) (n : Nat) (xs : List Value) (i : Nat) (u : Value) (m : Nat) (nws : List Value) (base b2 : Nat) (w : World) (hown : w.ownsRow base 27 2 v n xs) (hu : w.ownsRow b2 27 2 u m nws)
    (hne : ∀ k, v.ownBlock = some k → u.ownBlock ≠ some k) (hi : i ≤ n) (hm : 0 < m) (hnm : n + m ≤ 1000000) (h1 : ∀ x ∈ nws, x.oneCell' = true) (h1x : ∀ x ∈ xs, x.oneCell' = true) (hbase : base ≤ w.heap.size) :
    Calls Try.prog 83 #[v, .int .i64 i, .int .i64 i, u] w fun e w' => ∃ v', e = .returned v' ∧ RowTo w w' base 27 2 v v' (n + m) (xs.take (i * 2) ++ nws ++ xs.drop (i * 2)) := by
  have HI := Lib.hid (ins_sp v n xs i u m nws base b2 w hown hu hne hi hm hnm h1 h1x hbase)
  have hsl : ∃ a c, v = .slice a n c ∧ n ≤ c ∧ c ≤ 9223372036854775807 ∧ (a = none ∨ ∃ g, a = some ⟨g, 0, none⟩) := by
    rcases hown.2 with ⟨h, h0⟩ | ⟨g, cap, cur, h, _, _, h2, h3, _⟩
    · exact ⟨none, 0, by rw [h, h0], by omega, by omega, .inl rfl⟩
    · exact ⟨some ⟨g, 0, none⟩, cap, h, h2, by unfold maxLen at h3; omega, .inr ⟨g, rfl⟩⟩
  obtain ⟨a, c, rfl, hic, hcm, ha⟩ := hsl
  obtain ⟨ua, uc, rfl, huc, _⟩ := own_src hu (by decide)
  clear hown hu hne h1 h1x
  have q1 : (i : Int) ≤ (c : Int) := by omega
  rcases ha with rfl | ⟨g, rfl⟩
  · go_enter Try.func83, Try.ntmps83
    go_wp2_with (go_at_call 106; refine HI.out.mono ?_; rintro e w1 ⟨v', rfl, hto⟩; refine Hid.out ?_)
    all_goals (refine Lib.hid ?_; have HT := Lib.hid hto; clear hto; go_wp2; go_ret; exact ⟨_, rfl, HT.out⟩)
  · rcases Nat.eq_or_lt_of_le (show i ≤ c by omega) with hci | hci
    · have hci : c = i := hci.symm
      subst hci
      go_enter Try.func83, Try.ntmps83
      go_wp2_with (go_at_call 106; refine HI.out.mono ?_; rintro e w1 ⟨v', rfl, hto⟩; refine Hid.out ?_)
      refine Lib.hid ?_
      have HT := Lib.hid hto
      clear hto
      go_wp2
      go_ret
      exact ⟨_, rfl, HT.out⟩
    · have hcn : ¬ (c = i) := by omega
      go_enter Try.func83, Try.ntmps83
      go_wp2_with (go_at_call 106; refine HI.out.mono ?_; rintro e w1 ⟨v', rfl, hto⟩; refine Hid.out ?_)
      refine Lib.hid ?_
      have HT := Lib.hid hto
      clear hto
      go_wp2
      go_ret
      exact ⟨_, rfl, HT.out⟩
set_option maxRecDepth 100000 in
set_option maxHeartbeats 4000000 in
theorem repl_end (v : Value) (n : Nat) (xs : List Value) (i : Nat) (u : Value) (m : Nat) (nws : List Value) (base b2 : Nat) (w : World) (hown : w.ownsRow base 27 2 v n xs) (hu : w.ownsRow b2 27 2 u m nws)
    (hi : i < n) (hnm : n + m ≤ 1000000) (h1 : ∀ x ∈ nws, x.oneCell' = true) (hbase : base ≤ w.heap.size) :
    Calls Try.prog 83 #[v, .int .i64 i, .int .i64 n, u] w fun e w' => ∃ v', e = .returned v' ∧ RowTo w w' base 27 2 v v' (i + m) (xs.take (i * 2) ++ nws) := by
  obtain ⟨g, cap, cur, rfl, hbg, hR, hx⟩ := own_open hown (by omega)
  obtain ⟨ua, uc, rfl, huc, husrc⟩ := own_src hu (by decide)
  obtain ⟨ti, hti, htz, hts, htb⟩ := info_parts sp_inf12
  have hnl := hu.1
  have hcl := hR.len
  have hfit := hR.fit
  have hcm : cap ≤ 9223372036854775807 := by have := hR.max; unfold maxLen at this; omega
  have hcn : ¬ (cap = i) := by omega
  have hne1 : ¬ ((i : Int) = (n : Int)) := by omega
  have q1 : (i : Int) ≤ (cap : Int) := by omega
  have q2 : (n : Int) ≤ (cap : Int) := by omega
  have q3 : (i : Int) ≤ (n : Int) := by omega
  have k1 : ((i + m : Nat) : Int).toNat = i + m := by omega
  have hsrc : 0 < nws.length → ∃ a, ua = some a ∧ ∀ j v, nws[j]? = some v → w.cell? (a.add j) = some v := fun hp => by
    obtain ⟨ug, ucur, e1, e2, e3, _⟩ := husrc hp
    exact ⟨_, e1, Bx.at e2 0 nws (by rw [List.drop_zero]; exact e3)⟩
  by_cases hlt : i + m < n
  · have hap := fun ty => run_append_in (P := Try.prog) (w := w) 51 ty ti Try.underlying51 hti hts hR.bx i cap ua m uc nws hnl hsrc h1 (by omega) (by rw [hnl, hcl]; omega)
    obtain ⟨L1, hL1⟩ : ∃ L1, L1 = splice cur (i * 2) nws := ⟨_, rfl⟩
    have hL1l : L1.length = cur.length := by rw [hL1]; exact splice_len _ _ _ (by rw [hnl, hcl]; omega)
    rw [← hL1] at hap
    obtain ⟨W1, hW1⟩ : ∃ W1, W1 = w.setRow g L1.toArray := ⟨_, rfl⟩
    rw [← hW1] at hap
    have hB1 : Bx W1 g 27 L1 := hW1 ▸ hR.bx.row L1
    obtain ⟨cs, hcs, hcr⟩ := run_clear_row (P := Try.prog) (w := W1) 51 Try.underlying51 (sV ⟨0, 0⟩) (fun W => by go_simp; rfl) (c := 2) rfl (by decide) (by intro x hx; exact sR_one ⟨0, 0⟩ x (by simpa [sV, Value.cells] using hx)) hB1 ((i + m) * 2) (n - (i + m)) (by rw [hL1l, hcl]; omega)
    have hcr : ∀ ty, (Builtin.clear_ #[51] ty #[.slice (some ⟨g, (i + m) * 2, none⟩) (n - (i + m)) (cap - (i + m))]).run Try.prog W1 = .ok (.tuple #[]) (W1.setRow g (splice L1 ((i + m) * 2) cs).toArray) := fun ty => hcr ty _
    obtain ⟨W2, hW2⟩ : ∃ W2, W2 = W1.setRow g (splice L1 ((i + m) * 2) cs).toArray := ⟨_, rfl⟩
    rw [← hW2] at hcr
    have hto : RowTo w W2 base 27 2 (.slice (some ⟨g, 0, none⟩) n cap) (.slice (some ⟨g, 0, none⟩) (i + m) cap) (i + m) (xs.take (i * 2) ++ nws) := by
      refine ⟨?_, ?_, fun k hk => .inl hk⟩
      · have hR2 : RwI W2 27 2 g (i + m) cap (splice L1 ((i + m) * 2) cs) := ⟨hW2 ▸ hB1.row _, by omega, hR.max, by rw [splice_len _ _ _ (by rw [hcs, hL1l, hcl]; omega), hL1l, hcl]⟩
        refine hR2.shut hbg ?_
        rw [splice_keep _ _ _ _ (Nat.le_refl _) (by rw [hL1l, hcl]; omega), hL1, show (i + m) * 2 = i * 2 + m * 2 by omega, splice_one cur nws (i * 2) (m * 2) hnl (by rw [hcl]; omega), ← hx, List.take_take, Nat.min_eq_left (by omega)]
      · rw [hW2, hW1]
        exact (KpO.trans (kp_row _ _ _ rfl) (kp_row _ _ _ rfl) : KpO (fun k => (Value.slice (some ⟨g, 0, none⟩) n cap).ownBlock = some k) w _)
    have HAP := Lib.hid hap
    have HCL := Lib.hid hcr
    have HT := Lib.hid hto
    have hc2 : ¬ (cap = i + m) := by omega
    have q4 : ((i + m : Nat) : Int) < (n : Int) := by omega
    have q5 : ((i + m : Nat) : Int) ≤ (n : Int) := by omega
    clear hown hu hR hx husrc hti htz hts htb hnl hcl hsrc h1 hap hL1 hL1l hB1 hcr hcs hto hW1 hW2
    generalize i + m = im at *
    go_enter Try.func83, Try.ntmps83
    go_wp2_with (first
      | (at_builtin; refine plV rfl _ (exec_append _ _ 51 51 rfl _ _ rfl rfl (HAP.out _)) ?_)
      | (refine plV rfl _ (exec_clear _ 51 rfl (.slice (some ⟨g, im * 2, none⟩) (n - im) (cap - im)) rfl (HCL.out _)) ?_))
    go_ret
    exact ⟨_, rfl, HT.out⟩
  · have hm : 0 < m := by omega
    obtain ⟨ug, ucur, rfl, hU, hun, _⟩ := husrc (by omega)
    obtain ⟨v', w', hr, hto⟩ := run_append_to (P := Try.prog) (w := w) 51 ti _ Try.underlying51 hti htz hts rfl (by decide) ((hR.to (m := i) (by omega)).shut hbg rfl) ⟨ug, 0, none⟩ m uc hm nws hnl (Bx.at hU 0 nws (by rw [List.drop_zero]; exact hun)) h1 (by omega) (by rw [htb]; decide) hbase
    have hto : RowTo w w' base 27 2 (.slice (some ⟨g, 0, none⟩) n cap) v' (i + m) (xs.take (i * 2) ++ nws) := ⟨by rw [← hx, List.take_take, Nat.min_eq_left (by omega)]; exact hto.own, hto.kp, hto.new⟩
    obtain ⟨a', c', rfl⟩ : ∃ a' c', v' = .slice a' (i + m) c' := by
      obtain ⟨g', c', _, h, _⟩ := own_open hto.own (by omega)
      exact ⟨_, c', h⟩
    have HAP := Lib.hid hr
    have HT := Lib.hid hto
    have q4 : ¬ (((i + m : Nat) : Int) < (n : Int)) := by omega
    clear hown hu hR hx husrc hti htz hts htb hnl hcl hsrc h1 hr hto hU hun
    generalize i + m = im at *
    go_enter Try.func83, Try.ntmps83
    go_wp2_with (at_builtin; refine plV rfl _ (exec_append _ _ 51 51 rfl _ _ rfl rfl (HAP.out _)) ?_)
    go_ret
    exact ⟨_, rfl, HT.out⟩
end Go.Proofs.Ytgelbeglffjdaaa
namespace Go.Proofs.Ytgelbeglffjdaaa
open Go Go.RowKit Go.Shelf Go.Lib
attribute [local go_sem] Oper.semAt_some

set_option maxRecDepth 100000 in
set_option maxHeartbeats 4000000 in
theorem repl_mid (v : Value) (n : Nat) (xs : List Value) (i j : Nat) (u : Value) (m : Nat) (nws : List Value) (base b2 : Nat) (w : World) (hown : w.ownsRow base 27 2 v n xs) (hu : w.ownsRow b2 27 2 u m nws)
    (hne : ∀ k, v.ownBlock = some k → u.ownBlock ≠ some k) (hi : i < j) (hj : j < n) (hnm : n + m ≤ 1000000) (h1 : ∀ x ∈ nws, x.oneCell' = true) (h1x : ∀ x ∈ xs, x.oneCell' = true) (hbase : base ≤ w.heap.size) :
    Calls Try.prog 83 #[v, .int .i64 i, .int .i64 j, u] w fun e w' => ∃ v', e = .returned v' ∧ RowTo w w' base 27 2 v v' (i + m + (n - j)) (xs.take (i * 2) ++ nws ++ xs.drop (j * 2)) := by
  obtain ⟨g, cap, cur, rfl, hbg, hR, hx⟩ := own_open hown (by omega)
  obtain ⟨ua, uc, rfl, huc, husrc⟩ := own_src hu (by decide)
  obtain ⟨ti, hti, htz, hts, htb⟩ := info_parts sp_inf12
  have hnl := hu.1
  have hcl := hR.len
  have hfit := hR.fit
  have hcm : cap ≤ 9223372036854775807 := by have := hR.max; unfold maxLen at this; omega
  have mixed : Try.prog.follows .mixedOrders = true := by kernel_rfl
  have hYl : ((cur.take (n * 2)).drop (j * 2)).length = (n - j) * 2 := by rw [List.length_drop, List.length_take]; omega
  have h1c : ∀ x ∈ (cur.take (n * 2)).drop (j * 2), x.oneCell' = true := fun x hx2 => h1x x (by rw [← hx]; exact List.mem_of_mem_drop hx2)
  have hsrc : ∀ W : World, (∀ k c, Bx w k 27 c → k ≠ g → Bx W k 27 c) → 0 < nws.length → ∃ a, ua = some a ∧ ∀ j v, nws[j]? = some v → W.cell? (a.add j) = some v := fun W hW hp => by
    obtain ⟨ug, ucur, e1, e2, e3, _⟩ := husrc hp
    exact ⟨_, e1, Bx.at (hW _ _ e2 (fun e => hne g rfl (by rw [e1, ← e]; rfl))) 0 nws (by rw [List.drop_zero]; exact e3)⟩
  have HUS := Lib.hid husrc
  clear husrc
  have hYat : ∀ W : World, Bx W g 27 cur → ∀ k v, ((cur.take (n * 2)).drop (j * 2))[k]? = some v → W.cell? ((⟨g, j * 2, none⟩ : Addr).add k) = some v := fun W hW => Bx.at hW _ _ (by rw [hYl, List.drop_take]; congr 1; omega)
  have hcn : ¬ (cap = i) := by omega
  have hcj : ¬ (cap = j) := by omega
  have hne1 : ¬ ((i : Int) = (j : Int)) := by omega
  have hne2 : ¬ ((j : Int) = (n : Int)) := by omega
  have q1 : (i : Int) ≤ (j : Int) := by omega
  have q2 : (j : Int) ≤ (cap : Int) := by omega
  have q3 : (i : Int) ≤ (cap : Int) := by omega
  have q4 : (j : Int) ≤ (n : Int) := by omega
  have k1 : IntKind.i64.wrap ((i : Int) + (m : Int)) = ((i + m : Nat) : Int) := by rw [IntKind.wrap_i64]; omega
  have k2 : IntKind.i64.wrap (((i + m : Nat) : Int) + ((n - j : Nat) : Int)) = ((i + m + (n - j) : Nat) : Int) := by rw [IntKind.wrap_i64]; omega
  have k3 : IntKind.i64.wrap (((i + m + (n - j) : Nat) : Int) - (i : Int)) = ((i + m + (n - j) - i : Nat) : Int) := by rw [IntKind.wrap_i64]; omega
  have t1 : ((i + m : Nat) : Int).toNat = i + m := by omega
  have t2 : ((i + m + (n - j) : Nat) : Int).toNat = i + m + (n - j) := by omega
  have p1 : (0 : Int) ≤ ((i + m : Nat) : Int) := by omega
  have p2 : (0 : Int) ≤ ((i + m + (n - j) : Nat) : Int) := by omega
  have q5 : ((i + m : Nat) : Int) ≤ ((i + m + (n - j) : Nat) : Int) := by omega
  have q6 : (i : Int) ≤ ((i + m + (n - j) : Nat) : Int) := by omega
  have nn : n - 0 = n := rfl
  by_cases hroom : i + m + (n - j) ≤ cap
  · have q7 : ((i + m + (n - j) : Nat) : Int) ≤ (cap : Int) := by omega
    have hrm : ¬ ((cap : Int) < ((i + m + (n - j) : Nat) : Int)) := by omega
    have hcim : ¬ (cap = i + m) := by omega
    have hB0 : Bx w.drew g 27 cur := hR.bx
    by_cases hsm : i + m ≤ j
    · -- it fits into what goes
      have q8 : ((i + m : Nat) : Int) ≤ (j : Int) := by omega
      have hcp1 : ∀ ty off dl dc, off = i * 2 → m ≤ dl → (Builtin.copy_ #[51, 51] ty #[.slice (some ⟨g, off, none⟩) dl dc, .slice ua m uc]).run Try.prog w.drew = .ok (goInt (m : Int)) (w.drew.setRow g (splice cur (i * 2) nws).toArray) := by
        intro ty off dl dc e1 e2
        subst e1
        exact run_copy_row _ _ ty Try.underlying51 sp_size hB0 _ _ _ _ _ _ m (Nat.min_eq_left e2) _ hnl (hsrc w.drew (fun _ _ h _ => h)) h1 (by rw [hnl, hcl]; omega)
      obtain ⟨L1, hL1⟩ : ∃ L1, L1 = splice cur (i * 2) nws := ⟨_, rfl⟩
      have hL1l : L1.length = cur.length := by rw [hL1]; exact splice_len _ _ _ (by rw [hnl, hcl]; omega)
      rw [← hL1] at hcp1
      obtain ⟨W1, hW1⟩ : ∃ W1, W1 = w.drew.setRow g L1.toArray := ⟨_, rfl⟩
      rw [← hW1] at hcp1
      have hB1 : Bx W1.drew g 27 L1 := by rw [hW1]; exact hB0.row L1
      have hY1 : ∀ k v, ((cur.take (n * 2)).drop (j * 2))[k]? = some v → W1.drew.cell? ((⟨g, j * 2, none⟩ : Addr).add k) = some v := Bx.at hB1 _ _ (by
        rw [hYl, hL1]
        unfold splice
        rw [← List.append_assoc, List.drop_append, List.length_append, List.length_take, hnl, Nat.min_eq_left (by omega), List.drop_eq_nil_of_le (by rw [List.length_append, List.length_take, hnl]; omega), List.nil_append, List.drop_drop, List.drop_take]
        rw [show i * 2 + m * 2 + (j * 2 - (i * 2 + m * 2)) = j * 2 by omega]
        congr 1
        omega)
      have hcp2 : ∀ ty off dl dc sc, off = (i + m) * 2 → dl = n - j → (Builtin.copy_ #[51, 51] ty #[.slice (some ⟨g, off, none⟩) dl dc, .slice (some ⟨g, j * 2, none⟩) (n - j) sc]).run Try.prog W1.drew = .ok (goInt ((n - j : Nat) : Int)) (W1.drew.setRow g (splice L1 ((i + m) * 2) ((cur.take (n * 2)).drop (j * 2))).toArray) := by
        intro ty off dl dc sc e1 e2
        subst e1 e2
        exact run_copy_row _ _ ty Try.underlying51 sp_size hB1 _ _ _ _ _ _ (n - j) (Nat.min_eq_left (Nat.le_refl _)) _ hYl (fun _ => ⟨_, rfl, hY1⟩) h1c (by rw [hYl, hL1l, hcl]; omega)
      obtain ⟨L2, hL2⟩ : ∃ L2, L2 = splice L1 ((i + m) * 2) ((cur.take (n * 2)).drop (j * 2)) := ⟨_, rfl⟩
      have hL2l : L2.length = cur.length := by rw [hL2, splice_len _ _ _ (by rw [hYl, hL1l, hcl]; omega), hL1l]
      rw [← hL2] at hcp2
      obtain ⟨W2, hW2⟩ : ∃ W2, W2 = W1.drew.setRow g L2.toArray := ⟨_, rfl⟩
      rw [← hW2] at hcp2
      have hB2 : Bx W2 g 27 L2 := hW2 ▸ hB1.row L2
      obtain ⟨koff, hk1, hk3, hk2⟩ : ∃ koff, (cap = i + m + (n - j) → koff = 0) ∧ (¬ (cap = i + m + (n - j)) → koff = (i + m + (n - j)) * 2) ∧ ((i + m + (n - j)) * 2 ≤ koff ∨ n - (i + m + (n - j)) = 0) ∧ koff ≤ (i + m + (n - j)) * 2 := by
        by_cases he : cap = i + m + (n - j)
        · exact ⟨0, fun _ => rfl, fun h => absurd he h, .inr (by omega), by omega⟩
        · exact ⟨(i + m + (n - j)) * 2, fun h => absurd h he, fun _ => rfl, .inl (Nat.le_refl _), Nat.le_refl _⟩
      obtain ⟨cs, hcs, hcr⟩ := run_clear_row (P := Try.prog) (w := W2) 51 Try.underlying51 (sV ⟨0, 0⟩) (fun W => by go_simp; rfl) (c := 2) rfl (by decide) (by intro x hx; exact sR_one ⟨0, 0⟩ x (by simpa [sV, Value.cells] using hx)) hB2 koff (n - (i + m + (n - j))) (by rw [hL2l, hcl]; omega)
      have hcr : ∀ ty k dn dc, k = koff → dn = n - (i + m + (n - j)) → (Builtin.clear_ #[51] ty #[.slice (some ⟨g, k, none⟩) dn dc]).run Try.prog W2 = .ok (.tuple #[]) (W2.setRow g (splice L2 koff cs).toArray) := fun ty k dn dc e1 e2 => by
        subst e1 e2
        exact hcr ty dc
      obtain ⟨W3, hW3⟩ : ∃ W3, W3 = W2.setRow g (splice L2 koff cs).toArray := ⟨_, rfl⟩
      rw [← hW3] at hcr
      have hto : RowTo w W3 base 27 2 (.slice (some ⟨g, 0, none⟩) n cap) (.slice (some ⟨g, 0, none⟩) (i + m + (n - j)) cap) (i + m + (n - j)) (xs.take (i * 2) ++ nws ++ xs.drop (j * 2)) := by
        refine ⟨?_, ?_, fun k hk => .inl hk⟩
        · have hR2 : RwI W3 27 2 g (i + m + (n - j)) cap (splice L2 koff cs) := ⟨hW3 ▸ hB2.row _, hroom, hR.max, by rw [splice_len _ _ _ (by rw [hcs, hL2l, hcl]; omega), hL2l, hcl]⟩
          refine hR2.shut hbg ?_
          have hkeep : (splice L2 koff cs).take ((i + m + (n - j)) * 2) = L2.take ((i + m + (n - j)) * 2) := by
            rcases hk2.1 with h | h
            · exact splice_keep _ _ _ _ h (by rw [hL2l, hcl]; omega)
            · rw [h] at hcs
              obtain rfl : cs = [] := List.eq_nil_of_length_eq_zero (by simpa using hcs)
              rw [show splice L2 koff ([] : List Value) = L2 by simp [splice]]
          have h9 := splice_down cur nws ((cur.take (n * 2)).drop (j * 2)) (i * 2) (m * 2) hnl (by rw [hYl]; omega)
          rw [hYl, show i * 2 + m * 2 = (i + m) * 2 by omega, ← hL1, ← hL2, show (i + m) * 2 + (n - j) * 2 = (i + m + (n - j)) * 2 by omega] at h9
          rw [hkeep, h9, hx, ← hx, List.take_take, Nat.min_eq_left (by omega)]
        · rw [hW3, hW2, hW1]
          first
            | exact KpO.dr (KpO.trans (kp_row _ _ _ rfl) (KpO.trans (kp_row _ _ _ rfl) (kp_row _ _ _ rfl)))
            | exact KpO.dr (KpO.trans (kp_row _ _ _ rfl) (KpO.dr (KpO.trans (kp_row _ _ _ rfl) (kp_row _ _ _ rfl))))
            | exact KpO.dr (KpO.trans (kp_row _ _ _ rfl) (KpO.trans (kp_row _ _ _ rfl) (KpO.dr (kp_row _ _ _ rfl))))
            | exact KpO.dr (KpO.trans (kp_row _ _ _ rfl) (KpO.dr (KpO.trans (kp_row _ _ _ rfl) (KpO.dr (kp_row _ _ _ rfl)))))
            | exact KpO.dr (KpO.dr (KpO.trans (kp_row _ _ _ rfl) (KpO.trans (kp_row _ _ _ rfl) (kp_row _ _ _ rfl))))
      have q9 : ((i + m + (n - j) : Nat) : Int) ≤ (n : Int) := by omega
      have dd : i + m + (n - j) - (i + m) = n - j := by omega
      have HCP1 := Lib.hid hcp1
      have HCP2 := Lib.hid hcp2
      have HCL := Lib.hid hcr
      have HT := Lib.hid hto
      have HDD := Lib.hid dd
      have hle : i ≤ i + m := by omega
      clear hown hu hne hR hx HUS hti htz hts htb hnl hcl hsrc hYat h1 h1x h1c hYl hL1 hL1l hL2 hL2l hB0 hB1 hB2 hY1 hcp1 hcp2 hcr hcs hto hW1 hW2 hW3 hk2 dd nn
      generalize htotE : i + m + (n - j) = tot at *
      generalize himE : i + m = im at *
      generalize hnjE : n - j = nj at *
      go_enter Try.func83, Try.ntmps83
      go_wp2
      go_region
      go_wp2_with (refine plV rfl _ (exec_copy _ _ 51 51 rfl (.slice (some ⟨g, i * 2, none⟩) (tot - i) (cap - i)) (.slice ua m uc) rfl rfl (HCP1.out _ _ _ _ rfl (by omega))) ?_)
      go_region_law_o (refine step_exec rfl _ (exec_copy _ _ 51 51 rfl (.slice (some ⟨g, im * 2, none⟩) (tot - im) (cap - im)) (.slice (some ⟨g, j * 2, none⟩) nj (cap - j)) (by simp [Act.eval, Act.put]) (by simp [Act.eval, Act.put]) (HCP2.out _ _ _ _ _ rfl (by omega))) ?_)
      by_cases he : cap = tot
      · have hk := hk1 he
        clear hk1 hk3
        subst he
        go_wp2_with (refine plV rfl _ (exec_clear _ 51 rfl _ rfl (HCL.out _ _ _ _ (by omega) (by omega))) ?_)
        go_ret
        exact ⟨_, rfl, HT.out⟩
      · have hk := hk3 he
        clear hk1 hk3
        go_wp2_with (refine plV rfl _ (exec_clear _ 51 rfl _ rfl (HCL.out _ _ _ _ (by omega) (by omega))) ?_)
        go_ret
        exact ⟨_, rfl, HT.out⟩
    · -- it takes more room than goes
      have hm : 0 < m := by omega
      obtain ⟨ug, ucur, rfl, hU, hun, hul0⟩ := HUS.out (by omega)
      have hgu : g ≠ ug := fun e => hne g rfl (by rw [e]; rfl)
      have q8 : ¬ (((i + m : Nat) : Int) ≤ (j : Int)) := by omega
      have hB0 : Bx w.drew.drew g 27 cur := hR.bx
      have hcp1 : ∀ ty off dl dc sc, off = (i + m) * 2 → dl = n - j → (Builtin.copy_ #[51, 51] ty #[.slice (some ⟨g, off, none⟩) dl dc, .slice (some ⟨g, j * 2, none⟩) (n - j) sc]).run Try.prog w.drew.drew = .ok (goInt ((n - j : Nat) : Int)) (w.drew.drew.setRow g (splice cur ((i + m) * 2) ((cur.take (n * 2)).drop (j * 2))).toArray) := by
        intro ty off dl dc sc e1 e2
        subst e1 e2
        exact run_copy_row _ _ ty Try.underlying51 sp_size hB0 _ _ _ _ _ _ (n - j) (Nat.min_eq_left (Nat.le_refl _)) _ hYl (fun _ => ⟨_, rfl, hYat _ hB0⟩) h1c (by rw [hYl, hcl]; omega)
      obtain ⟨L1, hL1⟩ : ∃ L1, L1 = splice cur ((i + m) * 2) ((cur.take (n * 2)).drop (j * 2)) := ⟨_, rfl⟩
      have hL1l : L1.length = cur.length := by rw [hL1]; exact splice_len _ _ _ (by rw [hYl, hcl]; omega)
      rw [← hL1] at hcp1
      obtain ⟨W1, hW1⟩ : ∃ W1, W1 = w.drew.drew.setRow g L1.toArray := ⟨_, rfl⟩
      rw [← hW1] at hcp1
      have hB1 : Bx W1 g 27 L1 := by rw [hW1]; exact hB0.row L1
      have hU1 : Bx W1 ug 27 ucur := by rw [hW1]; exact Bx.rowOther (show Bx w.drew.drew ug 27 ucur from hU) (fun e => hgu e.symm) _
      have hcp2 : ∀ ty off dl dc, off = i * 2 → m ≤ dl → (Builtin.copy_ #[51, 51] ty #[.slice (some ⟨g, off, none⟩) dl dc, .slice (some ⟨ug, 0, none⟩) m uc]).run Try.prog W1 = .ok (goInt (m : Int)) (W1.setRow g (splice L1 (i * 2) nws).toArray) := by
        intro ty off dl dc e1 e2
        subst e1
        exact run_copy_row _ _ ty Try.underlying51 sp_size hB1 _ _ _ _ _ _ m (Nat.min_eq_left e2) _ hnl (fun _ => ⟨_, rfl, Bx.at hU1 0 nws (by rw [List.drop_zero]; exact hun)⟩) h1 (by rw [hnl, hL1l, hcl]; omega)
      obtain ⟨W2, hW2⟩ : ∃ W2, W2 = W1.setRow g (splice L1 (i * 2) nws).toArray := ⟨_, rfl⟩
      rw [← hW2] at hcp2
      have hto : RowTo w W2 base 27 2 (.slice (some ⟨g, 0, none⟩) n cap) (.slice (some ⟨g, 0, none⟩) (i + m + (n - j)) cap) (i + m + (n - j)) (xs.take (i * 2) ++ nws ++ xs.drop (j * 2)) := by
        refine ⟨?_, ?_, fun k hk => .inl hk⟩
        · have hR2 : RwI W2 27 2 g (i + m + (n - j)) cap (splice L1 (i * 2) nws) := ⟨hW2 ▸ hB1.row _, hroom, hR.max, by rw [splice_len _ _ _ (by rw [hnl, hL1l, hcl]; omega), hL1l, hcl]⟩
          refine hR2.shut hbg ?_
          have h9 := splice_up cur nws ((cur.take (n * 2)).drop (j * 2)) (i * 2) (m * 2) hnl (by rw [hYl]; omega)
          rw [hYl, show i * 2 + m * 2 = (i + m) * 2 by omega, ← hL1, show (i + m) * 2 + (n - j) * 2 = (i + m + (n - j)) * 2 by omega] at h9
          rw [h9, hx, ← hx, List.take_take, Nat.min_eq_left (by omega)]
        · rw [hW2, hW1]
          exact KpO.dr (KpO.dr ((KpO.trans (kp_row w.drew.drew _ _ rfl) (kp_row _ _ _ rfl)) : KpO (fun k => (Value.slice (some ⟨g, 0, none⟩) n cap).ownBlock = some k) w.drew.drew _))
      have hov : ∀ k lb cb, (callFunc 107 #[.slice (some ⟨g, k, none⟩) lb cb, .slice (some ⟨ug, 0, none⟩) m uc]).run Try.prog w.drew = .ok (.value (.bool false)) w.drew := fun k lb cb =>
        sp_ov ⟨g, k, none⟩ ⟨ug, 0, none⟩ _ _ _ _ w.drew cur ucur _ _ hR.bx hU rfl hgu hul0
      have HCP1 := Lib.hid hcp1
      have HCP2 := Lib.hid hcp2
      have HT := Lib.hid hto
      have hle : i ≤ i + m := by omega
      have hdd : i + m + (n - j) - (i + m) = n - j := by omega
      have HDD := Lib.hid hdd
      clear hown hu hne hR hx HUS hti htz hts htb hnl hcl hsrc hYat h1 h1x h1c hYl hL1 hL1l hB0 hB1 hU hU1 hun hul0 hcp1 hcp2 hto hW1 hW2 nn hdd
      generalize htotE : i + m + (n - j) = tot at *
      generalize himE : i + m = im at *
      generalize hnjE : n - j = nj at *
      go_enter Try.func83, Try.ntmps83
      go_wp2
      go_region
      go_wp2_with (simp only [hov])
      go_region_law_o (refine step_exec rfl _ (exec_copy _ _ 51 51 rfl (.slice (some ⟨g, im * 2, none⟩) (tot - im) (cap - im)) (.slice (some ⟨g, j * 2, none⟩) nj (cap - j)) (by simp [Act.eval, Act.put]) (by simp [Act.eval, Act.put]) (HCP1.out _ _ _ _ _ rfl (by omega))) ?_)
      go_wp2_with (refine plV rfl _ (exec_copy _ _ 51 51 rfl (.slice (some ⟨g, i * 2, none⟩) (tot - i) (cap - i)) (.slice (some ⟨ug, 0, none⟩) m uc) rfl rfl (HCP2.out _ _ _ _ rfl (by omega))) ?_)
      go_ret
      exact ⟨_, rfl, HT.out⟩
  · -- a new row
    have hm : 0 < m := by omega
    obtain ⟨ug, ucur, rfl, hU, hun, _⟩ := HUS.out (by omega)
    obtain ⟨cap', cur', W1, hz, hRn, htk, hbl⟩ := run_zeros_to (P := Try.prog) (w := w.drew) 51 3 .i64 ti _ Try.underlying51 Try.underlying3 hti htz hts rfl (by decide) hR.drew i (i + m + (n - j)) (by omega) (by omega) (by omega) (by omega) (by rw [htb]; decide)
    obtain ⟨G, hG⟩ : ∃ G, G = w.heap.size := ⟨_, rfl⟩
    have hgG : g ≠ G := fun e => by have := hR.bx.lt; omega
    have huG : ug ≠ G := fun e => by have := hU.lt; omega
    rw [show w.drew.heap.size = G from hG.symm] at hz hRn
    have hbl : Below w.heap.size w W1 := ⟨hbl.os, hbl.tape, hbl.output, hbl.size, hbl.block⟩
    have hB1 : Bx W1 G 27 cur' := hRn.bx
    have hU1 : Bx W1 ug 27 ucur := hU.up hbl
    have hO1 : Bx W1 g 27 cur := hR.bx.up hbl
    have hcl' := hRn.len
    have hfit' := hRn.fit
    have hcm' : cap' ≤ 9223372036854775807 := by have := hRn.max; unfold maxLen at this; omega
    have hcp1 : ∀ ty off dl dc, off = i * 2 → m ≤ dl → (Builtin.copy_ #[51, 51] ty #[.slice (some ⟨G, off, none⟩) dl dc, .slice (some ⟨ug, 0, none⟩) m uc]).run Try.prog W1 = .ok (goInt (m : Int)) (W1.setRow G (splice cur' (i * 2) nws).toArray) := by
      intro ty off dl dc e1 e2
      subst e1
      exact run_copy_row _ _ ty Try.underlying51 sp_size hB1 _ _ _ _ _ _ m (Nat.min_eq_left e2) _ hnl (fun _ => ⟨_, rfl, Bx.at hU1 0 nws (by rw [List.drop_zero]; exact hun)⟩) h1 (by rw [hnl, hcl']; omega)
    obtain ⟨L1, hL1⟩ : ∃ L1, L1 = splice cur' (i * 2) nws := ⟨_, rfl⟩
    have hL1l : L1.length = cur'.length := by rw [hL1]; exact splice_len _ _ _ (by rw [hnl, hcl']; omega)
    rw [← hL1] at hcp1
    obtain ⟨W2, hW2⟩ : ∃ W2, W2 = W1.setRow G L1.toArray := ⟨_, rfl⟩
    rw [← hW2] at hcp1
    have hB2 : Bx W2.drew G 27 L1 := by rw [hW2]; exact hB1.row L1
    have hO2 : Bx W2.drew g 27 cur := by rw [hW2]; exact hO1.rowOther hgG _
    have hcp2 : ∀ ty off dl dc sc, off = (i + m) * 2 → dl = n - j → (Builtin.copy_ #[51, 51] ty #[.slice (some ⟨G, off, none⟩) dl dc, .slice (some ⟨g, j * 2, none⟩) (n - j) sc]).run Try.prog W2.drew = .ok (goInt ((n - j : Nat) : Int)) (W2.drew.setRow G (splice L1 ((i + m) * 2) ((cur.take (n * 2)).drop (j * 2))).toArray) := by
      intro ty off dl dc sc e1 e2
      subst e1 e2
      exact run_copy_row _ _ ty Try.underlying51 sp_size hB2 _ _ _ _ _ _ (n - j) (Nat.min_eq_left (Nat.le_refl _)) _ hYl (fun _ => ⟨_, rfl, hYat _ hO2⟩) h1c (by rw [hYl, hL1l, hcl']; omega)
    obtain ⟨W3, hW3⟩ : ∃ W3, W3 = W2.drew.setRow G (splice L1 ((i + m) * 2) ((cur.take (n * 2)).drop (j * 2))).toArray := ⟨_, rfl⟩
    rw [← hW3] at hcp2
    have hto : RowTo w W3 base 27 2 (.slice (some ⟨g, 0, none⟩) n cap) (.slice (some ⟨G, 0, none⟩) (i + m + (n - j)) cap') (i + m + (n - j)) (xs.take (i * 2) ++ nws ++ xs.drop (j * 2)) := by
      refine ⟨?_, ?_, fun k hk => .inr (by cases hk; exact Nat.le_of_eq hG.symm)⟩
      · have hR2 : RwI W3 27 2 G (i + m + (n - j)) cap' (splice L1 ((i + m) * 2) ((cur.take (n * 2)).drop (j * 2))) := ⟨hW3 ▸ hB2.row _, hfit', hRn.max, by rw [splice_len _ _ _ (by rw [hYl, hL1l, hcl']; omega), hL1l, hcl']⟩
        refine hR2.shut (by omega) ?_
        have h9 := splice_down cur' nws ((cur.take (n * 2)).drop (j * 2)) (i * 2) (m * 2) hnl (by rw [hYl, hcl']; omega)
        rw [hYl, show i * 2 + m * 2 = (i + m) * 2 by omega, ← hL1, show (i + m) * 2 + (n - j) * 2 = (i + m + (n - j)) * 2 by omega] at h9
        rw [h9, hx, htk, ← hx, List.take_take, Nat.min_eq_left (by omega)]
      · refine KpO.below ?_
        rw [hW3, hW2]
        exact below_row (below_row hbl (by omega) _).drew (by omega) _
    have hb2 : ¬ (cap' = i + m) := by omega
    have hb4 : ¬ (cap' = i) := by omega
    have hrm : (cap : Int) < ((i + m + (n - j) : Nat) : Int) := by omega
    have HZ := Lib.hid hz
    have HCP1 := Lib.hid hcp1
    have HCP2 := Lib.hid hcp2
    have HT := Lib.hid hto
    have hle : i ≤ i + m := by omega
    have hdd : i + m + (n - j) - (i + m) = n - j := by omega
    have HDD := Lib.hid hdd
    clear hown hu hne hR hx HUS hti htz hts htb hnl hcl hsrc hYat h1 h1x h1c hYl hL1 hL1l hB1 hU hU1 hun hcp1 hcp2 hto hz hRn htk hbl hcl' hO1 hO2 hB2 hW2 hW3 hG nn hdd
    generalize htotE : i + m + (n - j) = tot at *
    generalize himE : i + m = im at *
    generalize hnjE : n - j = nj at *
    go_enter Try.func83, Try.ntmps83
    go_wp2
    go_region
    go_wp2_with (first
      | (at_builtin; refine plV rfl _ (exec_append _ _ 51 3 rfl _ _ rfl rfl (HZ.out _)) ?_)
      | (refine plV rfl _ (exec_copy _ _ 51 51 rfl (.slice (some ⟨G, i * 2, none⟩) (tot - i) (cap' - i)) (.slice (some ⟨ug, 0, none⟩) m uc) rfl rfl (HCP1.out _ _ _ _ rfl (by omega))) ?_))
    go_region_law_o (refine step_exec rfl _ (exec_copy _ _ 51 51 rfl (.slice (some ⟨G, im * 2, none⟩) (tot - im) (cap' - im)) (.slice (some ⟨g, j * 2, none⟩) nj (cap - j)) (by simp [Act.eval, Act.put]) (by simp [Act.eval, Act.put]) (HCP2.out _ _ _ _ _ rfl (by omega))) ?_)
    go_wp2
    go_ret
    exact ⟨_, rfl, HT.out⟩
end Go.Proofs.Ytgelbeglffjdaaa
namespace Go.Proofs.Ytgelbeglffjdaaa
open Go Go.RowKit Go.Shelf Go.Lib
attribute [local go_sem] Oper.semAt_some

set_option maxRecDepth 100000 in
set_option maxHeartbeats 4000000 in
theorem del_blk (v : Value) (n : Nat) (xs : List Value) (i : Nat) (base : Nat) (w : World) (hown : w.ownsRow base 47 4 v n xs)
    (hi : i < n) (hnm : n ≤ 1000000) (h1x : ∀ x ∈ xs, x.oneCell' = true) :
    Calls Try.prog 85 #[v, .int .i64 i, .int .i64 (i + 1 : Nat)] w fun e w' => ∃ v', e = .returned v' ∧ RowTo w w' base 47 4 v v' (n - 1) (xs.take (i * 4) ++ xs.drop ((i + 1) * 4)) := by
  obtain ⟨g, cap, cur, rfl, hbg, hR, hx⟩ := own_open hown (by omega)
  obtain ⟨ti, hti, htz, hts, htb⟩ := info_parts blk_inf12
  have hcl := hR.len
  have hfit := hR.fit
  have hcm : cap ≤ 9223372036854775807 := by have := hR.max; unfold maxLen at this; omega
  have mixed : Try.prog.follows .mixedOrders = true := by kernel_rfl
  have hYl : ((cur.take (n * 4)).drop ((i + 1) * 4)).length = (n - (i + 1)) * 4 := by rw [List.length_drop, List.length_take]; omega
  have h1c : ∀ x ∈ (cur.take (n * 4)).drop ((i + 1) * 4), x.oneCell' = true := fun x hx2 => h1x x (by rw [← hx]; exact List.mem_of_mem_drop hx2)
  have hB0 : Bx w.drew g 47 cur := hR.bx
  have hap : ∀ ty so sl sc, ((cap = i + 1 → so = 0) ∧ (¬ (cap = i + 1) → so = (i + 1) * 4)) → sl = n - (i + 1) → (Builtin.append_ #[44, 44] ty #[.slice (some ⟨g, 0, none⟩) i cap, .slice (some ⟨g, so, none⟩) sl sc]).run Try.prog w.drew = .ok (.slice (some ⟨g, 0, none⟩) (i + (n - (i + 1))) cap) (w.drew.setRow g (splice cur (i * 4) ((cur.take (n * 4)).drop ((i + 1) * 4))).toArray) := by
    intro ty so sl sc e1 e2
    subst e2
    refine run_append_in (P := Try.prog) (w := w.drew) _ ty ti Try.underlying44 hti hts hB0 i cap _ (n - (i + 1)) sc _ hYl (fun hp => ⟨_, rfl, ?_⟩) h1c (by omega) (by rw [hYl, hcl]; omega)
    obtain rfl := e1.2 (by omega)
    exact Bx.at hB0 _ _ (by rw [hYl, List.drop_take]; congr 1; omega)
  rw [show i + (n - (i + 1)) = n - 1 by omega] at hap
  obtain ⟨L1, hL1⟩ : ∃ L1, L1 = splice cur (i * 4) ((cur.take (n * 4)).drop ((i + 1) * 4)) := ⟨_, rfl⟩
  have hL1l : L1.length = cur.length := by rw [hL1]; exact splice_len _ _ _ (by rw [hYl, hcl]; omega)
  rw [← hL1] at hap
  obtain ⟨W1, hW1⟩ : ∃ W1, W1 = w.drew.setRow g L1.toArray := ⟨_, rfl⟩
  rw [← hW1] at hap
  have hB1 : Bx W1 g 47 L1 := hW1 ▸ hB0.row L1
  have hsame : cap = i + 1 → W1 = w.drew := fun he => by
    have h0 : (cur.take (n * 4)).drop ((i + 1) * 4) = [] := List.eq_nil_of_length_eq_zero (by rw [hYl]; omega)
    rw [hW1, hL1, h0, show (splice cur (i * 4) ([] : List Value)).toArray = cur.toArray by simp [splice], setRow_self w.drew g _ _ _ hB0]
  have hinm : cap = i + 1 → i = n - 1 := fun he => by omega
  obtain ⟨cs, hcs, hcr⟩ := run_clear_row (P := Try.prog) (w := W1) 44 Try.underlying44 (bV ⟨⟨0, 0⟩, 0, 0⟩) (fun W => by go_simp; rfl) (c := 4) rfl (by decide) (by intro x hx; exact bR_one ⟨⟨0, 0⟩, 0, 0⟩ x (by simpa [bV, Value.cells] using hx)) hB1 ((n - 1) * 4) (n - (n - 1)) (by rw [hL1l, hcl]; omega)
  have hcr : ∀ ty dn, dn = n - (n - 1) → (Builtin.clear_ #[44] ty #[.slice (some ⟨g, (n - 1) * 4, none⟩) dn (cap - (n - 1))]).run Try.prog W1 = .ok (.tuple #[]) (W1.setRow g (splice L1 ((n - 1) * 4) cs).toArray) := fun ty dn e => by subst e; exact hcr ty _
  obtain ⟨W2, hW2⟩ : ∃ W2, W2 = W1.setRow g (splice L1 ((n - 1) * 4) cs).toArray := ⟨_, rfl⟩
  rw [← hW2] at hcr
  have hto : RowTo w W2 base 47 4 (.slice (some ⟨g, 0, none⟩) n cap) (.slice (some ⟨g, 0, none⟩) (n - 1) cap) (n - 1) (xs.take (i * 4) ++ xs.drop ((i + 1) * 4)) := by
    refine ⟨?_, ?_, fun k hk => .inl hk⟩
    · have hR2 : RwI W2 47 4 g (n - 1) cap (splice L1 ((n - 1) * 4) cs) := ⟨hW2 ▸ hB1.row _, by omega, hR.max, by rw [splice_len _ _ _ (by rw [hcs, hL1l, hcl]; omega), hL1l, hcl]⟩
      refine hR2.shut hbg ?_
      have h9 := splice_one cur ((cur.take (n * 4)).drop ((i + 1) * 4)) (i * 4) ((n - (i + 1)) * 4) hYl (by rw [hcl]; omega)
      rw [← hL1, show i * 4 + (n - (i + 1)) * 4 = (n - 1) * 4 by omega] at h9
      rw [splice_keep _ _ _ _ (Nat.le_refl _) (by rw [hL1l, hcl]; omega), h9, ← hx, List.take_take, Nat.min_eq_left (by omega)]
    · rw [hW2, hW1]
      exact KpO.dr ((KpO.trans (kp_row w.drew _ _ rfl) (kp_row _ _ _ rfl)) : KpO (fun k => (Value.slice (some ⟨g, 0, none⟩) n cap).ownBlock = some k) w.drew _)
  have HAP := Lib.hid hap
  have HCL := Lib.hid hcr
  have HT := Lib.hid hto
  have hcn : ¬ (cap = i) := by omega
  have hcn1 : ¬ (cap = n - 1) := by omega
  have hne1 : ¬ ((i : Int) = ((i + 1 : Nat) : Int)) := by omega
  have q1 : (i : Int) ≤ ((i + 1 : Nat) : Int) := by omega
  have q2 : ((i + 1 : Nat) : Int) ≤ (n : Int) := by omega
  have q3 : (n : Int) ≤ (cap : Int) := by omega
  have q4 : (i : Int) ≤ (cap : Int) := by omega
  have q5 : ((n - 1 : Nat) : Int) ≤ (n : Int) := by omega
  have q6 : (0 : Int) ≤ ((n - 1 : Nat) : Int) := by omega
  have q7 : (0 : Int) ≤ ((i + 1 : Nat) : Int) := by omega
  have t1 : ((i + 1 : Nat) : Int).toNat = i + 1 := by omega
  have t2 : ((n - 1 : Nat) : Int).toNat = n - 1 := by omega
  have hi1 : i < i + 1 := by omega
  clear hown hR hx hti htz hts htb hcl h1x hap hL1 hL1l hB1 hB0 hcr hcs hto hW1 hW2 hYl h1c
  generalize n - 1 = nm at *
  generalize i + 1 = im at *
  by_cases he : cap = im
  · subst he
    have hnc : n ≤ cap := hfit
    have hic : i ≤ cap := by omega
    have hin := hinm rfl
    have hs := hsame rfl
    subst hs
    subst hin
    go_enter Try.func85, Try.ntmps85
    go_wp2
    go_region
    go_wp2_with (refine plV rfl _ (exec_clear _ 44 rfl _ rfl (HCL.out _ _ rfl)) ?_)
    go_ret
    exact ⟨_, rfl, HT.out⟩
  · clear hsame hinm
    go_enter Try.func85, Try.ntmps85
    go_wp2
    go_region_law_o (refine step_exec rfl _ (exec_append _ _ 44 44 rfl (.slice (some ⟨g, 0, none⟩) i cap) (.slice (some ⟨g, im * 4, none⟩) (n - im) (cap - im)) (by simp [Act.eval, Act.put]) (by simp [Act.eval, Act.put]) (HAP.out _ _ _ _ ⟨fun h => absurd h he, fun _ => rfl⟩ rfl)) ?_)
    go_wp2_with (refine plV rfl _ (exec_clear _ 44 rfl _ rfl (HCL.out _ _ rfl)) ?_)
    go_ret
    exact ⟨_, rfl, HT.out⟩
end Go.Proofs.Ytgelbeglffjdaaa
