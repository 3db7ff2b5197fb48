/- slices.Reverse over a call's own row of items. -/
import Derived.Test.YtgimcapcnidjjaaFib2
namespace Go.Proofs.Ytgimcapcnidjjaa
open Go Go.RowKit

section
variable {P : Program} {w w' : World} {K : Act → World → Prop} {Q : Exit → Act → World → Prop} {op : Op} {ty : TypeId} {pos : String} {af : Array Edge} {gd : Option (Nat × Bool)} {tmps : Array Value} {df : List Deferred}
theorem wp_of_value {d : Nat} {v : Value} (hrun : (execOp (Act.eval ⟨tmps, df⟩) ⟨some d, op, ty, pos, af, gd⟩).run P w = .ok (.value v) w') (h : K ⟨tmps.setIfInBounds d v, df⟩ w') : Oper.wp P ⟨some d, op, ty, pos, af, gd⟩ ⟨tmps, df⟩ w K Q := by
  unfold Oper.wp
  rw [hrun]
  exact h
end
theorem exec_store_mid {ρ : Operand → Value} {o : Oper} {w : World} (ty : TypeId) (x y : Operand) (ho : o.op = .store ty x y) (b k : Nat) (l : List Value) (hx : ρ x = .pointer (some ⟨b, k, none⟩)) (hy : ρ y = .agg l.toArray)
    (ht : w.there b k l.length) (hi : (Try.prog.info? ty).map (·.size) = some l.length) (h1 : ∀ v ∈ l, v.oneCell' = true) :
    (execOp ρ o).run Try.prog w = .ok .skip (w.setCells b k l) := by
  unfold execOp
  have := run_storeVar_mid (P := Try.prog) w b k ty l.toArray (by simpa using ht) (by simpa using hi) (all_oneCell_toArray h1)
  simp only [ho, hx, hy, Instr.storeAt, Instr.sureAddr, Sem.run_bind, Sem.run_pure, Result.andThen_ok, this]
section
variable {w : World} {base g n cap : Nat} {e : TypeId} {M : List (Pfx × Int)}
theorem own_there (h : w.ownsRow base e 19 (.slice (some ⟨g, 0, none⟩) n cap) M.length (M.flatMap itF)) (h16 : ∀ x ∈ M, (itF x).length = 19) (i : Nat) (hi : i < M.length) : w.there g (i * 19) 19 := by
  rcases h.2 with ⟨e0, _⟩ | ⟨g', cap', cur, e0, _, hg, _, _, hsz, ht⟩
  · cases e0
  · cases e0
    have hl := cflat_length M h16
    have : (cur.toList.take (M.length * 19)).length = M.length * 19 := by rw [ht, hl]
    rw [List.length_take] at this
    have hcs : M.length * 19 ≤ cur.size := by have := Nat.min_le_right (M.length * 19) cur.toList.length; simp at this ⊢; omega
    intro j hj
    have hlt : i * 19 + j < cur.size := by omega
    exact ⟨by rw [cell_of_row w g _ _ _ _ hg]; simp [hlt], frozen_of_row w g _ _ _ hg⟩
theorem own_range (h : w.ownsRow base e 19 (.slice (some ⟨g, 0, none⟩) n cap) M.length (M.flatMap itF)) (h16 : ∀ x ∈ M, (itF x).length = 19) (i : Nat) (x : Pfx × Int) (hx : M[i]? = some x) : w.rangeAt g (i * 19) (itF x) := by
  have hi := (List.getElem?_eq_some_iff.1 hx).1
  rcases h.2 with ⟨e0, _⟩ | ⟨g', cap', cur, e0, _, hg, _, _, hsz, ht⟩
  · cases e0
  · cases e0
    have hr : w.rangeAt g 0 (M.flatMap itF) := fun j v hj => by
      rw [Nat.zero_add, cell_of_row w g j _ _ _ hg]
      rw [← ht, List.getElem?_take] at hj
      split at hj
      · simpa using hj
      · cases hj
    have := flat_range h16 hr i x hx
    rwa [Nat.zero_add] at this
theorem own_put (h : w.ownsRow base e 19 (.slice (some ⟨g, 0, none⟩) n cap) M.length (M.flatMap itF)) (h16 : ∀ x ∈ M, (itF x).length = 19) (i : Nat) (hi : i < M.length) (y : Pfx × Int) (hy : (itF y).length = 19) :
    (w.setCells g (i * 19) (itF y)).ownsRow base e 19 (.slice (some ⟨g, 0, none⟩) n cap) M.length ((M.set i y).flatMap itF) := by
  have hn : n = M.length := by
    rcases h.2 with ⟨e0, _⟩ | ⟨g', cap', cur, e0, _⟩
    · cases e0
    · cases e0; rfl
  subst hn
  have := own_setCells (itF y) w (M.flatMap itF) (i * 19) h (by rw [cflat_length M h16, hy]; omega)
  rwa [hy, flat_put M h16 i hi y] at this
end
/-- How far a row is turned around. -/
def MidL (l M : List (Pfx × Int)) (k : Nat) : Prop := ∀ i, i < l.length → M[i]? = if i < k ∨ l.length ≤ i + k then l[l.length - 1 - i]? else l[i]?
theorem mid_end {l M : List (Pfx × Int)} {k : Nat} (h : MidL l M k) (hM : M.length = l.length) (h1 : l.length ≤ 2 * k + 1) (h2 : 2 * k ≤ l.length + 1) : M = l.reverse := by
  refine List.ext_getElem? (fun i => ?_)
  rcases Nat.lt_or_ge i l.length with hi | hi
  · rw [h i hi, List.getElem?_reverse hi]
    split
    · rfl
    · rename_i h3
      have : l.length - 1 - i = i := by omega
      rw [this]
  · rw [List.getElem?_eq_none (by omega), List.getElem?_eq_none (by simpa using hi)]
theorem mid_step {l M : List (Pfx × Int)} {k j : Nat} {x y : Pfx × Int} (h : MidL l M k) (hM : M.length = l.length) (hs : k + j + 1 = l.length) (hlt : k < j) (hx : M[k]? = some x) (hy : M[j]? = some y) : MidL l ((M.set k y).set j x) (k + 1) := by
  intro i hi
  have hxk := h k (by omega)
  have hyj := h j (by omega)
  rw [if_neg (by omega), hx] at hxk
  rw [if_neg (by omega), hy] at hyj
  rw [List.getElem?_set, List.getElem?_set, List.length_set]
  by_cases h1 : j = i
  · subst h1
    rw [if_pos rfl, if_pos (by omega), if_pos (by omega), show l.length - 1 - j = k by omega]
    exact hxk
  · rw [if_neg h1]
    by_cases h2 : k = i
    · subst h2
      rw [if_pos rfl, if_pos (by omega), if_pos (by omega), show l.length - 1 - k = j by omega]
      exact hyj
    · rw [if_neg h2, h i hi]
      by_cases h3 : i < k ∨ l.length ≤ i + k
      · rw [if_pos h3, if_pos (by omega)]
      · rw [if_neg h3, if_neg (by omega)]
theorem mem_swap {M : List (Pfx × Int)} {k j : Nat} {x y z : Pfx × Int} (hx : x ∈ M) (hy : y ∈ M) (hz : z ∈ (M.set k y).set j x) : z ∈ M := by
  rcases List.mem_or_eq_of_mem_set hz with h | rfl
  · rcases List.mem_or_eq_of_mem_set h with h | rfl
    · exact h
    · exact hy
  · exact hx
set_option maxRecDepth 100000 in
set_option maxHeartbeats 4000000 in
theorem reverse_any (l : List (Pfx × Int)) (v : Value) (base : Nat) (w : World) (h16 : ∀ x ∈ l, (itF x).length = 19) (hown : w.ownsRow base 44 19 v l.length (l.flatMap itF)) (hl : l.length ≤ 900000) :
    Calls Try.prog 48 #[v] w fun e w' => e = .returned (.tuple #[]) ∧ w'.ownsRow base 44 19 v l.length (l.reverse.flatMap itF) ∧ Below base w w' := by
  rcases Nat.eq_zero_or_pos l.length with h0 | h0
  · obtain ⟨a, c, rfl⟩ := own_slice9 hown
    have HO := Lib.hid hown
    obtain rfl := List.eq_nil_of_length_eq_zero h0
    clear hown h0 hl h16
    go_enter Try.func48, Try.ntmps48
    go_wp2
    go_loopw [2, 3] (fun iv jv wr => iv = .int .i64 0 ∧ jv = .int .i64 (-1) ∧ wr = w) (fun _ _ _ => 0)
    case atStart => exact ⟨rfl, rfl, rfl⟩
    case round =>
      obtain ⟨rfl, rfl, rfl⟩ := hrel
      go_wp2
      go_end0
      exact ⟨rfl, HO.out, Below.refl _ _⟩
  · obtain ⟨g, cap, rfl, hbg, hgl⟩ := own_form hown h0
    have HO := Lib.hid hown
    have H16 := Lib.hid h16
    have HBG := Lib.hid hbg
    have HGL : Hid (base ≤ w.heap.size) := Lib.hid (by omega)
    obtain ⟨n, hn⟩ : ∃ n, l.length = n := ⟨_, rfl⟩
    have HN := Lib.hid hn
    have hcap : n ≤ cap := by
      rcases hown.2 with ⟨e0, _⟩ | ⟨g', cap', cur, e0, _, _, h1, _⟩
      · cases e0
      · cases e0; omega
    rw [hn] at hown ⊢
    rw [hn] at h0 hl
    clear hown h16 hbg hgl hn
    go_enter Try.func48, Try.ntmps48
    go_wp2
    go_loopw [2, 3] (fun iv jv wr => ∃ (k j : Nat) (M : List (Pfx × Int)), iv = .int .i64 (k : Int) ∧ jv = .int .i64 (j : Int) ∧ k + j + 1 = n ∧ k ≤ j + 1 ∧ M.length = n ∧ MidL l M k ∧ (∀ x ∈ M, x ∈ l) ∧ wr.ownsRow base 44 19 (.slice (some ⟨g, 0, none⟩) n cap) M.length (M.flatMap itF) ∧ Below base w wr) (fun iv _ _ => n - (intOf iv).toNat)
    case atStart =>
      refine ⟨0, n - 1, l, rfl, by rw [show ((n - 1 : Nat) : Int) = (n : Int) - 1 by omega], by omega, by omega, HN.out, fun i hi => ?_, fun _ h => h, ?_, Below.refl _ _⟩
      · rw [if_neg (by omega)]
      · have := HO.out
        rwa [HN.out] at this ⊢
    case round =>
      obtain ⟨k, j, M, rfl, rfl, hs, hkj, hM, hmid, hmem, hown, hbw⟩ := hrel
      by_cases hlt : k < j
      · obtain ⟨x, hx⟩ : ∃ x, M[k]? = some x := ⟨_, List.getElem?_eq_getElem (by omega)⟩
        obtain ⟨y, hy⟩ : ∃ y, M[j]? = some y := ⟨_, List.getElem?_eq_getElem (by omega)⟩
        have hxM := List.mem_of_getElem? hx
        have hyM := List.mem_of_getElem? hy
        have hx19 := H16.out x (hmem x hxM)
        have hy19 := H16.out y (hmem y hyM)
        have hM16 : ∀ z ∈ M, (itF z).length = 19 := fun z hz => H16.out z (hmem z hz)
        have hownD := own_below hown (Below.refl _ _).drew
        have rx := own_range hownD hM16 k x hx
        have ry := own_range hownD hM16 j y hy
        have t1 := own_there hownD hM16 k (by omega)
        have hown1 := own_put hownD hM16 k (by omega) y hy19
        have hS16 : ∀ z ∈ M.set k y, (itF z).length = 19 := fun z hz => by
          rcases List.mem_or_eq_of_mem_set hz with h | rfl
          · exact hM16 z h
          · exact hy19
        rw [show M.length = (M.set k y).length from List.length_set.symm] at hown1
        have t2 := own_there hown1 hS16 j (by rw [List.length_set]; omega)
        have hown2 := own_put hown1 hS16 j (by rw [List.length_set]; omega) x hx19
        have hmid2 := mid_step hmid (hM.trans HN.out.symm) (by rw [HN.out]; exact hs) hlt hx hy
        have hmem2 : ∀ z ∈ (M.set k y).set j x, z ∈ l := fun z hz => hmem z (mem_swap hxM hyM hz)
        have hb2 : Below base w ((wr.drew.setCells g (k * 19) (itF y)).setCells g (j * 19) (itF x)) :=
          hbw.drew.trans (((Upd.setCells (X := fun k => k = g) g rfl (itF y) wr.drew (k * 19)).trans (Upd.setCells (X := fun k => k = g) g rfl (itF x) _ (j * 19))).below base (by have := hbw.drew.size; have := HGL.out; omega) (fun k hk => by rw [hk]; exact HBG.out))
        have HEND := Lib.hid (⟨hmid2, hmem2, hown2, hb2⟩ : _ ∧ _ ∧ _ ∧ _)
        have RX := Lib.hid rx
        have RY := Lib.hid ry
        have T1 := Lib.hid t1
        have T2 := Lib.hid t2
        have X19 := Lib.hid hx19
        have Y19 := Lib.hid hy19
        have hkI : (k : Int) < (j : Int) := by omega
        have hjn : (j : Int) < (n : Int) := by omega
        have hkn : (k : Int) < (n : Int) := by omega
        clear rx ry t1 t2 hown1 hown2 hmid2 hmem2 hb2 hx19 hy19 hM16 hS16 hownD hown hbw hmid hmem hx hy hxM hyM
        go_wp2
        refine wp_region_noPanic ?_
        refine wp_region_held_drew (S := HeldN) (by kernel_rfl) trivial (fun hHeld => ?_)
        refine held_take (v := ?v172) 0 rfl (by kernel_rfl) (by kernel_rfl) (by kernel_rfl) (fun _ _ _ h => h) (by rfl) ?y172 (by assumption) ?_
        case y172 => (intro w hSw; unfold HeldN at hSw; go_simp; (try with_reducible rfl); (try omega))
        simp only [List.setIfInBounds_toArray, List.set_cons_zero, List.set_cons_succ]
        refine held_take (v := ?v175) 1 rfl (by kernel_rfl) (by kernel_rfl) (by kernel_rfl) (fun _ _ _ h => h) (by rfl) ?y175 (by assumption) ?_
        case y175 => (intro w hSw; unfold HeldN at hSw; go_simp; (try with_reducible rfl); (try omega))
        simp only [List.setIfInBounds_toArray, List.set_cons_zero, List.set_cons_succ]
        refine held_take (v := ?v178) 2 rfl (by kernel_rfl) (by kernel_rfl) (by kernel_rfl) (fun _ _ _ h => h) (by rfl) ?y178 (by assumption) ?_
        case y178 => (intro w hSw; unfold HeldN at hSw; go_simp; (try with_reducible rfl); (try omega))
        simp only [List.setIfInBounds_toArray, List.set_cons_zero, List.set_cons_succ]
        refine held_take (v := ?v181) 3 rfl (by kernel_rfl) (by kernel_rfl) (by kernel_rfl) (fun _ _ _ h => h) (by rfl) ?y181 (by assumption) ?_
        case y181 => (intro w hSw; unfold HeldN at hSw; go_simp; (try with_reducible rfl); (try omega))
        simp only [List.setIfInBounds_toArray, List.set_cons_zero, List.set_cons_succ]
        refine held_take (v := ?v184) 4 rfl (by kernel_rfl) (by kernel_rfl) (by kernel_rfl) (fun _ _ _ h => h) (by rfl) ?y184 (by assumption) ?_
        case y184 => (intro w hSw; unfold HeldN at hSw; go_simp; (try with_reducible rfl); (try omega))
        simp only [List.setIfInBounds_toArray, List.set_cons_zero, List.set_cons_succ]
        refine held_take (v := ?v187) 5 rfl (by kernel_rfl) (by kernel_rfl) (by kernel_rfl) (fun _ _ _ h => h) (by rfl) ?y187 (by assumption) ?_
        case y187 => (intro w hSw; unfold HeldN at hSw; go_simp; (try with_reducible rfl); (try omega))
        simp only [List.setIfInBounds_toArray, List.set_cons_zero, List.set_cons_succ]
        refine held_take (v := ?v190) 6 rfl (by kernel_rfl) (by kernel_rfl) (by kernel_rfl) (fun _ _ _ h => h) (by rfl) ?y190 (by assumption) ?_
        case y190 => (intro w hSw; unfold HeldN at hSw; go_simp; (try with_reducible rfl); (try omega))
        simp only [List.setIfInBounds_toArray, List.set_cons_zero, List.set_cons_succ]
        refine held_take (v := ?v193) 8 rfl (by kernel_rfl) (by kernel_rfl) (by kernel_rfl) (fun _ _ _ h => h) (by rfl) ?y193 (by assumption) ?_
        case y193 => (intro w hSw; unfold HeldN at hSw; go_simp; (try with_reducible rfl); (try omega))
        simp only [List.setIfInBounds_toArray, List.set_cons_zero, List.set_cons_succ]
        refine held_take (v := ?v196) 9 rfl (by kernel_rfl) (by kernel_rfl) (by kernel_rfl) (fun _ _ _ h => h) (by rfl) ?y196 (by assumption) ?_
        case y196 => (intro w hSw; unfold HeldN at hSw; go_simp; (try with_reducible rfl); (try omega))
        simp only [List.setIfInBounds_toArray, List.set_cons_zero, List.set_cons_succ]
        refine held_take (v := ?v199) 10 rfl (by kernel_rfl) (by kernel_rfl) (by kernel_rfl) (fun _ _ _ h => h) (by rfl) ?y199 (by assumption) ?_
        case y199 => (intro w hSw; unfold HeldN at hSw; go_simp; (try with_reducible rfl); (try omega))
        simp only [List.setIfInBounds_toArray, List.set_cons_zero, List.set_cons_succ]
        refine wpAnyH_ready (rs := [7, 11]) (by kernel_rfl) (by simp) (AllReadyH.cons rfl (fun K hK => ?_) (AllReadyH.cons rfl (fun K hK => ?_) AllReadyH.nil))
        · rw [if_pos (by rfl)]
          refine wp_of_value (exec_load_any _ (.tmp 20) rfl g (j * 19) (itF y) _ rfl RY.out Try.underlying44 rfl (by rw [Y19.out]; exact it_info)) ?_
          refine hK.out _ _ trivial (fun _ => ?_)
          simp only [List.setIfInBounds_toArray, List.set_cons_zero, List.set_cons_succ]
          clear hK K
          refine held_one 11 rfl (by kernel_rfl) (by rfl) (fun K hK => ?_)
          refine wp_of_value (exec_load_any _ (.tmp 24) rfl g (k * 19) (itF x) _ rfl RX.out Try.underlying44 rfl (by rw [X19.out]; exact it_info)) ?_
          refine hK.out _ _ trivial (fun _ => ?_)
          simp only [List.setIfInBounds_toArray, List.set_cons_zero, List.set_cons_succ]
          clear hK K
          refine held_take (v := ?v213) 12 rfl (by kernel_rfl) (by kernel_rfl) (by kernel_rfl) (fun _ _ _ h => h) (by rfl) ?y213 (by assumption) ?_
          case y213 => (intro w hSw; unfold HeldN at hSw; go_simp; (try with_reducible rfl); (try omega))
          simp only [List.setIfInBounds_toArray, List.set_cons_zero, List.set_cons_succ]
          refine held_none 13 rfl (by kernel_rfl) (by rfl) (fun K hK => ?_)
          refine wp_of_skip (exec_store_mid _ (.tmp 26) (.tmp 21) rfl g (k * 19) (itF y) rfl rfl (by rw [Y19.out]; exact T1.out) (by rw [Y19.out]; exact it_info) (it_one _ _)) ?_
          refine hK.out _ _ trivial (fun _ => ?_)
          clear hK K
          refine held_take (v := ?v220) 14 rfl (by kernel_rfl) (by kernel_rfl) (by kernel_rfl) (fun _ _ _ h => h) (by rfl) ?y220 (by assumption) ?_
          case y220 => (intro w hSw; unfold HeldN at hSw; go_simp; (try with_reducible rfl); (try omega))
          simp only [List.setIfInBounds_toArray, List.set_cons_zero, List.set_cons_succ]
          refine held_none 15 rfl (by kernel_rfl) (by rfl) (fun K hK => ?_)
          refine wp_of_skip (exec_store_mid _ (.tmp 27) (.tmp 25) rfl g (j * 19) (itF x) rfl rfl (by rw [X19.out]; exact T2.out) (by rw [X19.out]; exact it_info) (it_one _ _)) ?_
          refine hK.out _ _ trivial (fun _ => ?_)
          clear hK K
          refine wpAnyH_done (by kernel_rfl) ?_ _
          refine NoPanic.normal ?_
          clear hHeld
          go_wp2
          go_roundw
          case rel =>
            obtain ⟨e1, e2, e3, e4⟩ := HEND.out
            exact ⟨k + 1, j - 1, _, by go_num, by rw [show ((j - 1 : Nat) : Int) = (j : Int) - 1 by omega], by omega, by omega, by rw [List.length_set, List.length_set]; exact hM, e1, e2, by rw [show ((M.set k y).set j x).length = (M.set k y).length from List.length_set]; exact e3, e4⟩
          case measure => simp [intOf]; omega
        · rw [if_pos (by rfl)]
          refine wp_of_value (exec_load_any _ (.tmp 24) rfl g (k * 19) (itF x) _ rfl RX.out Try.underlying44 rfl (by rw [X19.out]; exact it_info)) ?_
          refine hK.out _ _ trivial (fun _ => ?_)
          simp only [List.setIfInBounds_toArray, List.set_cons_zero, List.set_cons_succ]
          clear hK K
          refine held_one 7 rfl (by kernel_rfl) (by rfl) (fun K hK => ?_)
          refine wp_of_value (exec_load_any _ (.tmp 20) rfl g (j * 19) (itF y) _ rfl RY.out Try.underlying44 rfl (by rw [Y19.out]; exact it_info)) ?_
          refine hK.out _ _ trivial (fun _ => ?_)
          simp only [List.setIfInBounds_toArray, List.set_cons_zero, List.set_cons_succ]
          clear hK K
          refine held_take (v := ?v246) 12 rfl (by kernel_rfl) (by kernel_rfl) (by kernel_rfl) (fun _ _ _ h => h) (by rfl) ?y246 (by assumption) ?_
          case y246 => (intro w hSw; unfold HeldN at hSw; go_simp; (try with_reducible rfl); (try omega))
          simp only [List.setIfInBounds_toArray, List.set_cons_zero, List.set_cons_succ]
          refine held_none 13 rfl (by kernel_rfl) (by rfl) (fun K hK => ?_)
          refine wp_of_skip (exec_store_mid _ (.tmp 26) (.tmp 21) rfl g (k * 19) (itF y) rfl rfl (by rw [Y19.out]; exact T1.out) (by rw [Y19.out]; exact it_info) (it_one _ _)) ?_
          refine hK.out _ _ trivial (fun _ => ?_)
          clear hK K
          refine held_take (v := ?v253) 14 rfl (by kernel_rfl) (by kernel_rfl) (by kernel_rfl) (fun _ _ _ h => h) (by rfl) ?y253 (by assumption) ?_
          case y253 => (intro w hSw; unfold HeldN at hSw; go_simp; (try with_reducible rfl); (try omega))
          simp only [List.setIfInBounds_toArray, List.set_cons_zero, List.set_cons_succ]
          refine held_none 15 rfl (by kernel_rfl) (by rfl) (fun K hK => ?_)
          refine wp_of_skip (exec_store_mid _ (.tmp 27) (.tmp 25) rfl g (j * 19) (itF x) rfl rfl (by rw [X19.out]; exact T2.out) (by rw [X19.out]; exact it_info) (it_one _ _)) ?_
          refine hK.out _ _ trivial (fun _ => ?_)
          clear hK K
          refine wpAnyH_done (by kernel_rfl) ?_ _
          refine NoPanic.normal ?_
          clear hHeld
          go_wp2
          go_roundw
          case rel =>
            obtain ⟨e1, e2, e3, e4⟩ := HEND.out
            exact ⟨k + 1, j - 1, _, by go_num, by rw [show ((j - 1 : Nat) : Int) = (j : Int) - 1 by omega], by omega, by omega, by rw [List.length_set, List.length_set]; exact hM, e1, e2, by rw [show ((M.set k y).set j x).length = (M.set k y).length from List.length_set]; exact e3, e4⟩
          case measure => simp [intOf]; omega
      · have hnot : ¬ (k : Int) < (j : Int) := by omega
        have HE := Lib.hid (mid_end hmid (hM.trans HN.out.symm) (by rw [HN.out]; omega) (by rw [HN.out]; omega))
        have HOW := Lib.hid hown
        have HBW := Lib.hid hbw
        clear hmid hown hbw hmem
        go_wp2
        go_end0
        refine ⟨rfl, ?_, HBW.out⟩
        have := HOW.out
        rw [HE.out, List.length_reverse, HN.out] at this
        exact this
end Go.Proofs.Ytgimcapcnidjjaa
