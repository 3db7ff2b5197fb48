/- SpaceBack: what is drawn and freed leaves all as it was; it fails only if there is no such run. -/
import Derived.Test.YtgelbeglffjdaaaRun12
namespace Go.Proofs.Ytgelbeglffjdaaa
open Go Go.RowKit Go.Shelf
attribute [local go_sem] Oper.semAt_some

theorem own_putB {b : Blk} {n : Int} (hb : b.s.f ≤ n ∧ n ≤ b.s.l) : ∀ {l : List Blk}, (∀ y ∈ l, b.s.l < y.s.f ∨ y.s.l < b.s.f) → ownB n (putB b l) = (b.o, b.a)
  | [], _ => by unfold putB ownB; rw [if_pos hb]
  | x :: l, h => by
    have hx := h x List.mem_cons_self
    unfold putB
    split
    · unfold ownB
      rw [if_neg (by omega), own_putB hb (fun y hy => h y (List.mem_cons_of_mem _ hy))]
    · unfold ownB
      rw [if_pos hb]
/-- What becomes of a draw. -/
theorem draw_ways {t : SpS} (h : WF t) {o k n : Int} (ho : ¬ o < 1) (hn : ¬ n < 1) (hk : 0 ≤ k ∧ k ≤ 2) :
    (t.draw o k n = (t, ⟨0, 0⟩, 31) ∧ 0 < k ∧ (t.area k).2 = false) ∨ (t.draw o k n = (t, ⟨0, 0⟩, 43) ∧ longS (normS (t.left k)) 0 < n) ∨
    ∃ x, t.draw o k n = (t.put ⟨x, o, k⟩, x, 0) ∧ n ≤ longS (normS (t.left k)) 0 ∧ x.l - x.f + 1 = n ∧ mayO x ∧ ownB x.l (t.put ⟨x, o, k⟩).l = (o, k) ∧ (t.put ⟨x, o, k⟩).free o x = (t, 0) ∧ (∀ p, p ≠ o → (t.put ⟨x, o, k⟩).free p x = (t.put ⟨x, o, k⟩, 31)) ∧ ∀ p, t.free p x = (t, 31) := by
  by_cases hc : 0 < k ∧ (t.ar k).f = 0
  · refine .inl ⟨?_, hc.1, ?_⟩
    · unfold SpS.draw
      rw [if_neg (by omega), if_pos hc]
    · unfold SpS.area
      rw [if_pos (.inr (.inr hc.2))]
  · have hd := draw_run (t := t) (o := o) (k := k) (n := n) (by omega) hc
    cases hf : firstS n (normS (t.left k)) with
    | none =>
      rw [hf] at hd
      exact .inr (.inl ⟨hd, long_lt hf (by omega)⟩)
    | some x =>
      rw [hf] at hd
      have hN := (norm_ok (t.left k)).1
      obtain ⟨h1, h2, h3, y, hy, h4, h5⟩ := first_some hN hf
      obtain ⟨_, hmo, hout⟩ := h.put (s := x) (o := o) (k := k) (by omega) (by omega) (first_has hf)
      obtain ⟨f1, f2, f3⟩ := put_free (t := t) (s := x) (o := o) (k := k) hmo hout
      have h6 := (long_ge (normS (t.left k)) 0).2 y hy
      refine .inr (.inr ⟨x, hd, by omega, h2, hmo, ?_, f1, f2, f3⟩)
      exact own_putB (b := ⟨x, o, k⟩) (by unfold mayO at hmo; simp only; omega) (fun y hy => hout y hy)
theorem wrap_ne (z : Int) : IntKind.i64.wrap (z + 1) ≠ z := by
  simp [IntKind.wrap, IntKind.bits, IntKind.signed]
  omega
set_option maxRecDepth 100000 in
set_option maxHeartbeats 8000000 in
theorem back12_walk (a : Option Addr) (n0 c : Nat) (l : List StpS) (y : StpS) (w : World) (h : IsC stR 6 w (.slice a n0 c) l) :
    Calls Try.prog 5 #[.slice a n0 c, stV y] w fun e w' => e = .returned (.bool true) ∧ Below w.heap.size w w' := by
  have mixed : Try.prog.follows .mixedOrders = true := by kernel_rfl
  have HA := Lib.hid (fun W => awake12 W)
  have HNW := Lib.hid (fun W => new_any W)
  obtain ⟨rfl, hcap, hcm, _⟩ := h.shape
  unfold maxLen at hcm
  have HI := Lib.hid h
  clear h
  have HXB := Lib.hid (Bx.new w 35 (stR y))
  have HB0 := Lib.hid ((Below.refl w.heap.size w).alloc (Nat.le_refl _) (.cells (stR y).toArray 35))
  rw [show stV y = .agg (stR y).toArray from rfl]
  by_cases h40 : 40 < l.length
  · have h40i : (40 : Int) < (l.length : Int) := by omega
    go_enter Try.func5, Try.ntmps5
    go_wp2_with (go_at_call 10; refine (HA.out _).mono ?_; rintro e w1 ⟨rfl, b1⟩; refine Hid.out ?_)
    refine Lib.hid ?_
    have hx1 := HXB.out.up b1
    have p1 : w1.cell? ⟨w.heap.size, 1, none⟩ = some (.int .i64 y.o) := (hx1.cell 1).trans rfl
    have p2 : w1.cell? ⟨w.heap.size, 2, none⟩ = some (.int .i64 y.k) := (hx1.cell 2).trans rfl
    have p3 : w1.cell? ⟨w.heap.size, 3, none⟩ = some (.int .i64 y.n) := (hx1.cell 3).trans rfl
    have HB := Lib.hid (below_up HB0.out b1 HB0.out.size)
    clear b1 hx1
    go_wp2
    go_ret
    exact ⟨rfl, HB.out⟩

  have h40i : ¬ (40 : Int) < (l.length : Int) := by omega
  by_cases ho : y.o < 1
  · go_enter Try.func5, Try.ntmps5
    go_wp2_with (go_at_call 10; refine (HA.out _).mono ?_; rintro e w1 ⟨rfl, b1⟩; refine Hid.out ?_)
    refine Lib.hid ?_
    have hx1 := HXB.out.up b1
    have p1 : w1.cell? ⟨w.heap.size, 1, none⟩ = some (.int .i64 y.o) := (hx1.cell 1).trans rfl
    have p2 : w1.cell? ⟨w.heap.size, 2, none⟩ = some (.int .i64 y.k) := (hx1.cell 2).trans rfl
    have p3 : w1.cell? ⟨w.heap.size, 3, none⟩ = some (.int .i64 y.n) := (hx1.cell 3).trans rfl
    have HB := Lib.hid (below_up HB0.out b1 HB0.out.size)
    clear b1 hx1
    go_wp2
    go_ret
    exact ⟨rfl, HB.out⟩

  by_cases hn : y.n < 1
  · go_enter Try.func5, Try.ntmps5
    go_wp2_with (go_at_call 10; refine (HA.out _).mono ?_; rintro e w1 ⟨rfl, b1⟩; refine Hid.out ?_)
    refine Lib.hid ?_
    have hx1 := HXB.out.up b1
    have p1 : w1.cell? ⟨w.heap.size, 1, none⟩ = some (.int .i64 y.o) := (hx1.cell 1).trans rfl
    have p2 : w1.cell? ⟨w.heap.size, 2, none⟩ = some (.int .i64 y.k) := (hx1.cell 2).trans rfl
    have p3 : w1.cell? ⟨w.heap.size, 3, none⟩ = some (.int .i64 y.n) := (hx1.cell 3).trans rfl
    have HB := Lib.hid (below_up HB0.out b1 HB0.out.size)
    clear b1 hx1
    go_wp2
    go_ret
    exact ⟨rfl, HB.out⟩

  by_cases hk0 : y.k < 0
  · go_enter Try.func5, Try.ntmps5
    go_wp2_with (go_at_call 10; refine (HA.out _).mono ?_; rintro e w1 ⟨rfl, b1⟩; refine Hid.out ?_)
    refine Lib.hid ?_
    have hx1 := HXB.out.up b1
    have p1 : w1.cell? ⟨w.heap.size, 1, none⟩ = some (.int .i64 y.o) := (hx1.cell 1).trans rfl
    have p2 : w1.cell? ⟨w.heap.size, 2, none⟩ = some (.int .i64 y.k) := (hx1.cell 2).trans rfl
    have p3 : w1.cell? ⟨w.heap.size, 3, none⟩ = some (.int .i64 y.n) := (hx1.cell 3).trans rfl
    have HB := Lib.hid (below_up HB0.out b1 HB0.out.size)
    clear b1 hx1
    go_wp2
    go_ret
    exact ⟨rfl, HB.out⟩

  by_cases hk2 : 2 < y.k
  · go_enter Try.func5, Try.ntmps5
    go_wp2_with (go_at_call 10; refine (HA.out _).mono ?_; rintro e w1 ⟨rfl, b1⟩; refine Hid.out ?_)
    refine Lib.hid ?_
    have hx1 := HXB.out.up b1
    have p1 : w1.cell? ⟨w.heap.size, 1, none⟩ = some (.int .i64 y.o) := (hx1.cell 1).trans rfl
    have p2 : w1.cell? ⟨w.heap.size, 2, none⟩ = some (.int .i64 y.k) := (hx1.cell 2).trans rfl
    have p3 : w1.cell? ⟨w.heap.size, 3, none⟩ = some (.int .i64 y.n) := (hx1.cell 3).trans rfl
    have HB := Lib.hid (below_up HB0.out b1 HB0.out.size)
    clear b1 hx1
    go_wp2
    go_ret
    exact ⟨rfl, HB.out⟩

  go_enter Try.func5, Try.ntmps5
  go_wp2_with (go_at_call 10; refine (HA.out _).mono ?_; rintro e w1 ⟨rfl, b1⟩; refine Hid.out ?_)
  refine Lib.hid ?_
  have hx1 := HXB.out.up b1
  have p1 : w1.cell? ⟨w.heap.size, 1, none⟩ = some (.int .i64 y.o) := (hx1.cell 1).trans rfl
  have p2 : w1.cell? ⟨w.heap.size, 2, none⟩ = some (.int .i64 y.k) := (hx1.cell 2).trans rfl
  have p3 : w1.cell? ⟨w.heap.size, 3, none⟩ = some (.int .i64 y.n) := (hx1.cell 3).trans rfl
  have HB := Lib.hid (below_up HB0.out b1 HB0.out.size)

  have HX1 := Lib.hid hx1
  have HN1 := Lib.hid (HNW.out w1)
  clear b1 hx1 HB0 HXB
  go_wp2_with (go_at_call 11; refine HN1.out.mono ?_; rintro e w2 ⟨rfl, m2, b2⟩; refine Hid.out ?_)
  refine Lib.hid ?_
  have HZ0 := Lib.hid (z12_start2 HB.out m2 b2 HX1.out (Nat.le_refl _)).1
  have HGX := Lib.hid (z12_start2 HB.out m2 b2 HX1.out (Nat.le_refl _)).2
  obtain ⟨pt, hpt⟩ : ∃ pt, pt = w1.heap.size := ⟨_, rfl⟩
  obtain ⟨gx, hgx⟩ : ∃ gx, gx = w.heap.size := ⟨_, rfl⟩
  rw [← hpt] at HZ0
  rw [← hgx] at HGX HZ0
  rw [← hpt, ← hgx]
  have HGE := Lib.hid hgx
  clear hpt m2 b2 HN1 HB HX1 p1 p2 p3 hgx
  obtain ⟨gw, hgw⟩ : ∃ g, g = w2.heap.size := ⟨_, rfl⟩
  go_wp2
  rw [← hgw] at HZ0 HGX ⊢
  clear hgw
  generalize w2.alloc (.cells #[.int .i64 0, .int .i64 0, .int .i64 0, .int .i64 0, .int .i64 0, .int .i64 0, .slice none 0 0] 31) = w3 at *
  go_loopw [8] (fun i wr => ∃ (j : Nat) (t : SpS) (vl : Value), j ≤ l.length ∧ i = .int .i64 (j : Int) ∧ Hid (t.l.length ≤ j) ∧ Hid (Z12 w pt t [(vl, t.l)] [(gw, 31, rqR t vl), (gx, 35, stR y)] wr)) (fun i _ => l.length - (intOf i).toNat)
  case atStart => exact ⟨0, newT, .slice none 0 0, Nat.zero_le _, rfl, Lib.hid (Nat.le_refl _), HZ0⟩
  case round =>
    obtain ⟨j, t, vl, hj, rfl, HTJ, HZ⟩ := hrel
    by_cases hlt : j < l.length
    · have hlti : (j : Int) < (l.length : Int) := by omega
      have h0k : (0 : Int) ≤ (j : Int) := by omega
      obtain ⟨x, hx⟩ : ∃ x, l[j]? = some x := ⟨l[j], List.getElem?_eq_getElem hlt⟩
      have HX := Lib.hid hx
      obtain ⟨sb, so, rfl⟩ : ∃ sb so, a = some ⟨sb, so, none⟩ := by
        obtain ⟨_, _, _, h4⟩ := IsC.shape HI.out
        obtain ⟨b, o, e1, e2, _⟩ := h4 (by omega)
        exact ⟨b, o, e1⟩
      clear hx
      go_wp2
      have HZD := Lib.hid (HZ.out.up (Below.refl _ _).drew)
      have hH0 := HZD.out.held (.head _) HI.out HX.out
      refine wp_region_noPanic ?_
      refine wp_region_held_drew (S := HeldRu gw sb (so + j * 6) t vl x) (by kernel_rfl) hH0 (fun hHeld => ?_)
      generalize wr.drew = wd at *
      refine held_take (v := ?v177) 0 rfl (by kernel_rfl) (by kernel_rfl) (by kernel_rfl) (fun _ _ _ h => h) (by rfl) ?y177 (by assumption) ?_
      case y177 => (intro w hSw; unfold HeldRu at hSw; go_simp; (try with_reducible rfl); (try omega))
      simp only [List.setIfInBounds_toArray, List.set_cons_zero, List.set_cons_succ]
      refine held_take (v := rqV t vl) 1 rfl (by kernel_rfl) (by kernel_rfl) (by kernel_rfl) (fun _ _ _ h => h) (by rfl) (fun W hSw => exec_load_any _ (.tmp 7) rfl gw 0 (rqR t vl) _ rfl hSw.1 Try.underlying31 rfl refs_info) (by assumption) ?_
      simp only [List.setIfInBounds_toArray, List.set_cons_zero, List.set_cons_succ]
      refine held_take (v := ?v182) 2 rfl (by kernel_rfl) (by kernel_rfl) (by kernel_rfl) (fun _ _ _ h => h) (by rfl) ?y182 (by assumption) ?_
      case y182 => (intro w hSw; unfold HeldRu at hSw; go_simp; (try with_reducible rfl); (try omega))
      simp only [List.setIfInBounds_toArray, List.set_cons_zero, List.set_cons_succ]
      refine held_take (v := ?v185) 3 rfl (by kernel_rfl) (by kernel_rfl) (by kernel_rfl) (fun _ _ _ h => h) (by rfl) ?y185 (by assumption) ?_
      case y185 => (intro w hSw; unfold HeldRu at hSw; go_simp; (try with_reducible rfl); (try omega))
      simp only [List.setIfInBounds_toArray, List.set_cons_zero, List.set_cons_succ]
      refine held_take (v := .pointer (some ⟨sb, so + j * 6, none⟩)) 4 rfl (by kernel_rfl) (by kernel_rfl) (by kernel_rfl) (fun _ _ _ h => h) (by rfl) (fun W hSw => idx_st _ _ rfl sb so l.length c j rfl rfl hlt) (by assumption) ?_
      simp only [List.setIfInBounds_toArray, List.set_cons_zero, List.set_cons_succ]
      refine held_take (v := stV x) 5 rfl (by kernel_rfl) (by kernel_rfl) (by kernel_rfl) (fun _ _ _ h => h) (by rfl) (fun W hSw => exec_load_any _ (.tmp 59) rfl sb (so + j * 6) (stR x) _ rfl hSw.2 Try.underlying35 rfl st_info) (by assumption) ?_
      simp only [List.setIfInBounds_toArray, List.set_cons_zero, List.set_cons_succ]
      obtain ⟨T, hT⟩ : ∃ T, t.step x = T := ⟨_, rfl⟩
      have HT := Lib.hid hT
      have HTL := Lib.hid (show T.l.length ≤ j + 1 by have := step_len t x; have := HTJ.out; rw [hT] at *; omega)
      have HDO := Lib.hid (fun (W : World) (bs : List (Nat × TypeId × List Value)) (hz : Z12 w pt t [(vl, t.l)] bs W) => z12_do (u := t) hz (.head _) x (by have := HTJ.out; omega) (by have := HTJ.out; omega) hz.wf)
      rw [hT] at HDO
      clear hT hH0
      refine (fun (key : ∀ (v' : Value) (g : Nat) (W : World), Z12 w pt T [(v', T.l), (vl, t.l)] [(g, 31, (rqR newT (.slice none 0 0))), (gw, 31, rqR t vl), (gx, 35, stR y)] W → (∀ b ∈ ([(gw, 31, rqR t vl), (gx, 35, stR y)] : List (Nat × TypeId × List Value)), b.1 < g) → (?MM : Value → Nat → World → Prop) v' g W) => ?use) ?rest
      case use =>
        refine wpAnyH_ready (rs := [6, 10]) (by kernel_rfl) (by simp) (AllReadyH.cons rfl (fun K hK => ?_) (AllReadyH.cons rfl (fun K hK => ?_) AllReadyH.nil))
        · rw [if_pos (by rfl)]
          go_simp
          refine (HDO.out _ _ HZD.out).mono ?_
          rintro e w6 ⟨v6, b, rfl, hb, z6⟩
          obtain rfl := hb rfl
          refine hK.out _ _ (z6.held (.head _) HI.out HX.out) (fun _ => ?_)
          (try simp only [Act.put, List.setIfInBounds_toArray, List.set_cons_zero, List.set_cons_succ])
          clear hK K hb
          refine held_take (v := ?v209) 7 rfl (by kernel_rfl) (by kernel_rfl) (by kernel_rfl) (fun _ _ _ h => h) (by rfl) ?y209 (by assumption) ?_
          case y209 => (intro w hSw; unfold HeldRu at hSw; go_simp; (try with_reducible rfl); (try omega))
          simp only [List.setIfInBounds_toArray, List.set_cons_zero, List.set_cons_succ]
          refine held_take (v := ?v212) 8 rfl (by kernel_rfl) (by kernel_rfl) (by kernel_rfl) (fun _ _ _ h => h) (by rfl) ?y212 (by assumption) ?_
          case y212 => (intro w hSw; unfold HeldRu at hSw; go_simp; (try with_reducible rfl); (try omega))
          simp only [List.setIfInBounds_toArray, List.set_cons_zero, List.set_cons_succ]
          refine held_take (v := ?v215) 9 rfl (by kernel_rfl) (by kernel_rfl) (by kernel_rfl) (fun _ _ _ h => h) (by rfl) ?y215 (by assumption) ?_
          case y215 => (intro w hSw; unfold HeldRu at hSw; go_simp; (try with_reducible rfl); (try omega))
          simp only [List.setIfInBounds_toArray, List.set_cons_zero, List.set_cons_succ]
          refine held_one 10 rfl (by kernel_rfl) (by rfl) (fun K hK => ?_)
          go_simp
          have z7 := z6.al 31 (rqR newT (.slice none 0 0))
          refine hK.out _ _ (z7.held (.tail _ (.head _)) HI.out HX.out) (fun _ => ?_)
          (try simp only [Act.put, List.setIfInBounds_toArray, List.set_cons_zero, List.set_cons_succ])
          clear hK K
          rw [show ((rqR newT (.slice none 0 0))).toArray = #[.int .i64 0, .int .i64 0, .int .i64 0, .int .i64 0, .int .i64 0, .int .i64 0, .slice none 0 0] from rfl] at z7
          obtain ⟨g9, hg9⟩ : ∃ g, g = w6.heap.size := ⟨_, rfl⟩
          have hgl := fun b hb => (z6.bx b hb).1.lt
          rw [← hg9] at z7 hgl ⊢
          clear hg9 z6
          generalize w6.alloc (.cells #[.int .i64 0, .int .i64 0, .int .i64 0, .int .i64 0, .int .i64 0, .int .i64 0, .slice none 0 0] 31) = w7 at *
          exact key v6 g9 w7 z7 hgl
        · rw [if_pos (by rfl)]
          go_simp
          have z7 := HZD.out.al 31 (rqR newT (.slice none 0 0))
          refine hK.out _ _ (z7.held (.tail _ (.head _)) HI.out HX.out) (fun _ => ?_)
          (try simp only [Act.put, List.setIfInBounds_toArray, List.set_cons_zero, List.set_cons_succ])
          clear hK K
          rw [show ((rqR newT (.slice none 0 0))).toArray = #[.int .i64 0, .int .i64 0, .int .i64 0, .int .i64 0, .int .i64 0, .int .i64 0, .slice none 0 0] from rfl] at z7
          obtain ⟨g9, hg9⟩ : ∃ g, g = wd.heap.size := ⟨_, rfl⟩
          have hgl := fun b hb => (HZD.out.bx b hb).1.lt
          rw [← hg9] at z7 hgl ⊢
          clear hg9
          generalize wd.alloc (.cells #[.int .i64 0, .int .i64 0, .int .i64 0, .int .i64 0, .int .i64 0, .int .i64 0, .slice none 0 0] 31) = w7 at *
          refine held_one 6 rfl (by kernel_rfl) (by rfl) (fun K hK => ?_)
          go_simp
          refine (HDO.out _ _ z7).mono ?_
          rintro e w6 ⟨v6, b, rfl, hb, z6⟩
          obtain rfl := hb rfl
          refine hK.out _ _ (z6.held (.tail _ (.head _)) HI.out HX.out) (fun _ => ?_)
          (try simp only [Act.put, List.setIfInBounds_toArray, List.set_cons_zero, List.set_cons_succ])
          clear hK K hb
          refine held_take (v := ?v251) 7 rfl (by kernel_rfl) (by kernel_rfl) (by kernel_rfl) (fun _ _ _ h => h) (by rfl) ?y251 (by assumption) ?_
          case y251 => (intro w hSw; unfold HeldRu at hSw; go_simp; (try with_reducible rfl); (try omega))
          simp only [List.setIfInBounds_toArray, List.set_cons_zero, List.set_cons_succ]
          refine held_take (v := ?v254) 8 rfl (by kernel_rfl) (by kernel_rfl) (by kernel_rfl) (fun _ _ _ h => h) (by rfl) ?y254 (by assumption) ?_
          case y254 => (intro w hSw; unfold HeldRu at hSw; go_simp; (try with_reducible rfl); (try omega))
          simp only [List.setIfInBounds_toArray, List.set_cons_zero, List.set_cons_succ]
          refine held_take (v := ?v257) 9 rfl (by kernel_rfl) (by kernel_rfl) (by kernel_rfl) (fun _ _ _ h => h) (by rfl) ?y257 (by assumption) ?_
          case y257 => (intro w hSw; unfold HeldRu at hSw; go_simp; (try with_reducible rfl); (try omega))
          simp only [List.setIfInBounds_toArray, List.set_cons_zero, List.set_cons_succ]
          exact key v6 g9 w6 z6 hgl
      intro v6 g9 w6 z6 hgl
      obtain ⟨a6, c6, hv6, hc6⟩ := IsK.form (z6.isK (.head _))
      subst hv6
      have z8 := z6.put (.head _) (rqR T (.slice a6 T.l.length c6)) (bs' := [(gw, 31, rqR t vl), (gx, 35, stR y)]) (fun b hb => ⟨.tail _ hb, fun e => by have := hgl b hb; omega⟩)
      refine held_none 11 rfl (by kernel_rfl) (by rfl) (fun K hK => ?_)
      refine wp_of_skip (exec_store_bxK _ (.tmp 9) (.tmp 62) rfl g9 (rqR T (.slice a6 T.l.length c6)) _ rfl rfl (z6.box (.head _)) refs_info rfl (rqR_one _ _ rfl)) ?_
      refine hK.out _ _ (z8.held (.tail _ (.head _)) HI.out HX.out) (fun _ => ?_)
      clear hK K
      refine held_take (v := ?v269) 12 rfl (by kernel_rfl) (by kernel_rfl) (by kernel_rfl) (fun _ _ _ h => h) (by rfl) ?y269 (by assumption) ?_
      case y269 => (intro w hSw; unfold HeldRu at hSw; go_simp; (try with_reducible rfl); (try omega))
      simp only [List.setIfInBounds_toArray, List.set_cons_zero, List.set_cons_succ]
      refine wpAnyH_done (by kernel_rfl) ?_ _
      refine NoPanic.normal ?_
      have HZ8 := Lib.hid z8
      clear z6 z8 hHeld hc6
      generalize w6.setRow g9 (rqR T (.slice a6 T.l.length c6)).toArray = w8 at *
      have hr8 := rangeAll (HZ8.out.box (.head _))
      have hb8 := HZ8.out.box (.tail _ (.head _))
      go_wp2_with (first
        | (refine plV rfl (rqV T (.slice a6 T.l.length c6)) (exec_load_any 31 (.tmp 9) rfl g9 0 (rqR T (.slice a6 T.l.length c6)) _ rfl hr8 Try.underlying31 rfl refs_info) ?_)
        | (refine plS rfl (exec_store_bxK _ (.tmp 7) (.tmp 66) rfl gw (rqR T (.slice a6 T.l.length c6)) _ rfl rfl hb8 refs_info rfl (rqR_one _ _ rfl)) ?_; refine Hid.out ?_))
      refine Lib.hid ?_
      have HZ9 := Lib.hid ((HZ8.out.put (.tail _ (.head _)) (rqR T (.slice a6 T.l.length c6)) (bs' := [(gx, 35, stR y)]) (fun b hb => by rcases List.mem_cons.1 hb with rfl | hb; exact ⟨.tail _ (.tail _ (.head _)), HGX.out⟩; cases hb)).less (ds' := [((.slice a6 T.l.length c6 : Value), T.l)]) (fun d hd => by
        rcases List.mem_cons.1 hd with rfl | hd
        · exact .head _
        · cases hd) (fun b hb => hb))
      clear hr8 hb8 HZ8
      generalize w8.setRow gw (rqR T (.slice a6 T.l.length c6)).toArray = w9 at *
      go_wp2
      go_roundw
      case rel => exact ⟨j + 1, T, _, by omega, rfl, HTL, HZ9⟩
      case measure => simp only [intOf]; omega

    · have hlti : ¬ ((j : Int) < (l.length : Int)) := by omega
      have HL9 := Lib.hid (show t.l.length ≤ 900 by have := HTJ.out; omega)
      obtain ⟨av, cv, hvl, _⟩ := IsK.form (HZ.out.isK (.head _))
      subst hvl
      obtain ⟨⟨A, B⟩, hAB⟩ : ∃ AB, t.area y.k = AB := ⟨_, rfl⟩
      have har : arRes (A, B) = .tuple #[.agg (sR A).toArray, .bool B] := rfl
      obtain ⟨vb1, vr1, hM1, _⟩ := HZ.out.to
      have hc1 := area_any y.k wr hM1
      rw [hAB, har] at hc1
      have HC1 := Lib.hid hc1
      have HAB := Lib.hid (show (t.area y.k).2 = B by rw [hAB])
      have q2 : wr.cell? ⟨gx, 2, none⟩ = some (.int .i64 y.k) := ((HZ.out.box (.tail _ (.head _))).cell 2).trans rfl
      clear hM1 hc1 hAB har
      go_wp2_with (go_at_call 19; refine HC1.out.mono ?_; rintro e w4 ⟨rfl, b4⟩; refine Hid.out ?_)
      refine Lib.hid ?_
      have HZ5 := Lib.hid (((HZ.out.up b4).al 27 (sR A)).less (fun d hd => hd) (bs' := [(gw, 31, rqR t (.slice av t.l.length cv)), (gx, 35, stR y)]) (fun b hb => .tail _ hb))
      clear b4 HC1 q2 HZ
      go_wp2_with (refine plS rfl (exec_store_fresh _ (.tmp 11) (.tmp 72) rfl (sR A) _ w4.heap.size rfl rfl rfl sp_info rfl (sR_one _)) ?_; refine Hid.out ?_)
      refine Lib.hid ?_
      generalize w4.alloc (.cells (sR A).toArray 27) = w5 at *
      obtain ⟨vb5, vr5, hM5, _⟩ := HZ5.out.to
      have HC5 := Lib.hid (left_any y.k w5 hM5)
      have q2 : w5.cell? ⟨gx, 2, none⟩ = some (.int .i64 y.k) := ((HZ5.out.box (.tail _ (.head _))).cell 2).trans rfl
      clear hM5
      go_wp2_with (go_at_call 21; refine HC5.out.mono ?_; rintro e w6 ⟨v6, rfl, i6, b6⟩; refine Hid.out ?_)
      refine Lib.hid ?_
      have HZ6 := Lib.hid (HZ5.out.up b6)
      obtain ⟨M, hM⟩ : ∃ M, longS (normS (t.left y.k)) 0 = M := ⟨_, rfl⟩
      have HML := Lib.hid hM
      have hc6 := rlong_any v6 _ w6 i6 (by have := left_length HZ6.out.wf y.k; have := HL9.out; omega)
      rw [hM] at hc6
      have HC6 := Lib.hid hc6
      obtain ⟨a6, c6, hv6, _⟩ := IsS.form i6
      subst hv6
      clear b6 i6 q2 hM hc6 HC5 HZ5
      generalize (t.left y.k).length = ll at *
      go_wp2_with (go_at_call 23; refine HC6.out.mono ?_; rintro e w7 ⟨rfl, b7⟩; refine Hid.out ?_)
      refine Lib.hid ?_
      have HZ7 := Lib.hid (HZ6.out.up b7)
      obtain ⟨vb7, vr7, hM7, hK7⟩ := HZ7.out.to
      have hc7 := draw_any y.o y.k y.n w7 hM7 HL9.out
      have HK7 := Lib.hid hK7
      have q1 : w7.cell? ⟨gx, 1, none⟩ = some (.int .i64 y.o) := ((HZ7.out.box (.tail _ (.head _))).cell 1).trans rfl
      have q2 : w7.cell? ⟨gx, 2, none⟩ = some (.int .i64 y.k) := ((HZ7.out.box (.tail _ (.head _))).cell 2).trans rfl
      have q3 : w7.cell? ⟨gx, 3, none⟩ = some (.int .i64 y.n) := ((HZ7.out.box (.tail _ (.head _))).cell 3).trans rfl
      have hways := draw_ways HZ7.out.wf (o := y.o) (k := y.k) (n := y.n) (by omega) (by omega) ⟨by omega, by omega⟩
      rw [HML.out, HAB.out] at hways
      clear b7 hM7 hK7 HC6 HZ6
      rcases hways with ⟨hd, hk1, rfl⟩ | ⟨hd, hml⟩ | ⟨x, hd, hml, hxn, hmo, hown, hf1, hf2, hf3⟩
      · rw [hd] at hc7
        rw [show dRes (t, (⟨0, 0⟩ : Spn), (31 : Int)).2.1 (t, (⟨0, 0⟩ : Spn), (31 : Int)).2.2 = .tuple #[.agg (sR ⟨0, 0⟩).toArray, .int .i64 31] from rfl] at hc7
        have HC7 := Lib.hid hc7
        clear hc7 hd
        go_wp2_with (go_at_call 24; refine HC7.out.mono ?_; rintro e w8 ⟨rfl, s8⟩; refine Hid.out ?_)
        refine Lib.hid ?_
        have HZ9 := Lib.hid ((HK7.out _ _ s8).al 27 (sR ⟨0, 0⟩))
        clear s8 q1 q2 q3 HC7 HK7 HZ7
        go_wp2_with (refine plS rfl (exec_store_fresh _ (.tmp 14) (.tmp 88) rfl (sR ⟨0, 0⟩) _ w8.heap.size rfl rfl rfl sp_info rfl (sR_one _)) ?_; refine Hid.out ?_)
        refine Lib.hid ?_
        generalize w8.alloc (.cells (sR ⟨0, 0⟩).toArray 27) = w9 at *
        have hr9 := rangeAll (HZ9.out.box (.tail _ (.head _)))
        obtain ⟨vb9, vr9, hM9, _⟩ := HZ9.out.to
        have HC9 := Lib.hid (same_eq w9 hM9 (HZ9.out.isK (.head _)))
        clear hM9
        go_wp2_with (first
          | (refine plV rfl (rqV t (.slice av t.l.length cv)) (exec_load_any 31 (.tmp 7) rfl gw 0 (rqR t (.slice av t.l.length cv)) _ rfl hr9 Try.underlying31 rfl refs_info) ?_)
          | (go_at_call 17; refine HC9.out.mono ?_; rintro e w10 ⟨rfl, b10⟩; refine Hid.out ?_))
        refine Lib.hid ?_
        have HZ10 := Lib.hid (HZ9.out.up b10)
        have q2 : w10.cell? ⟨gx, 2, none⟩ = some (.int .i64 y.k) := ((HZ10.out.box (.tail _ (.tail _ (.head _)))).cell 2).trans rfl
        have q3 : w10.cell? ⟨gx, 3, none⟩ = some (.int .i64 y.n) := ((HZ10.out.box (.tail _ (.tail _ (.head _)))).cell 3).trans rfl
        clear b10 hr9 HC9 HZ9
        go_wp2
        go_ret
        exact ⟨rfl, HZ10.out.below⟩
      · rw [hd] at hc7
        rw [show dRes (t, (⟨0, 0⟩ : Spn), (43 : Int)).2.1 (t, (⟨0, 0⟩ : Spn), (43 : Int)).2.2 = .tuple #[.agg (sR ⟨0, 0⟩).toArray, .int .i64 43] from rfl] at hc7
        have HC7 := Lib.hid hc7
        clear hc7 hd
        go_wp2_with (go_at_call 24; refine HC7.out.mono ?_; rintro e w8 ⟨rfl, s8⟩; refine Hid.out ?_)
        refine Lib.hid ?_
        have HZ9 := Lib.hid ((HK7.out _ _ s8).al 27 (sR ⟨0, 0⟩))
        clear s8 q1 q2 q3 HC7 HK7 HZ7
        go_wp2_with (refine plS rfl (exec_store_fresh _ (.tmp 14) (.tmp 88) rfl (sR ⟨0, 0⟩) _ w8.heap.size rfl rfl rfl sp_info rfl (sR_one _)) ?_; refine Hid.out ?_)
        refine Lib.hid ?_
        generalize w8.alloc (.cells (sR ⟨0, 0⟩).toArray 27) = w9 at *
        have hr9 := rangeAll (HZ9.out.box (.tail _ (.head _)))
        obtain ⟨vb9, vr9, hM9, _⟩ := HZ9.out.to
        have HC9 := Lib.hid (same_eq w9 hM9 (HZ9.out.isK (.head _)))
        clear hM9
        go_wp2_with (first
          | (refine plV rfl (rqV t (.slice av t.l.length cv)) (exec_load_any 31 (.tmp 7) rfl gw 0 (rqR t (.slice av t.l.length cv)) _ rfl hr9 Try.underlying31 rfl refs_info) ?_)
          | (go_at_call 17; refine HC9.out.mono ?_; rintro e w10 ⟨rfl, b10⟩; refine Hid.out ?_))
        refine Lib.hid ?_
        have HZ10 := Lib.hid (HZ9.out.up b10)
        have q2 : w10.cell? ⟨gx, 2, none⟩ = some (.int .i64 y.k) := ((HZ10.out.box (.tail _ (.tail _ (.head _)))).cell 2).trans rfl
        have q3 : w10.cell? ⟨gx, 3, none⟩ = some (.int .i64 y.n) := ((HZ10.out.box (.tail _ (.tail _ (.head _)))).cell 3).trans rfl
        clear b10 hr9 HC9 HZ9
        go_wp2
        go_ret
        exact ⟨rfl, HZ10.out.below⟩
      · rw [hd] at hc7
        rw [show dRes (t.put ⟨x, y.o, y.k⟩, x, (0 : Int)).2.1 (t.put ⟨x, y.o, y.k⟩, x, (0 : Int)).2.2 = .tuple #[.agg (sR x).toArray, .int .i64 0] from rfl] at hc7
        have HC7 := Lib.hid hc7
        obtain ⟨T, hT⟩ : ∃ T, t.put ⟨x, y.o, y.k⟩ = T := ⟨_, rfl⟩
        rw [hT] at hown hf1 hf2 HC7
        have HF1 := Lib.hid hf1
        have HF2 := Lib.hid hf2
        have HF3 := Lib.hid hf3
        have HTL := Lib.hid (show T.l.length ≤ 900 by rw [← hT]; show (putB _ t.l).length ≤ 900; rw [putB_len]; have := HTJ.out; omega)
        have HOW := Lib.hid hown
        have HMO := Lib.hid hmo
        clear hc7 hd hown hf1 hf2 hf3 hT hmo
        go_wp2_with (go_at_call 24; refine HC7.out.mono ?_; rintro e w8 ⟨rfl, s8⟩; refine Hid.out ?_)
        refine Lib.hid ?_
        have HZ9 := Lib.hid ((HK7.out _ _ s8).al 27 (sR x))
        obtain ⟨g14, hg14⟩ : ∃ g, g = w8.heap.size := ⟨_, rfl⟩
        rw [← hg14] at HZ9
        clear s8 q1 q2 q3 HC7 HK7 HZ7
        go_wp2_with (refine plS rfl (exec_store_fresh _ (.tmp 14) (.tmp 88) rfl (sR x) _ w8.heap.size rfl rfl rfl sp_info rfl (sR_one _)) ?_; refine Hid.out ?_)
        refine Lib.hid ?_
        generalize w8.alloc (.cells (sR x).toArray 27) = w9 at *
        rw [← hg14]
        clear hg14
        have z1 : w9.cell? ⟨g14, 1, none⟩ = some (.int .i64 x.l) := ((HZ9.out.box (.head _)).cell 1).trans rfl
        obtain ⟨vb9, vr9, hM9, _⟩ := HZ9.out.to
        have hc9 := owner_any x.l w9 hM9
        rw [HOW.out] at hc9
        have HC9 := Lib.hid hc9
        clear hM9 hc9
        go_wp2_with (go_at_call 13; refine HC9.out.mono ?_; rintro e w10 ⟨rfl, b10⟩; refine Hid.out ?_)
        refine Lib.hid ?_
        have HZ10 := Lib.hid (HZ9.out.up b10)
        clear b10 z1 HC9 HZ9
        have q1 : w10.cell? ⟨gx, 1, none⟩ = some (.int .i64 y.o) := ((HZ10.out.box (.tail _ (.tail _ (.head _)))).cell 1).trans rfl
        have hr10 := rangeAll (HZ10.out.box (.head _))
        obtain ⟨vb10, vr10, hM10, hK10⟩ := HZ10.out.to
        obtain ⟨O1, hO1⟩ : ∃ O1, IntKind.i64.wrap (y.o + 1) = O1 := ⟨_, rfl⟩
        have hc10 := free_any O1 x w10 hM10 HTL.out
        rw [HF2.out _ (by rw [← hO1]; exact wrap_ne y.o)] at hc10
        have HC10 := Lib.hid hc10
        have HK10 := Lib.hid hK10
        clear hM10 hK10 hc10
        go_wp2_with (first
          | (refine plV rfl (sV x) (exec_load_any 27 (.tmp 14) rfl g14 0 (sR x) _ rfl hr10 Try.underlying27 rfl sp_info) ?_)
          | (go_at_call 25; refine HC10.out.mono ?_; rintro e w11 ⟨rfl, s11⟩; refine Hid.out ?_))
        refine Lib.hid ?_
        have HZ11 := Lib.hid (HK10.out _ _ s11)
        clear s11 q1 hr10 HC10 HK10 HZ10 hO1
        have q1 : w11.cell? ⟨gx, 1, none⟩ = some (.int .i64 y.o) := ((HZ11.out.box (.tail _ (.tail _ (.head _)))).cell 1).trans rfl
        have hr11 := rangeAll (HZ11.out.box (.head _))
        obtain ⟨vb11, vr11, hM11, hK11⟩ := HZ11.out.to
        have hc11 := free_any y.o x w11 hM11 HTL.out
        rw [HF1.out] at hc11
        have HC11 := Lib.hid hc11
        have HK11 := Lib.hid hK11
        clear hM11 hK11 hc11
        go_wp2_with (first
          | (refine plV rfl (sV x) (exec_load_any 27 (.tmp 14) rfl g14 0 (sR x) _ rfl hr11 Try.underlying27 rfl sp_info) ?_)
          | (go_at_call 25; refine HC11.out.mono ?_; rintro e w12 ⟨rfl, s12⟩; refine Hid.out ?_))
        refine Lib.hid ?_
        have HZ12 := Lib.hid (HK11.out _ _ s12)
        clear s12 q1 hr11 HC11 HK11 HZ11
        have q1 : w12.cell? ⟨gx, 1, none⟩ = some (.int .i64 y.o) := ((HZ12.out.box (.tail _ (.tail _ (.head _)))).cell 1).trans rfl
        have hr12 := rangeAll (HZ12.out.box (.head _))
        obtain ⟨vb12, vr12, hM12, hK12⟩ := HZ12.out.to
        have hc12 := free_any y.o x w12 hM12 HL9.out
        rw [HF3.out] at hc12
        have HC12 := Lib.hid hc12
        have HK12 := Lib.hid hK12
        clear hM12 hK12 hc12
        go_wp2_with (first
          | (refine plV rfl (sV x) (exec_load_any 27 (.tmp 14) rfl g14 0 (sR x) _ rfl hr12 Try.underlying27 rfl sp_info) ?_)
          | (go_at_call 25; refine HC12.out.mono ?_; rintro e w13 ⟨rfl, s13⟩; refine Hid.out ?_))
        refine Lib.hid ?_
        have HZ13 := Lib.hid (HK12.out _ _ s13)
        clear s13 q1 hr12 HC12 HK12 HZ12
        have q1 : w13.cell? ⟨gx, 1, none⟩ = some (.int .i64 y.o) := ((HZ13.out.box (.tail _ (.tail _ (.head _)))).cell 1).trans rfl
        have q2 : w13.cell? ⟨gx, 2, none⟩ = some (.int .i64 y.k) := ((HZ13.out.box (.tail _ (.tail _ (.head _)))).cell 2).trans rfl
        have q3 : w13.cell? ⟨gx, 3, none⟩ = some (.int .i64 y.n) := ((HZ13.out.box (.tail _ (.tail _ (.head _)))).cell 3).trans rfl
        have z0 : w13.cell? ⟨g14, 0, none⟩ = some (.int .i64 x.f) := ((HZ13.out.box (.head _)).cell 0).trans rfl
        have z1 : w13.cell? ⟨g14, 1, none⟩ = some (.int .i64 x.l) := ((HZ13.out.box (.head _)).cell 1).trans rfl
        have hr13 := rangeAll (HZ13.out.box (.tail _ (.head _)))
        obtain ⟨vb13, vr13, hM13, _⟩ := HZ13.out.to
        have HC13 := Lib.hid (same_eq w13 hM13 (HZ13.out.isK (.head _)))
        have k1 : IntKind.i64.wrap (x.l - x.f) = x.l - x.f := by have := HMO.out; unfold mayO at this; simp [IntKind.wrap, IntKind.bits, IntKind.signed]; omega
        have k2 : IntKind.i64.wrap (x.l - x.f + 1) = y.n := by have := HMO.out; unfold mayO at this; simp [IntKind.wrap, IntKind.bits, IntKind.signed]; omega
        have hml2 : ¬ M < y.n := by omega
        clear hM13 hxn
        go_wp2_with (first
          | (refine plV rfl (rqV t (.slice av t.l.length cv)) (exec_load_any 31 (.tmp 7) rfl gw 0 (rqR t (.slice av t.l.length cv)) _ rfl hr13 Try.underlying31 rfl refs_info) ?_)
          | (go_at_call 17; refine HC13.out.mono ?_; rintro e w14 ⟨rfl, b14⟩; refine Hid.out ?_))
        refine Lib.hid ?_
        have HF := Lib.hid (HZ13.out.up b14).below
        clear b14 q1 q2 q3 z0 z1 hr13 k1 k2 HC13
        go_wp2
        go_ret
        exact ⟨rfl, HF.out⟩
end Go.Proofs.Ytgelbeglffjdaaa
