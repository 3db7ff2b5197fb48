/- Package slots: where a label stands: find. -/
import Derived.Test.YtoliijajhikhgaaSl2
import Derived.Test.YtoliijajhikhgaaFen13
namespace Go.Proofs.Ytoliijajhikhgaa
open Go Go.RowKit Go.Shelf
attribute [local go_sem] Oper.semAt_some

structure FndI (w : World) (pt : Nat) (a z : Int) (b : Bool) (W : World) : Prop where
  r2 : Bx W w.heap.size 24 [.pointer (some ⟨pt, 0, none⟩)]
  r3 : Bx W (w.heap.size + 1) 3 [.int .i64 a]
  r6 : Bx W (w.heap.size + 2) 3 [.int .i64 z]
  r7 : Bx W (w.heap.size + 3) 4 [.bool b]
  below : Below w.heap.size w W
theorem FndI.from {w : World} {pt : Nat} {a z : Int} {b : Bool} {B : Nat} (hB : w.heap.size ≤ B) {X Y : World} {row : Option Nat} (h : FndI w pt a z b X) (hg : X.grownBy Y row) (hr : ∀ r, row = some r → B ≤ r ∧ ∃ o : Obj, X.heap[r]? = some o ∧ o.isCells = false) : FndI w pt a z b Y :=
  ⟨bx_from h.r2 hg hr, bx_from h.r3 hg hr, bx_from h.r6 hg hr, bx_from h.r7 hg hr, ownFrom_below (β := Unit) (Nat.le_refl _) hB () X Y row h.below hg hr⟩
theorem FndI.up {w : World} {pt : Nat} {a z : Int} {b : Bool} {W W' : World} (h : FndI w pt a z b W) (hb : Below W.heap.size W W') : FndI w pt a z b W' := ⟨h.r2.up hb, h.r3.up hb, h.r6.up hb, h.r7.up hb, below_up h.below hb h.below.size⟩
/-- what the way to a label looks like -/
def PreF (sl : List Slt) (a : Int) (pre : List (Fin sl.length)) : Prop := ∀ x ∈ pre, ∃ s, sl[x.val]? = some s ∧ s.h = true ∧ s.l ≠ a
structure FndR (wd : Nat) (sl : List Slt) (a : Int) (p : Nat) (b : Bool) : Prop where
  at_ : ∃ s, sl[p]? = some s ∧ s.h = b ∧ (b = true → s.l = a)
  way : ∀ (r : Nat) (s : Slt), dst sl.length (homeI wd a) r < dst sl.length (homeI wd a) p → sl[r]? = some s → s.h = true ∧ s.l ≠ a
def fndIx (w : World) (pt : Nat) (sl : List Slt) (a : Int) (c : Code) (pre : List (Fin sl.length)) (W : World) : Prop := c = .exit 0 ∧ ∃ pre0 x b, pre = pre0 ++ [x] ∧ PreF sl a pre0 ∧ (∃ s, sl[x.val]? = some s ∧ s.h = b ∧ (b = true → s.l = a)) ∧ FndI w pt a (x.val : Int) b W
theorem fnd_way {wd : Nat} {sl : List Slt} {a : Int} {hp : 0 < sl.length} (hw : homeI wd a < sl.length) {pre0 : List (Fin sl.length)} {x : Fin sl.length} (hpre : (pre0 ++ [x]) <+: placesF sl.length hp (homeI wd a)) (hpf : PreF sl a pre0) :
    ∀ (r : Nat) (s : Slt), dst sl.length (homeI wd a) r < dst sl.length (homeI wd a) x.val → sl[r]? = some s → s.h = true ∧ s.l ≠ a := by
  obtain ⟨tl, htl⟩ := hpre
  have hxl : pre0.length < sl.length := by
    have h1 := congrArg List.length htl
    rw [placesF_len] at h1
    simp at h1
    omega
  have hx : (placesF sl.length hp (homeI wd a))[pre0.length]? = some x := by rw [← htl]; simp
  rw [placesF_get hxl] at hx
  have e : (homeI wd a + pre0.length) % sl.length = x.val := congrArg Fin.val (Option.some.inj hx)
  have hd : dst sl.length (homeI wd a) x.val = pre0.length := by rw [← e, mod_wrp (by omega), dst_wrp hw hxl]
  intro r s hr hs
  have hrl := (List.getElem?_eq_some_iff.1 hs).1
  have hi := dst_lt hw hrl
  have h1 : (placesF sl.length hp (homeI wd a))[dst sl.length (homeI wd a) r]? = some ⟨(homeI wd a + dst sl.length (homeI wd a) r) % sl.length, Nat.mod_lt _ hp⟩ := placesF_get hi
  have h2 : (⟨(homeI wd a + dst sl.length (homeI wd a) r) % sl.length, Nat.mod_lt _ hp⟩ : Fin sl.length) = ⟨r, hrl⟩ := Fin.ext (by
    show (homeI wd a + dst sl.length (homeI wd a) r) % sl.length = r
    rw [mod_wrp (by omega), wrp_dst hw hrl])
  rw [h2, ← htl, List.append_assoc, List.getElem?_append_left (by omega)] at h1
  obtain ⟨u, hu, h3⟩ := hpf _ (List.mem_of_getElem? h1)
  have hu2 : sl[r]? = some u := hu
  rw [hs] at hu2
  cases hu2
  exact h3
theorem fnd_all {wd : Nat} {sl : List Slt} {a : Int} {hp : 0 < sl.length} (hw : homeI wd a < sl.length) (hpf : PreF sl a (placesF sl.length hp (homeI wd a))) (hfree : ∃ q, q < sl.length ∧ heldAt sl q = false) : False := by
  obtain ⟨q, hq, hf⟩ := hfree
  have h1 : (placesF sl.length hp (homeI wd a))[dst sl.length (homeI wd a) q]? = some ⟨(homeI wd a + dst sl.length (homeI wd a) q) % sl.length, Nat.mod_lt _ hp⟩ := placesF_get (dst_lt hw hq)
  have hi := dst_lt hw hq
  obtain ⟨u, hu, h3, _⟩ := hpf _ (List.mem_of_getElem? h1)
  have hu2 : sl[(homeI wd a + dst sl.length (homeI wd a) q) % sl.length]? = some u := hu
  rw [mod_wrp (by omega), wrp_dst hw hq] at hu2
  rw [heldAt_of hu2, h3] at hf
  cases hf
def HeldF (b pt : Nat) (a : Int) (R : List Value) (W : World) : Prop :=
  W.cell? ⟨b, 0, none⟩ = some (.pointer (some ⟨pt, 0, none⟩)) ∧ W.cell? ⟨b + 1, 0, none⟩ = some (.int .i64 a) ∧ Bx W pt 56 R
def HeldG (b pt g N i : Nat) (row : List Value) (W : World) : Prop :=
  W.cell? ⟨b, 0, none⟩ = some (.pointer (some ⟨pt, 0, none⟩)) ∧ W.cell? ⟨b + 1 + 1, 0, none⟩ = some (.int .i64 (i : Int)) ∧ W.cell? ⟨pt, 3, none⟩ = some (.slice (some ⟨g, 0, none⟩) N N) ∧ W.rangeAt g (i * 3) row
set_option maxRecDepth 100000 in
set_option maxHeartbeats 4000000 in
theorem find_any {pt g wd : Nat} {room cnt : Int} {sl : List Slt} (a : Int) (w : World) (h : TbM w pt g wd room cnt sl) (hfree : ∃ q, q < sl.length ∧ heldAt sl q = false) :
    Calls Try.prog 19 #[.pointer (some ⟨pt, 0, none⟩), .int .i64 a] w fun e w' => (∃ p b, e = .returned (.tuple #[.int .i64 ((p : Nat) : Int), .bool b]) ∧ FndR wd sl a p b) ∧ Below w.heap.size w w' := by
  have hz : FndI w pt a 0 false ((((w.alloc (.cells #[.pointer (some ⟨pt, 0, none⟩)] 24)).alloc (.cells #[.int .i64 a] 3)).alloc (.cells #[.int .i64 0] 3)).alloc (.cells #[.bool false] 4)) := by
    have h1 := twoB_new w 24 3 [.pointer (some ⟨pt, 0, none⟩)] [.int .i64 a]
    have s1 : ((w.alloc (.cells #[.pointer (some ⟨pt, 0, none⟩)] 24)).alloc (.cells #[.int .i64 a] 3)).heap.size = w.heap.size + 2 := by simp
    have h2 := twoB_new ((w.alloc (.cells #[.pointer (some ⟨pt, 0, none⟩)] 24)).alloc (.cells #[.int .i64 a] 3)) 3 4 [.int .i64 0] [.bool false]
    have b2 := h2.2.2
    have r6 := h2.1
    have r7 := h2.2.1
    rw [s1] at r6 r7
    exact ⟨h1.1.up b2, h1.2.1.up b2, r6, r7, below_up h1.2.2 b2 (by omega)⟩
  have HZ := Lib.hid hz
  have HT := Lib.hid h
  have HF := Lib.hid hfree
  have hlow := h.low
  have hptl : pt < w.heap.size := h.tb.lt
  clear h hz hfree
  refine (callsIn_wide (n := 5)).1 ?_
  refine callsIn_of_wp_marks Try.func19 rfl trivial ?_ rfl
  simp only [Try.ntmps19, List.size_toArray, List.length_cons, List.length_nil, Nat.reduceAdd, Nat.reduceSub, Array.replicate_succ, Array.replicate_zero, List.push_toArray, List.append_toArray, List.nil_append, List.cons_append]
  gi_wp2
  refine wpIn_wide.2 (wp_scope_straight ((wpIn_wide (n := 5)).1 ?_))
  gi_wp2
  refine wpIn_label ?_
  gi_wp2
  generalize (((w.alloc (.cells #[.pointer (some ⟨pt, 0, none⟩)] 24)).alloc (.cells #[.int .i64 a] 3)).alloc (.cells #[.int .i64 0] 3)).alloc (.cells #[.bool false] 4) = W1 at *
  have hel : ∀ W, FndI w pt a 0 false W → HeldF w.heap.size pt a (tbR room cnt wd g sl.length) W := fun W h => ⟨by rw [h.r2.cell]; rfl, by rw [h.r3.cell]; rfl, HT.out.tb.up h.below⟩
  have HZD := Lib.hid (HZ.out.up (Below.refl _ _).drew)
  refine wpIn_wide.2 ?_
  refine wp_region_noPanic ?_
  refine wp_region_held_drew (S := HeldF w.heap.size pt a (tbR room cnt wd g sl.length)) (by kernel_rfl) (hel _ HZD.out) (fun hHeld => ?_)
  generalize W1.drew = W2 at *
  clear HZ
  refine held_take (v := ?v95) 0 rfl (by kernel_rfl) (by kernel_rfl) (by kernel_rfl) (fun _ _ _ h => h) (by rfl) ?y95 (by assumption) ?_
  case y95 => (intro w hSw; unfold HeldF at hSw; go_simp; (try with_reducible rfl); (try omega))
  simp only [List.setIfInBounds_toArray, List.set_cons_zero, List.set_cons_succ]
  refine held_take (v := ?v98) 1 rfl (by kernel_rfl) (by kernel_rfl) (by kernel_rfl) (fun _ _ _ h => h) (by rfl) ?y98 (by assumption) ?_
  case y98 => (intro w hSw; unfold HeldF at hSw; go_simp; (try with_reducible rfl); (try omega))
  simp only [List.setIfInBounds_toArray, List.set_cons_zero, List.set_cons_succ]
  refine held_take (v := ?v101) 2 rfl (by kernel_rfl) (by kernel_rfl) (by kernel_rfl) (fun _ _ _ h => h) (by rfl) ?y101 (by assumption) ?_
  case y101 => (intro w hSw; unfold HeldF at hSw; go_simp; (try with_reducible rfl); (try omega))
  simp only [List.setIfInBounds_toArray, List.set_cons_zero, List.set_cons_succ]
  refine held_one 3 rfl (by kernel_rfl) (by rfl) (fun K hK => ?_)
  go_simp
  refine (home_any a W2 hHeld.2.2 HT.out.w2).mono ?_
  rintro e w' ⟨rfl, rfl⟩
  refine hK.out _ _ (hel _ HZD.out) (fun _ => ?_)
  (try simp only [Act.put, List.setIfInBounds_toArray, List.set_cons_zero, List.set_cons_succ])
  clear hK K
  refine held_one 4 rfl (by kernel_rfl) (by rfl) (fun K hK => ?_)
  go_simp
  refine ((callsIn_wide (n := 5)).1 (places_in _ _ _ _)).mono ?_
  rintro e w5 ⟨rfl, rfl⟩
  have hP := twoB_new W2 24 3 [.pointer (some ⟨pt, 0, none⟩)] [.int .i64 (homeI wd a : Int)]
  have hsz2 : w.heap.size + 3 < W2.heap.size := HZD.out.r7.lt
  have HZ5 := Lib.hid (HZD.out.up hP.2.2)
  refine hK.out _ _ (hel _ HZ5.out) (fun _ => ?_)
  (try simp only [Act.put, List.setIfInBounds_toArray, List.set_cons_zero, List.set_cons_succ])
  clear hK K
  refine wpAnyH_done (by kernel_rfl) ?_ _
  refine NoPanic.normal ?_
  have hPL : PlZ W2.heap.size (W2.heap.size + 1) pt g wd sl.length room cnt (homeI wd a) ((W2.alloc (.cells #[.pointer (some ⟨pt, 0, none⟩)] 24)).alloc (.cells #[.int .i64 (homeI wd a : Int)] 3)) := ⟨hP.1, hP.2.1, HT.out.tb.up HZ5.out.below⟩
  have hsz5 : ((W2.alloc (.cells #[.pointer (some ⟨pt, 0, none⟩)] 24)).alloc (.cells #[.int .i64 (homeI wd a : Int)] 3)).heap.size = W2.heap.size + 2 := by simp
  clear HZD hP hel hHeld
  generalize (W2.alloc (.cells #[.pointer (some ⟨pt, 0, none⟩)] 24)).alloc (.cells #[.int .i64 (homeI wd a : Int)] 3) = W0 at *
  have hB : w.heap.size ≤ W0.heap.size := by omega
  show Exit.then _ _ _ _ _
  gi_wp2
  refine wpIn_rangeFunc_ownH (n := 5) rfl (by omega) (gf := 32) (lb := #[.pointer (some ⟨W2.heap.size, 0, none⟩), .pointer (some ⟨W2.heap.size + 1, 0, none⟩)]) rfl trivial (enters_of Try.func32 (by kernel_rfl) rfl)
    (places_stops 4 W2.heap.size (W2.heap.size + 1) pt g wd sl.length room cnt (homeI wd a) (fun k => k = w.heap.size + 2) HT.out.len HT.out.w2 (by omega) (by rw [HT.out.len]; exact Nat.le_of_lt (homeI_lt HT.out.w2 a)) W0 hPL (fun e => by omega) (fun e => by omega) (fun e => by omega))
    (fun h k => h.trans k) (fun W l o o' _ hl hc _ => KpW.put _ W l o o' hl hc) (Below.refl _ _) (fun _ => rfl)
    (fun pre W => PreF sl a pre ∧ ∃ z, FndI w pt a z false W) (fndIx w pt sl a)
    (fun u X Y row h1 h2 h3 => ⟨h1.1, by obtain ⟨z, h4⟩ := h1.2; exact ⟨z, FndI.from hB h4 h2 h3⟩⟩)
    (fun c u X Y row h1 h2 h3 => by obtain ⟨e, pre0, x, b, e1, e2, e3, e4⟩ := h1; exact ⟨e, pre0, x, b, e1, e2, e3, FndI.from hB e4 h2 h3⟩)
    ⟨(fun _ h => (by cases h)), 0, HZ5.out⟩
    (fun x a' W => FndI w pt a (x.val : Int) false W ∧ a' = { tmps := #[.pointer (some ⟨pt, 0, none⟩), .int .i64 a, .pointer (some ⟨w.heap.size, 0, none⟩), .pointer (some ⟨w.heap.size + 1, 0, none⟩), .int .i64 0, .bool false, .pointer (some ⟨w.heap.size + 1 + 1, 0, none⟩), .pointer (some ⟨w.heap.size + 1 + 1 + 1, 0, none⟩), undef, .pointer (some ⟨pt, 0, none⟩), .pointer (some ⟨pt, 0, none⟩), .int .i64 a, .int .i64 (homeI wd a : Int), .func (.func 32) #[] #[.pointer (some ⟨W2.heap.size, 0, none⟩), .pointer (some ⟨W2.heap.size + 1, 0, none⟩)], .int .i64 (x.val : Int), undef, undef, undef, undef, undef, undef, undef, undef, undef, undef, undef, undef, undef, undef, undef, undef, undef, undef, undef], defers := [] })
    (fun x a' u X Y row h1 h2 h3 => ⟨FndI.from hB h1.1 h2 h3, h1.2⟩)
    ?assign ?body ?done ?stop
  case assign =>
    rintro lp pre x W K ⟨hp, z, hi⟩ hK
    have g6 : W.cell? ⟨w.heap.size + 1 + 1, 0, none⟩ = some (.int .i64 z) := (hi.r6.cell 0).trans rfl
    have y6 := hi.r6.frozen 0
    have HI2 := Lib.hid hi
    clear hi
    gi_wp2
    have hn : FndI w pt a (x.val : Int) false (W.setCell ⟨w.heap.size + 1 + 1, 0, none⟩ (.int .i64 (x.val : Int))) :=
      ⟨HI2.out.r2.setOther (k := w.heap.size + 2) (by omega) 0 _, HI2.out.r3.setOther (k := w.heap.size + 2) (by omega) 0 _, HI2.out.r6.set 0 _, HI2.out.r7.setOther (k := w.heap.size + 2) (by omega) 0 _, HI2.out.below.setCell (p := ⟨w.heap.size + 2, 0, none⟩) (by simp) _⟩
    exact hK _ _ ((KeepsOthers.setCell _ _ _).from _) (KpW.set W (w.heap.size + 2) 0 _ rfl) ⟨hp, _, hn⟩ ⟨hn, rfl⟩
  case body =>
    rintro lp pre x a' W hl _ ⟨hp, z, _⟩ ⟨hi, rfl⟩ hlt
    obtain ⟨s, hs⟩ : ∃ s, sl[x.val]? = some s := ⟨_, List.getElem?_eq_getElem x.isLt⟩
    have hhg : ∀ V, Below W.heap.size W V → HeldG w.heap.size pt g sl.length x.val (slR s) V := fun V hV =>
      have h2 := hi.up hV
      have hT := HT.out.up h2.below
      ⟨(h2.r2.cell 0).trans rfl, (h2.r6.cell 0).trans rfl, (hT.tb.cell 3).trans rfl, hT.range x.val s hs⟩
    have hx1 : (x.val : Int) < (sl.length : Int) := by have := x.isLt; omega
    have hx0 : ¬ (x.val : Int) < 0 := by omega
    have HI2 := Lib.hid hi
    have HS := Lib.hid hs
    have HPF := Lib.hid hp
    have HHG := Lib.hid hhg
    clear hi hs hp hhg
    gi_wp2
    refine wpIn_region_round (S := HeldG w.heap.size pt g sl.length x.val (slR s)) (by kernel_rfl) (by kernel_rfl) (fun _ _ h => h) (HHG.out _ (Below.refl _ _).drew) (fun hHeld => ?_)
    have HBD := Lib.hid (show Below W.heap.size W W.drew from (Below.refl _ _).drew)
    generalize W.drew = W1 at *
    refine held_take (v := ?v168) 0 rfl (by kernel_rfl) (by kernel_rfl) (by kernel_rfl) (fun _ _ _ h => h) (by rfl) ?y168 (by assumption) ?_
    case y168 => (intro w hSw; unfold HeldG at hSw; go_simp; (try with_reducible rfl); (try omega))
    simp only [List.setIfInBounds_toArray, List.set_cons_zero, List.set_cons_succ]
    refine held_take (v := ?v171) 1 rfl (by kernel_rfl) (by kernel_rfl) (by kernel_rfl) (fun _ _ _ h => h) (by rfl) ?y171 (by assumption) ?_
    case y171 => (intro w hSw; unfold HeldG at hSw; go_simp; (try with_reducible rfl); (try omega))
    simp only [List.setIfInBounds_toArray, List.set_cons_zero, List.set_cons_succ]
    refine held_take (v := ?v174) 2 rfl (by kernel_rfl) (by kernel_rfl) (by kernel_rfl) (fun _ _ _ h => h) (by rfl) ?y174 (by assumption) ?_
    case y174 => (intro w hSw; unfold HeldG at hSw; go_simp; (try with_reducible rfl); (try omega))
    simp only [List.setIfInBounds_toArray, List.set_cons_zero, List.set_cons_succ]
    refine held_take (v := ?v177) 3 rfl (by kernel_rfl) (by kernel_rfl) (by kernel_rfl) (fun _ _ _ h => h) (by rfl) ?y177 (by assumption) ?_
    case y177 => (intro w hSw; unfold HeldG at hSw; go_simp; (try with_reducible rfl); (try omega))
    simp only [List.setIfInBounds_toArray, List.set_cons_zero, List.set_cons_succ]
    refine held_take (v := ?v180) 4 rfl (by kernel_rfl) (by kernel_rfl) (by kernel_rfl) (fun _ _ _ h => h) (by rfl) ?y180 (by assumption) ?_
    case y180 => (intro w hSw; unfold HeldG at hSw; go_simp; (try with_reducible rfl); (try omega))
    simp only [List.setIfInBounds_toArray, List.set_cons_zero, List.set_cons_succ]
    refine held_take (v := ?v183) 5 rfl (by kernel_rfl) (by kernel_rfl) (by kernel_rfl) (fun _ _ _ h => h) (by rfl) ?y183 (by assumption) ?_
    case y183 => (intro w hSw; unfold HeldG at hSw; go_simp; (try with_reducible rfl); (try omega))
    simp only [List.setIfInBounds_toArray, List.set_cons_zero, List.set_cons_succ]
    refine held_take (v := slV s) 6 rfl (by kernel_rfl) (by kernel_rfl) (by kernel_rfl) (fun _ _ _ h => h) (by rfl) (fun W hSw => exec_load_any _ (.tmp 20) rfl g (x.val * 3) (slR s) _ rfl hSw.2.2.2 Try.underlying58 rfl sl_info) (by assumption) ?_
    simp only [List.setIfInBounds_toArray, List.set_cons_zero, List.set_cons_succ]
    refine held_one 7 rfl (by kernel_rfl) (by rfl) (fun K hK => ?_)
    go_simp
    refine hK.out _ _ (HHG.out _ (HBD.out.alloc HBD.out.size _)) (fun _ => ?_)
    clear hK K
    (try simp only [Act.put, List.setIfInBounds_toArray, List.set_cons_zero, List.set_cons_succ])
    refine held_none 8 rfl (by kernel_rfl) (by rfl) (fun K hK => ?_)
    refine wp_store_row 58 (.tmp 8) (.tmp 21) rfl W1.heap.size (slR s).toArray rfl rfl _ _ (heap_alloc_new W1 _) sl_info (by rfl) (all_oneCell_toArray (slR_one s)) ?_
    rw [World.setRow_alloc_new]
    have HBA := Lib.hid (show Below W.heap.size W (W1.alloc (.cells (slR s).toArray 58)) from HBD.out.alloc HBD.out.size _)
    refine hK.out _ _ (HHG.out _ HBA.out) (fun _ => ?_)
    clear hK K
    (try simp only [Act.put])
    refine wpAnyH_done (by kernel_rfl) ?_ _
    refine NoPanic.normal ?_
    have hN := Bx.new W1 58 (slR s)
    have HI3 := Lib.hid (HI2.out.up HBA.out)
    have hkb : ∀ B, KeepsFrom B W (W1.alloc (.cells (slR s).toArray 58)) := fun B => ⟨HBA.out.size, fun k o _ hk _ => (HBA.out.block k (Array.getElem?_eq_some_iff.1 hk).1).trans hk⟩
    have hkp : KpW (fun k => k = w.heap.size + 2) W (W1.alloc (.cells (slR s).toArray 58)) := KpW.below HBA.out
    clear hHeld HHG HBD
    generalize W1.alloc (.cells (slR s).toArray 58) = W2 at *
    have c0 : W2.cell? ⟨W1.heap.size, 0, none⟩ = some (.int .i64 s.l) := (hN.cell 0).trans rfl
    have c2 : W2.cell? ⟨W1.heap.size, 2, none⟩ = some (.bool s.h) := (hN.cell 2).trans rfl
    have d1 : W2.cell? ⟨w.heap.size + 1, 0, none⟩ = some (.int .i64 a) := (HI3.out.r3.cell 0).trans rfl
    have d7 : W2.cell? ⟨w.heap.size + 1 + 1 + 1, 0, none⟩ = some (.bool false) := (HI3.out.r7.cell 0).trans rfl
    have y7 := HI3.out.r7.frozen 0
    clear hN
    have HKB := Lib.hid hkb
    have HKP := Lib.hid hkp
    clear hkb hkp
    have hsm : FndI w pt a (x.val : Int) true (W2.setCell ⟨w.heap.size + 1 + 1 + 1, 0, none⟩ (.bool true)) :=
      ⟨HI3.out.r2.setOther (k := w.heap.size + 3) (by omega) 0 _, HI3.out.r3.setOther (k := w.heap.size + 3) (by omega) 0 _, HI3.out.r6.setOther (k := w.heap.size + 3) (by omega) 0 _, HI3.out.r7.set 0 _, HI3.out.below.setCell (p := ⟨w.heap.size + 3, 0, none⟩) (by simp) _⟩
    have HSM := Lib.hid hsm
    clear hsm
    show Exit.then _ _ _ _ _
    cases hh : s.h with
    | false =>
      rw [hh] at c2
      gi_wp2
      exact ⟨HKB.out _, rfl, pre, x, false, rfl, HPF.out, ⟨s, HS.out, hh, fun e => by cases e⟩, HI3.out⟩
    | true =>
      rw [hh] at c2
      by_cases he : s.l = a
      · gi_wp2
        exact ⟨(HKB.out _).trans ((KeepsOthers.setCell _ _ _).from _), rfl, pre, x, true, rfl, HPF.out, ⟨s, HS.out, hh, fun _ => he⟩, HSM.out⟩
      · gi_wp2
        refine ⟨HKB.out _, HKP.out, fun y hy => ?_, _, HI3.out⟩
        rcases List.mem_append.1 hy with hy | hy
        · exact HPF.out y hy
        · rw [List.mem_singleton.1 hy]; exact ⟨s, HS.out, hh, he⟩
  case done =>
    rintro D xs W hD hS ⟨hno, z, hi⟩ hK
    subst hS
    exact (fnd_all (by rw [HT.out.len]; exact homeI_lt HT.out.w2 a) hno HF.out).elim
  case stop =>
    rintro D c pre W hD hp2 ⟨rfl, pre0, x, b, rfl, hpf, hx, hi⟩ hK
    have hp3 : FndR wd sl a x.val b := ⟨hx, fnd_way (by rw [HT.out.len]; exact homeI_lt HT.out.w2 a) hp2 hpf⟩
    have c6 : W.cell? ⟨w.heap.size + 1 + 1, 0, none⟩ = some (.int .i64 (x.val : Int)) := (hi.r6.cell 0).trans rfl
    have c7 : W.cell? ⟨w.heap.size + 1 + 1 + 1, 0, none⟩ = some (.bool b) := (hi.r7.cell 0).trans rfl
    have HI2 := Lib.hid hi
    have HR := Lib.hid hp3
    clear hi hp3 hpf hx hp2
    gi_wp2
    gi_region
    gi_wp2
    rw [Exit.noGoto_ret]
    have hK2 : W.drew.heap[D]? = some (.deferred (some [])) := hK
    refine ⟨by simp, .inl ⟨_, _, rfl, run_takeDeferred hK2, ?_⟩⟩
    exact ⟨.tuple #[.int .i64 (x.val : Int), .bool b], by simp [results, Try.results19, go_sem], ⟨x.val, b, rfl, HR.out⟩, (below_up HI2.out.below (Below.refl _ _).drew HI2.out.below.size).trans (belowK_b (w := w) (Nat.le_refl _) _ D _ _ (by omega) hK2 rfl rfl)⟩
end Go.Proofs.Ytoliijajhikhgaa
