/- Package slots: vacate. -/
import Derived.Test.YtoliijajhikhgaaSl6
namespace Go.Proofs.Ytoliijajhikhgaa
open Go Go.RowKit Go.Shelf
attribute [local go_sem] Oper.semAt_some

structure VacI (w : World) (pt : Nat) (hole : Nat) (O : Nat → Prop) (W : World) : Prop where
  r2 : Bx W w.heap.size 24 [.pointer (some ⟨pt, 0, none⟩)]
  r3 : Bx W (w.heap.size + 1) 3 [.int .i64 (hole : Int)]
  kp : KpO O w W
theorem kp_low {O : Nat → Prop} {w X Y : World} (h : KpO O w X) (hb : Below w.heap.size X Y) : KpO O w Y :=
  .of (Nat.le_trans h.size hb.size) (fun k ho hk => (hb.block k hk).trans (h.all k ho hk)) (hb.os.trans h.os) (hb.tape.trans h.tape) (hb.output.trans h.output)
theorem VacI.from {w : World} {pt hole : Nat} {O : Nat → Prop} {B : Nat} (hB : w.heap.size ≤ B) {X Y : World} {row : Option Nat} (h : VacI w pt hole O X) (hg : X.grownBy Y row) (hr : ∀ r, row = some r → B ≤ r ∧ ∃ o : Obj, X.heap[r]? = some o ∧ o.isCells = false) : VacI w pt hole O Y :=
  ⟨bx_from h.r2 hg hr, bx_from h.r3 hg hr, kp_low h.kp ((Below.refl w.heap.size X).grown hg h.kp.size (fun k e => Nat.le_trans hB (hr k e).1))⟩
theorem TbM.from {pt g wd : Nat} {room cnt : Int} {sl : List Slt} {B : Nat} {X Y : World} {row : Option Nat} (h : TbM X pt g wd room cnt sl) (hg : X.grownBy Y row) (hr : ∀ r, row = some r → B ≤ r ∧ ∃ o : Obj, X.heap[r]? = some o ∧ o.isCells = false) : TbM Y pt g wd room cnt sl :=
  ⟨bx_from h.tb hg hr, bx_from h.sb hg hr, h.len, h.w1, h.w2⟩
def HeldV (b pt g N : Nat) (hole : Nat) (W : World) : Prop :=
  W.cell? ⟨b, 0, none⟩ = some (.pointer (some ⟨pt, 0, none⟩)) ∧ W.cell? ⟨b + 1, 0, none⟩ = some (.int .i64 (hole : Int)) ∧ W.cell? ⟨pt, 3, none⟩ = some (.slice (some ⟨g, 0, none⟩) N N)
theorem keeps_setCells {b : Nat} : ∀ (N : List Value) (k : Nat) (W : World), KeepsOthers W (W.setCells b k N)
  | [], _, W => KeepsOthers.refl W
  | v :: vs, k, W => (KeepsOthers.setCell W ⟨b, k, none⟩ v).trans (keeps_setCells vs (k + 1) _)
theorem kpw_setCells {O : Nat → Prop} {b : Nat} (hb : O b) : ∀ (N : List Value) (k : Nat) (W : World), KpW O W (W.setCells b k N)
  | [], _, W => KpW.refl O W
  | v :: vs, k, W => (KpW.set W b k v hb).trans (kpw_setCells hb vs (k + 1) _)
def HeldB (b pt hole xb : Nat) (l : Int) (R : List Value) (W : World) : Prop :=
  W.cell? ⟨b, 0, none⟩ = some (.pointer (some ⟨pt, 0, none⟩)) ∧ W.cell? ⟨b + 1, 0, none⟩ = some (.int .i64 (hole : Int)) ∧ W.cell? ⟨xb, 0, none⟩ = some (.int .i64 l) ∧ Bx W pt 56 R
def HeldS (b pt g N hole xb : Nat) (row : List Value) (W : World) : Prop :=
  W.cell? ⟨b, 0, none⟩ = some (.pointer (some ⟨pt, 0, none⟩)) ∧ W.cell? ⟨b + 1, 0, none⟩ = some (.int .i64 (hole : Int)) ∧ W.cell? ⟨pt, 3, none⟩ = some (.slice (some ⟨g, 0, none⟩) N N) ∧ W.rangeAt xb 0 row
set_option maxRecDepth 100000 in
set_option maxHeartbeats 4000000 in
theorem vacate_any {pt g wd : Nat} {room cnt : Int} {sl : List Slt} {R : List (Int × Int)} (p : Nat) (w : World) (h : TbM w pt g wd room cnt sl) (hp : p < sl.length) (hj : VacJ wd sl.length p R (sl.set p emp) p 0) :
    Calls Try.prog 21 #[.pointer (some ⟨pt, 0, none⟩), .int .i64 (p : Int)] w fun e w' => (∃ v, e = .returned v) ∧ (∃ sl', TbM w' pt g wd room cnt sl' ∧ Opn (homeI wd) sl' ∧ (heldL sl').Perm R) ∧ KpO (fun k => k = g) w w' := by
  have hT := twoB_new w 24 3 [.pointer (some ⟨pt, 0, none⟩)] [.int .i64 (p : Int)]
  have hz : VacI w pt p (fun k => k = g) ((w.alloc (.cells #[.pointer (some ⟨pt, 0, none⟩)] 24)).alloc (.cells #[.int .i64 (p : Int)] 3)) := ⟨hT.1, hT.2.1, KpO.below hT.2.2⟩
  have HZ := Lib.hid hz
  have HM := Lib.hid (h.up hT.2.2)
  have HJ := Lib.hid hj
  have hlow := h.low
  have hptl : pt < w.heap.size := h.tb.lt
  have hgl : g < w.heap.size := h.sb.lt
  have hne := h.ne
  clear h hz hj hT
  have hx1 : (p : Int) < (sl.length : Int) := by omega
  have hx0 : ¬ (p : Int) < 0 := by omega
  refine (callsIn_wide (n := 5)).1 ?_
  refine callsIn_of_wp_marks Try.func21 rfl trivial ?_ rfl
  simp only [Try.ntmps21, List.size_toArray, List.length_cons, List.length_nil, Nat.reduceAdd, Nat.reduceSub, Array.replicate_succ, Array.replicate_zero, List.push_toArray, List.append_toArray, List.nil_append, List.cons_append]
  gi_wp2
  (try (refine wpIn_wide.2 (wp_scope_straight ((wpIn_wide (n := 5)).1 ?_)); gi_wp2))
  generalize (w.alloc (.cells #[.pointer (some ⟨pt, 0, none⟩)] 24)).alloc (.cells #[.int .i64 (p : Int)] 3) = W1 at *
  have hel : ∀ W, VacI w pt p (fun k => k = g) W → TbM W pt g wd room cnt sl → HeldV w.heap.size pt g sl.length p W := fun W h h2 => ⟨by rw [h.r2.cell]; rfl, by rw [h.r3.cell]; rfl, by rw [h2.tb.cell]; rfl⟩
  have HZD := Lib.hid (show VacI w pt p (fun k => k = g) W1.drew from ⟨HZ.out.r2.up (Below.refl _ _).drew, HZ.out.r3.up (Below.refl _ _).drew, HZ.out.kp.trans (KpO.below (Below.refl _ _).drew)⟩)
  have HMD := Lib.hid (HM.out.up (Below.refl _ _).drew)
  refine wpIn_wide.2 ?_
  refine wp_region_noPanic ?_
  refine wp_region_held_drew (S := HeldV w.heap.size pt g sl.length p) (by kernel_rfl) (hel _ HZD.out HMD.out) (fun hHeld => ?_)
  clear HZ HM
  generalize W1.drew = W2 at *
  refine held_take (v := ?v58) 0 rfl (by kernel_rfl) (by kernel_rfl) (by kernel_rfl) (fun _ _ _ h => h) (by rfl) ?y58 (by assumption) ?_
  case y58 => (intro w hSw; unfold HeldV at hSw; go_simp; (try with_reducible rfl); (try omega))
  simp only [List.setIfInBounds_toArray, List.set_cons_zero, List.set_cons_succ]
  refine held_take (v := ?v61) 1 rfl (by kernel_rfl) (by kernel_rfl) (by kernel_rfl) (fun _ _ _ h => h) (by rfl) ?y61 (by assumption) ?_
  case y61 => (intro w hSw; unfold HeldV at hSw; go_simp; (try with_reducible rfl); (try omega))
  simp only [List.setIfInBounds_toArray, List.set_cons_zero, List.set_cons_succ]
  refine held_take (v := ?v64) 2 rfl (by kernel_rfl) (by kernel_rfl) (by kernel_rfl) (fun _ _ _ h => h) (by rfl) ?y64 (by assumption) ?_
  case y64 => (intro w hSw; unfold HeldV at hSw; go_simp; (try with_reducible rfl); (try omega))
  simp only [List.setIfInBounds_toArray, List.set_cons_zero, List.set_cons_succ]
  refine held_take (v := ?v67) 3 rfl (by kernel_rfl) (by kernel_rfl) (by kernel_rfl) (fun _ _ _ h => h) (by rfl) ?y67 (by assumption) ?_
  case y67 => (intro w hSw; unfold HeldV at hSw; go_simp; (try with_reducible rfl); (try omega))
  simp only [List.setIfInBounds_toArray, List.set_cons_zero, List.set_cons_succ]
  refine held_take (v := ?v70) 4 rfl (by kernel_rfl) (by kernel_rfl) (by kernel_rfl) (fun _ _ _ h => h) (by rfl) ?y70 (by assumption) ?_
  case y70 => (intro w hSw; unfold HeldV at hSw; go_simp; (try with_reducible rfl); (try omega))
  simp only [List.setIfInBounds_toArray, List.set_cons_zero, List.set_cons_succ]
  refine held_take (v := ?v73) 5 rfl (by kernel_rfl) (by kernel_rfl) (by kernel_rfl) (fun _ _ _ h => h) (by rfl) ?y73 (by assumption) ?_
  case y73 => (intro w hSw; unfold HeldV at hSw; go_simp; (try with_reducible rfl); (try omega))
  simp only [List.setIfInBounds_toArray, List.set_cons_zero, List.set_cons_succ]
  refine held_take (v := ?v76) 6 rfl (by kernel_rfl) (by kernel_rfl) (by kernel_rfl) (fun _ _ _ h => h) (by rfl) ?y76 (by assumption) ?_
  case y76 => (intro w hSw; unfold HeldV at hSw; go_simp; (try with_reducible rfl); (try omega))
  simp only [List.setIfInBounds_toArray, List.set_cons_zero, List.set_cons_succ]
  have HM2 := Lib.hid (HMD.out.slot hp emp)
  have HZ2 := Lib.hid (show VacI w pt p (fun k => k = g) (W2.setCells g (p * 3) (slR emp)) from ⟨bx_farCells (by omega) _ _ _ HZD.out.r2, bx_farCells (by omega) _ _ _ HZD.out.r3, HZD.out.kp.trans (kpo_setCells (O := fun k => k = g) rfl _ _ _)⟩)
  have hel2 : HeldV w.heap.size pt g sl.length p (W2.setCells g (p * 3) (slR emp)) := ⟨by rw [HZ2.out.r2.cell]; rfl, by rw [HZ2.out.r3.cell]; rfl, by rw [HM2.out.tb.cell]; simp [tbR]⟩
  refine held_none 7 rfl (by kernel_rfl) (by rfl) (fun K hK => ?_)
  refine wp_of_skip (exec_store_midR _ (.tmp 12) (.tmp 11) rfl g (p * 3) (slR emp) rfl rfl (HMD.out.fits hp) sl_info (slR_one _)) ?_
  refine hK.out _ _ hel2 (fun _ => ?_)
  clear hK K
  (try simp only [Act.put])
  refine wpAnyH_done (by kernel_rfl) ?_ _
  refine NoPanic.normal ?_
  clear HZD HMD hHeld hel2 hel
  generalize W2.setCells g (p * 3) (slR emp) = W3 at *
  have c2 : W3.cell? ⟨w.heap.size, 0, none⟩ = some (.pointer (some ⟨pt, 0, none⟩)) := (HZ2.out.r2.cell 0).trans rfl
  have c3 : W3.cell? ⟨w.heap.size + 1, 0, none⟩ = some (.int .i64 (p : Int)) := (HZ2.out.r3.cell 0).trans rfl
  obtain ⟨n1, hn1⟩ : ∃ n1 : Nat, n1 = p + 1 := ⟨_, rfl⟩
  have k1 : IntKind.i64.wrap ((p : Int) + 1) = (n1 : Int) := by rw [hn1]; simp [IntKind.wrap, IntKind.bits, IntKind.signed]; omega
  have HN1 := Lib.hid hn1
  clear hn1
  show Exit.then _ _ _ _ _
  gi_wp2
  refine wpIn_label ?_
  gi_wp2_with (refine ⟨trivial, ?_⟩; refine (places_in _ _ _ _).mono ?_; rintro e w5 ⟨rfl, rfl⟩; refine Hid.out ?_)
  refine Lib.hid ?_
  have hP := twoB_new W3 24 3 [.pointer (some ⟨pt, 0, none⟩)] [.int .i64 (n1 : Int)]
  have hsz2 : w.heap.size + 1 < W3.heap.size := HZ2.out.r3.lt
  have HZ5 := Lib.hid (show VacI w pt p (fun k => k = g) ((W3.alloc (.cells #[.pointer (some ⟨pt, 0, none⟩)] 24)).alloc (.cells #[.int .i64 (n1 : Int)] 3)) from ⟨HZ2.out.r2.up hP.2.2, HZ2.out.r3.up hP.2.2, HZ2.out.kp.trans (KpO.below hP.2.2)⟩)
  have HM5 := Lib.hid (HM2.out.up hP.2.2)
  have hPL : PlZ W3.heap.size (W3.heap.size + 1) pt g wd sl.length room cnt n1 ((W3.alloc (.cells #[.pointer (some ⟨pt, 0, none⟩)] 24)).alloc (.cells #[.int .i64 (n1 : Int)] 3)) := ⟨hP.1, hP.2.1, by have := HM5.out.tb; rwa [List.length_set] at this⟩
  have hsz5 : ((W3.alloc (.cells #[.pointer (some ⟨pt, 0, none⟩)] 24)).alloc (.cells #[.int .i64 (n1 : Int)] 3)).heap.size = W3.heap.size + 2 := by simp
  clear HZ2 HM2 hP c2 c3 k1
  generalize (W3.alloc (.cells #[.pointer (some ⟨pt, 0, none⟩)] 24)).alloc (.cells #[.int .i64 (n1 : Int)] 3) = W0 at *
  gi_wp2
  have hB : w.heap.size ≤ W0.heap.size := by omega
  have hN0 : 0 < sl.length := by omega
  refine wpIn_rangeFunc_ownH (n := 5) rfl (by omega) (gf := 32) (lb := #[.pointer (some ⟨W3.heap.size, 0, none⟩), .pointer (some ⟨W3.heap.size + 1, 0, none⟩)]) rfl trivial (enters_of Try.func32 (by kernel_rfl) rfl)
    (places_stops 4 W3.heap.size (W3.heap.size + 1) pt g wd sl.length room cnt n1 (fun k => k = g ∨ k = w.heap.size + 1) (by have := HM5.out.len; rwa [List.length_set] at this) HM5.out.w2 hN0 (by have := HN1.out; omega) W0 hPL (fun e => by omega) (fun e => by omega) (fun e => by omega))
    (fun h k => h.trans k) (fun W l o o' _ hl hc _ => KpW.put _ W l o o' hl hc) (Below.refl _ _) (fun _ => rfl)
    (fun pre W => ∃ (tl : List Slt) (hole : Nat), VacI w pt hole (fun k => k = g) W ∧ TbM W pt g wd room cnt tl ∧ tl.length = sl.length ∧ hole < sl.length ∧ (pre <+: placesF sl.length hN0 n1 → VacJ wd sl.length p R tl hole pre.length))
    (fun c pre W => c = .exit 0 ∧ ∃ (tl : List Slt) (hole : Nat), VacI w pt hole (fun k => k = g) W ∧ TbM W pt g wd room cnt tl ∧ (pre <+: placesF sl.length hN0 n1 → Opn (homeI wd) tl ∧ (heldL tl).Perm R))
    ?own ?ownx
    ⟨_, p, HZ5.out, HM5.out, List.length_set, hp, fun _ => HJ.out⟩
    (fun x a' W => a' = { tmps := #[.pointer (some ⟨pt, 0, none⟩), .int .i64 (p : Int), .pointer (some ⟨w.heap.size, 0, none⟩), .pointer (some ⟨w.heap.size + 1, 0, none⟩), .int .i64 (x.val : Int), undef, .pointer (some ⟨pt, 0, none⟩), .pointer (some ⟨pt, 0, none⟩), .pointer (some ⟨pt, 3, none⟩), .slice (some ⟨g, 0, none⟩) sl.length sl.length, .int .i64 (p : Int), .agg #[.int .i64 0, .int .i64 0, .bool false], .pointer (some ⟨g, p * 3, none⟩), .pointer (some ⟨pt, 0, none⟩), .int .i64 (p : Int), .int .i64 (n1 : Int), .func (.func 32) #[] #[.pointer (some ⟨W3.heap.size, 0, none⟩), .pointer (some ⟨W3.heap.size + 1, 0, none⟩)], .int .i64 (x.val : Int), undef, undef, undef, undef, undef, undef, undef, undef, undef, undef, undef, undef, undef, undef, undef, undef, undef, undef, undef, undef, undef, undef, undef, undef, undef, undef, undef, undef, undef, undef, undef, undef, undef, undef, undef, undef, undef, undef, undef, undef, undef, undef], defers := [] })
    (fun x a' u X Y row h1 h2 h3 => h1)
    ?assign ?body ?done ?stop
  case own =>
    intro u X Y row h1 hg hr
    obtain ⟨tl, hole, h2, h3, h4, h5, h6⟩ := h1
    exact ⟨tl, hole, h2.from hB hg hr, h3.from hg hr, h4, h5, h6⟩
  case ownx =>
    intro c u X Y row h1 hg hr
    obtain ⟨hc, tl, hole, h2, h3, h4⟩ := h1
    exact ⟨hc, tl, hole, h2.from hB hg hr, h3.from hg hr, h4⟩
  case assign =>
    rintro lp pre x W K hI hK
    gi_wp2
    exact hK _ _ (KeepsFrom.refl _ _) (KpW.refl _ _) hI rfl
  case body =>
    rintro lp pre x a' V0 hl _ ⟨tl, hole, hv, hm, hlen, hhole, hJ⟩ rfl hlt
    obtain ⟨s, hs⟩ : ∃ s, tl[x.val]? = some s := ⟨_, List.getElem?_eq_getElem (by rw [hlen]; exact x.isLt)⟩
    have hbb : Below V0.heap.size V0 (V0.alloc (.cells (slR s).toArray 58)) := (Below.refl _ _).alloc (Nat.le_refl _) _
    have c2 : V0.cell? ⟨w.heap.size, 0, none⟩ = some (.pointer (some ⟨pt, 0, none⟩)) := (hv.r2.cell 0).trans rfl
    have c3 : V0.cell? ⟨pt, 3, none⟩ = some (.slice (some ⟨g, 0, none⟩) sl.length sl.length) := by have h1 := hm.tb; rw [hlen] at h1; exact (h1.cell 3).trans rfl
    have HR := Lib.hid (hm.range x.val s hs)
    have hx1 : (x.val : Int) < (sl.length : Int) := by have := x.isLt; omega
    have hx0 : ¬ (x.val : Int) < 0 := by omega
    have hN : ∀ a, homeI wd a < sl.length := fun a => by rw [← hlen, hm.len]; exact homeI_lt hm.w2 a
    have HN := Lib.hid hN
    have HX := Lib.hid (show ∀ hp2 : (pre ++ [x]) <+: placesF sl.length hN0 n1, VacJ wd sl.length p R tl hole pre.length ∧ x.val = wrp sl.length (p + (pre.length + 1)) from fun hp2 => by
      have h1 := hJ ((List.prefix_append _ _).trans hp2)
      have hp3 := hp2
      rw [HN1.out] at hp3
      exact ⟨h1, (pl_at hp hp3).2.2 h1.lt⟩)
    have hxg : g < V0.heap.size := hm.sb.lt
    have hxw : w.heap.size + 1 < V0.heap.size := hv.r3.lt
    have HV := Lib.hid hv
    have HM := Lib.hid hm
    have HS := Lib.hid hs
    have HL := Lib.hid hlen
    clear hv hm hJ hs hlen hN
    gi_wp2_with (first
      | (refine inV rfl (by intro c h; cases h) rfl (slV s) (exec_load_any _ (.tmp 23) rfl g (x.val * 3) (slR s) _ rfl HR.out Try.underlying58 rfl sl_info) ?_)
      | (refine inS rfl (by intro c h; cases h) rfl (exec_store_fresh _ (.tmp 5) (.tmp 24) rfl (slR s) _ V0.heap.size rfl rfl rfl sl_info rfl (slR_one s)) ?_; refine Hid.out ?_))
    refine Lib.hid ?_
    have hNB := Bx.new V0 58 (slR s)
    have HV2 := Lib.hid (show VacI w pt hole (fun k => k = g) (V0.alloc (.cells (slR s).toArray 58)) from ⟨HV.out.r2.up hbb, HV.out.r3.up hbb, kp_low HV.out.kp (hbb.mono HV.out.kp.size)⟩)
    have HM2 := Lib.hid (HM.out.up hbb)
    have hkb : ∀ B, KeepsFrom B V0 (V0.alloc (.cells (slR s).toArray 58)) := fun B => (KeepsOthers.alloc _ _).from _
    have hkp : KpW (fun k => k = g ∨ k = w.heap.size + 1) V0 (V0.alloc (.cells (slR s).toArray 58)) := KpW.below hbb
    clear HV HM hbb c2 c3 HR
    generalize V0.alloc (.cells (slR s).toArray 58) = W2 at *
    have HB5 := Lib.hid hNB
    have HKB := Lib.hid hkb
    have HKP := Lib.hid hkp
    have d2 : W2.cell? ⟨V0.heap.size, 2, none⟩ = some (.bool s.h) := (hNB.cell 2).trans rfl
    clear hNB hkb hkp
    cases hh : s.h with
    | false =>
      rw [hh] at d2
      gi_wp2
      exact ⟨HKB.out _, rfl, tl, hole, HV2.out, HM2.out, fun hp2 => (HX.out hp2).1.done HN.out (HX.out hp2).2 HS.out hh⟩
    | true =>
      rw [hh] at d2
      gi_wp2
      have hhb : ∀ V, Below W2.heap.size W2 V → HeldB w.heap.size pt hole V0.heap.size s.l (tbR room cnt wd g sl.length) V := fun V hV =>
        ⟨((HV2.out.r2.up hV).cell 0).trans rfl, ((HV2.out.r3.up hV).cell 0).trans rfl, ((HB5.out.up hV).cell 0).trans rfl, by have h1 := HM2.out.tb.up hV; rwa [HL.out] at h1⟩
      refine wpIn_region_round (S := HeldB w.heap.size pt hole V0.heap.size s.l (tbR room cnt wd g sl.length)) (by kernel_rfl) (by kernel_rfl) (fun _ _ h => h) (hhb _ (Below.refl _ _).drew) (fun hHeld => ?_)
      have HBD := Lib.hid (show Below W2.heap.size W2 W2.drew from (Below.refl _ _).drew)
      have HKB3 := Lib.hid (show ∀ B, KeepsFrom B V0 W2.drew from fun B => (HKB.out B).trans ((KeepsOthers.drew W2).from B))
      generalize W2.drew = W3 at *
      obtain ⟨A, hA⟩ : ∃ A, A = dst sl.length (homeI wd s.l) x.val := ⟨_, rfl⟩
      obtain ⟨B, hB9⟩ : ∃ B, B = dst sl.length hole x.val := ⟨_, rfl⟩
      have HW2 := Lib.hid HM2.out.w2
      have HLN := Lib.hid (show sl.length = 2 ^ wd by rw [← HL.out]; exact HM2.out.len)
      obtain ⟨z1, hz1⟩ : ∃ z : Int, z = (x.val : Int) - (homeI wd s.l : Int) := ⟨_, rfl⟩
      obtain ⟨z2, hz2⟩ : ∃ z : Int, z = (x.val : Int) - (hole : Int) := ⟨_, rfl⟩
      have hle := HN.out s.l
      have k1 : IntKind.i64.wrap ((x.val : Int) - (homeI wd s.l : Int)) = z1 := by rw [hz1]; have := x.isLt; simp [IntKind.wrap, IntKind.bits, IntKind.signed]; omega
      have k2 : IntKind.i64.wrap ((x.val : Int) - (hole : Int)) = z2 := by rw [hz2]; have := x.isLt; simp [IntKind.wrap, IntKind.bits, IntKind.signed]; omega
      have m1 : z1 % (sl.length : Int) = (A : Int) := by rw [hz1, hA]; exact turn_dst hle x.isLt
      have m2 : z2 % (sl.length : Int) = (B : Int) := by rw [hz2, hB9]; exact turn_dst hhole x.isLt
      have HT1 := Lib.hid (turn_any z1 W3 hHeld.2.2.2 HLN.out HW2.out)
      have HT2 := Lib.hid (turn_any z2 W3 hHeld.2.2.2 HLN.out HW2.out)
      have HH1 := Lib.hid (home_any s.l W3 hHeld.2.2.2 HW2.out)
      rw [m1] at HT1
      rw [m2] at HT2
      have HA := Lib.hid hA
      have HB9 := Lib.hid hB9
      clear m1 m2 hz1 hz2 hA hB9
      refine held_take (v := ?v207) 0 rfl (by kernel_rfl) (by kernel_rfl) (by kernel_rfl) (fun _ _ _ h => h) (by rfl) ?y207 (by assumption) ?_
      case y207 => (intro w hSw; unfold HeldB at hSw; go_simp; (try with_reducible rfl); (try omega))
      simp only [List.setIfInBounds_toArray, List.set_cons_zero, List.set_cons_succ]
      refine held_take (v := ?v210) 1 rfl (by kernel_rfl) (by kernel_rfl) (by kernel_rfl) (fun _ _ _ h => h) (by rfl) ?y210 (by assumption) ?_
      case y210 => (intro w hSw; unfold HeldB at hSw; go_simp; (try with_reducible rfl); (try omega))
      simp only [List.setIfInBounds_toArray, List.set_cons_zero, List.set_cons_succ]
      refine held_take (v := ?v213) 2 rfl (by kernel_rfl) (by kernel_rfl) (by kernel_rfl) (fun _ _ _ h => h) (by rfl) ?y213 (by assumption) ?_
      case y213 => (intro w hSw; unfold HeldB at hSw; go_simp; (try with_reducible rfl); (try omega))
      simp only [List.setIfInBounds_toArray, List.set_cons_zero, List.set_cons_succ]
      refine held_take (v := ?v216) 3 rfl (by kernel_rfl) (by kernel_rfl) (by kernel_rfl) (fun _ _ _ h => h) (by rfl) ?y216 (by assumption) ?_
      case y216 => (intro w hSw; unfold HeldB at hSw; go_simp; (try with_reducible rfl); (try omega))
      simp only [List.setIfInBounds_toArray, List.set_cons_zero, List.set_cons_succ]
      refine held_take (v := ?v219) 4 rfl (by kernel_rfl) (by kernel_rfl) (by kernel_rfl) (fun _ _ _ h => h) (by rfl) ?y219 (by assumption) ?_
      case y219 => (intro w hSw; unfold HeldB at hSw; go_simp; (try with_reducible rfl); (try omega))
      simp only [List.setIfInBounds_toArray, List.set_cons_zero, List.set_cons_succ]
      refine held_take (v := ?v222) 5 rfl (by kernel_rfl) (by kernel_rfl) (by kernel_rfl) (fun _ _ _ h => h) (by rfl) ?y222 (by assumption) ?_
      case y222 => (intro w hSw; unfold HeldB at hSw; go_simp; (try with_reducible rfl); (try omega))
      simp only [List.setIfInBounds_toArray, List.set_cons_zero, List.set_cons_succ]
      refine held_take (v := ?v225) 9 rfl (by kernel_rfl) (by kernel_rfl) (by kernel_rfl) (fun _ _ _ h => h) (by rfl) ?y225 (by assumption) ?_
      case y225 => (intro w hSw; unfold HeldB at hSw; go_simp; (try with_reducible rfl); (try omega))
      simp only [List.setIfInBounds_toArray, List.set_cons_zero, List.set_cons_succ]
      refine held_take (v := ?v228) 10 rfl (by kernel_rfl) (by kernel_rfl) (by kernel_rfl) (fun _ _ _ h => h) (by rfl) ?y228 (by assumption) ?_
      case y228 => (intro w hSw; unfold HeldB at hSw; go_simp; (try with_reducible rfl); (try omega))
      simp only [List.setIfInBounds_toArray, List.set_cons_zero, List.set_cons_succ]
      refine held_take (v := ?v231) 11 rfl (by kernel_rfl) (by kernel_rfl) (by kernel_rfl) (fun _ _ _ h => h) (by rfl) ?y231 (by assumption) ?_
      case y231 => (intro w hSw; unfold HeldB at hSw; go_simp; (try with_reducible rfl); (try omega))
      simp only [List.setIfInBounds_toArray, List.set_cons_zero, List.set_cons_succ]
      refine held_take (v := .int .i64 z2) 12 rfl (by kernel_rfl) (by kernel_rfl) (by kernel_rfl) (fun _ _ _ h => h) (by rfl) (fun W hSw => (by go_simp)) (by assumption) ?_
      simp only [List.setIfInBounds_toArray, List.set_cons_zero, List.set_cons_succ]
      refine held_one 6 rfl (by kernel_rfl) (by rfl) (fun K hK => ?_)
      go_simp
      refine HH1.out.mono ?_
      rintro e w' ⟨rfl, rfl⟩
      refine hK.out _ _ hHeld (fun _ => ?_)
      (try simp only [Act.put, List.setIfInBounds_toArray, List.set_cons_zero, List.set_cons_succ])
      clear hK K
      refine held_take (v := .int .i64 z1) 7 rfl (by kernel_rfl) (by kernel_rfl) (by kernel_rfl) (fun _ _ _ h => h) (by rfl) (fun W hSw => (by go_simp)) (by assumption) ?_
      simp only [List.setIfInBounds_toArray, List.set_cons_zero, List.set_cons_succ]
      refine held_one 8 rfl (by kernel_rfl) (by rfl) (fun K hK => ?_)
      go_simp
      refine HT1.out.mono ?_
      rintro e w' ⟨rfl, rfl⟩
      refine hK.out _ _ hHeld (fun _ => ?_)
      (try simp only [Act.put, List.setIfInBounds_toArray, List.set_cons_zero, List.set_cons_succ])
      clear hK K
      refine held_one 13 rfl (by kernel_rfl) (by rfl) (fun K hK => ?_)
      go_simp
      refine HT2.out.mono ?_
      rintro e w' ⟨rfl, rfl⟩
      refine hK.out _ _ hHeld (fun _ => ?_)
      (try simp only [Act.put, List.setIfInBounds_toArray, List.set_cons_zero, List.set_cons_succ])
      clear hK K
      refine held_take (v := ?v259) 14 rfl (by kernel_rfl) (by kernel_rfl) (by kernel_rfl) (fun _ _ _ h => h) (by rfl) ?y259 (by assumption) ?_
      case y259 => (intro w hSw; unfold HeldB at hSw; go_simp; (try with_reducible rfl); (try omega))
      simp only [List.setIfInBounds_toArray, List.set_cons_zero, List.set_cons_succ]
      refine held_take (v := ?v262) 15 rfl (by kernel_rfl) (by kernel_rfl) (by kernel_rfl) (fun _ _ _ h => h) (by rfl) ?y262 (by assumption) ?_
      case y262 => (intro w hSw; unfold HeldB at hSw; go_simp; (try with_reducible rfl); (try omega))
      simp only [List.setIfInBounds_toArray, List.set_cons_zero, List.set_cons_succ]
      refine wpAnyH_done (by kernel_rfl) ?_ _
      refine NoPanic.normal ?_
      clear k1 k2 d2 HH1 HT1 HT2
      have HV3 := Lib.hid (show VacI w pt hole (fun k => k = g) W3 from ⟨HV2.out.r2.up HBD.out, HV2.out.r3.up HBD.out, kp_low HV2.out.kp (HBD.out.mono HV2.out.kp.size)⟩)
      have HM3 := Lib.hid (HM2.out.up HBD.out)
      have HB3 := Lib.hid (HB5.out.up HBD.out)
      have HKP3 := Lib.hid (HKP.out.trans (KpW.below HBD.out))
      clear hHeld hhb HV2 HM2 HB5 HKB HKP HBD
      show Exit.then _ _ _ _ _
      by_cases hBA : B ≤ A
      · have g1 : (A : Int) ≥ (B : Int) := by omega
        gi_wp2
        have hxB : g ≠ V0.heap.size := by omega
        have hg2 : g ≠ w.heap.size := by omega
        have hg3 : g ≠ w.heap.size + 1 := by omega
        have hhs : ∀ V (tl' : List Slt), VacI w pt hole (fun k => k = g) V → TbM V pt g wd room cnt tl' → tl'.length = sl.length → Bx V V0.heap.size 58 (slR s) → HeldS w.heap.size pt g sl.length hole V0.heap.size (slR s) V := fun V tl' h1 h2 h3 h4 =>
          ⟨(h1.r2.cell 0).trans rfl, (h1.r3.cell 0).trans rfl, by have h5 := h2.tb; rw [h3] at h5; exact (h5.cell 3).trans rfl, rangeAll h4⟩
        have hD := (Below.refl W3.heap.size W3).drew
        have HV4 := Lib.hid (show VacI w pt hole (fun k => k = g) W3.drew from ⟨HV3.out.r2.up hD, HV3.out.r3.up hD, kp_low HV3.out.kp (hD.mono HV3.out.kp.size)⟩)
        have HM4 := Lib.hid (HM3.out.up hD)
        have HB4 := Lib.hid (HB3.out.up hD)
        have HKB4 := Lib.hid (show ∀ B, KeepsFrom B V0 W3.drew from fun B => (HKB3.out B).trans ((KeepsOthers.drew W3).from B))
        have HKP4 := Lib.hid (HKP3.out.trans (KpW.below hD))
        refine wpIn_region_round (S := HeldS w.heap.size pt g sl.length hole V0.heap.size (slR s)) (by kernel_rfl) (by kernel_rfl) (fun _ _ h => h) (hhs _ _ HV4.out HM4.out HL.out HB4.out) (fun hHeld => ?_)
        generalize W3.drew = W4 at *
        clear HV3 HM3 HB3 HKB3 HKP3 hD
        have hh1 : (hole : Int) < (sl.length : Int) := by omega
        have hh0 : ¬ (hole : Int) < 0 := by omega
        have hhT : hole < tl.length := by rw [HL.out]; exact hhole
        have HM5 := Lib.hid (HM4.out.slot hhT s)
        have HV5 := Lib.hid (show VacI w pt hole (fun k => k = g) (W4.setCells g (hole * 3) (slR s)) from ⟨bx_farCells (Ne.symm hg2) _ _ _ HV4.out.r2, bx_farCells (Ne.symm hg3) _ _ _ HV4.out.r3, HV4.out.kp.trans (kpo_setCells (O := fun k => k = g) rfl _ _ _)⟩)
        have HB5 := Lib.hid (bx_farCells (Ne.symm hxB) (slR s) (hole * 3) _ HB4.out)
        have hl5 : (tl.set hole s).length = sl.length := by rw [List.length_set, HL.out]
        have hxT : x.val < (tl.set hole s).length := by rw [hl5]; exact x.isLt
        have HM6 := Lib.hid (HM5.out.slot hxT emp)
        have hl6 : ((tl.set hole s).set x.val emp).length = sl.length := by rw [List.length_set, hl5]
        have HV6 := Lib.hid (show VacI w pt hole (fun k => k = g) ((W4.setCells g (hole * 3) (slR s)).setCells g (x.val * 3) (slR emp)) from ⟨bx_farCells (Ne.symm hg2) _ _ _ HV5.out.r2, bx_farCells (Ne.symm hg3) _ _ _ HV5.out.r3, HV5.out.kp.trans (kpo_setCells (O := fun k => k = g) rfl _ _ _)⟩)
        have HB6 := Lib.hid (bx_farCells (Ne.symm hxB) (slR emp) (x.val * 3) _ HB5.out)
        have HKB6 := Lib.hid (show ∀ B, KeepsFrom B V0 ((W4.setCells g (hole * 3) (slR s)).setCells g (x.val * 3) (slR emp)) from fun B => ((HKB4.out B).trans ((keeps_setCells _ _ _).from B)).trans ((keeps_setCells _ _ _).from B))
        have HKP6 := Lib.hid ((HKP4.out.trans (kpw_setCells (O := fun k => k = g ∨ k = w.heap.size + 1) (.inl rfl) (slR s) (hole * 3) _)).trans (kpw_setCells (O := fun k => k = g ∨ k = w.heap.size + 1) (.inl rfl) (slR emp) (x.val * 3) _))
        refine held_take (v := ?v305) 0 rfl (by kernel_rfl) (by kernel_rfl) (by kernel_rfl) (fun _ _ _ h => h) (by rfl) ?y305 (by assumption) ?_
        case y305 => (intro w hSw; unfold HeldS at hSw; go_simp; (try with_reducible rfl); (try omega))
        simp only [List.setIfInBounds_toArray, List.set_cons_zero, List.set_cons_succ]
        refine held_take (v := ?v308) 1 rfl (by kernel_rfl) (by kernel_rfl) (by kernel_rfl) (fun _ _ _ h => h) (by rfl) ?y308 (by assumption) ?_
        case y308 => (intro w hSw; unfold HeldS at hSw; go_simp; (try with_reducible rfl); (try omega))
        simp only [List.setIfInBounds_toArray, List.set_cons_zero, List.set_cons_succ]
        refine held_take (v := ?v311) 2 rfl (by kernel_rfl) (by kernel_rfl) (by kernel_rfl) (fun _ _ _ h => h) (by rfl) ?y311 (by assumption) ?_
        case y311 => (intro w hSw; unfold HeldS at hSw; go_simp; (try with_reducible rfl); (try omega))
        simp only [List.setIfInBounds_toArray, List.set_cons_zero, List.set_cons_succ]
        refine held_take (v := ?v314) 3 rfl (by kernel_rfl) (by kernel_rfl) (by kernel_rfl) (fun _ _ _ h => h) (by rfl) ?y314 (by assumption) ?_
        case y314 => (intro w hSw; unfold HeldS at hSw; go_simp; (try with_reducible rfl); (try omega))
        simp only [List.setIfInBounds_toArray, List.set_cons_zero, List.set_cons_succ]
        refine held_take (v := ?v317) 4 rfl (by kernel_rfl) (by kernel_rfl) (by kernel_rfl) (fun _ _ _ h => h) (by rfl) ?y317 (by assumption) ?_
        case y317 => (intro w hSw; unfold HeldS at hSw; go_simp; (try with_reducible rfl); (try omega))
        simp only [List.setIfInBounds_toArray, List.set_cons_zero, List.set_cons_succ]
        refine held_take (v := ?v320) 5 rfl (by kernel_rfl) (by kernel_rfl) (by kernel_rfl) (fun _ _ _ h => h) (by rfl) ?y320 (by assumption) ?_
        case y320 => (intro w hSw; unfold HeldS at hSw; go_simp; (try with_reducible rfl); (try omega))
        simp only [List.setIfInBounds_toArray, List.set_cons_zero, List.set_cons_succ]
        refine held_take (v := ?v323) 6 rfl (by kernel_rfl) (by kernel_rfl) (by kernel_rfl) (fun _ _ _ h => h) (by rfl) ?y323 (by assumption) ?_
        case y323 => (intro w hSw; unfold HeldS at hSw; go_simp; (try with_reducible rfl); (try omega))
        simp only [List.setIfInBounds_toArray, List.set_cons_zero, List.set_cons_succ]
        refine held_take (v := ?v326) 7 rfl (by kernel_rfl) (by kernel_rfl) (by kernel_rfl) (fun _ _ _ h => h) (by rfl) ?y326 (by assumption) ?_
        case y326 => (intro w hSw; unfold HeldS at hSw; go_simp; (try with_reducible rfl); (try omega))
        simp only [List.setIfInBounds_toArray, List.set_cons_zero, List.set_cons_succ]
        refine held_take (v := ?v329) 8 rfl (by kernel_rfl) (by kernel_rfl) (by kernel_rfl) (fun _ _ _ h => h) (by rfl) ?y329 (by assumption) ?_
        case y329 => (intro w hSw; unfold HeldS at hSw; go_simp; (try with_reducible rfl); (try omega))
        simp only [List.setIfInBounds_toArray, List.set_cons_zero, List.set_cons_succ]
        refine held_take (v := ?v332) 9 rfl (by kernel_rfl) (by kernel_rfl) (by kernel_rfl) (fun _ _ _ h => h) (by rfl) ?y332 (by assumption) ?_
        case y332 => (intro w hSw; unfold HeldS at hSw; go_simp; (try with_reducible rfl); (try omega))
        simp only [List.setIfInBounds_toArray, List.set_cons_zero, List.set_cons_succ]
        refine held_take (v := slV s) 10 rfl (by kernel_rfl) (by kernel_rfl) (by kernel_rfl) (fun _ _ _ h => h) (by rfl) (fun W hSw => exec_load_any _ (.tmp 5) rfl V0.heap.size 0 (slR s) _ rfl hSw.2.2.2 Try.underlying58 rfl sl_info) (by assumption) ?_
        simp only [List.setIfInBounds_toArray, List.set_cons_zero, List.set_cons_succ]
        refine held_take (v := ?v337) 11 rfl (by kernel_rfl) (by kernel_rfl) (by kernel_rfl) (fun _ _ _ h => h) (by rfl) ?y337 (by assumption) ?_
        case y337 => (intro w hSw; unfold HeldS at hSw; go_simp; (try with_reducible rfl); (try omega))
        simp only [List.setIfInBounds_toArray, List.set_cons_zero, List.set_cons_succ]
        refine held_take (v := ?v340) 12 rfl (by kernel_rfl) (by kernel_rfl) (by kernel_rfl) (fun _ _ _ h => h) (by rfl) ?y340 (by assumption) ?_
        case y340 => (intro w hSw; unfold HeldS at hSw; go_simp; (try with_reducible rfl); (try omega))
        simp only [List.setIfInBounds_toArray, List.set_cons_zero, List.set_cons_succ]
        refine held_none 13 rfl (by kernel_rfl) (by rfl) (fun K hK => ?_)
        refine wp_of_skip (exec_store_midR _ (.tmp 57) (.tmp 55) rfl g (hole * 3) (slR s) rfl rfl (HM4.out.fits hhT) sl_info (slR_one _)) ?_
        refine hK.out _ _ (hhs _ _ HV5.out HM5.out hl5 HB5.out) (fun _ => ?_)
        clear hK K
        (try simp only [Act.put])
        refine held_take (v := ?v348) 14 rfl (by kernel_rfl) (by kernel_rfl) (by kernel_rfl) (fun _ _ _ h => h) (by rfl) ?y348 (by assumption) ?_
        case y348 => (intro w hSw; unfold HeldS at hSw; go_simp; (try with_reducible rfl); (try omega))
        simp only [List.setIfInBounds_toArray, List.set_cons_zero, List.set_cons_succ]
        refine held_none 15 rfl (by kernel_rfl) (by rfl) (fun K hK => ?_)
        refine wp_of_skip (exec_store_midR _ (.tmp 58) (.tmp 56) rfl g (x.val * 3) (slR emp) rfl rfl (HM5.out.fits hxT) sl_info (slR_one _)) ?_
        refine hK.out _ _ (hhs _ _ HV6.out HM6.out hl6 HB6.out) (fun _ => ?_)
        clear hK K
        (try simp only [Act.put])
        refine wpAnyH_done (by kernel_rfl) ?_ _
        refine NoPanic.normal ?_
        clear hHeld hhs HV4 HM4 HB4 HKB4 HKP4 HV5 HM5 HB5 HB6
        generalize (W4.setCells g (hole * 3) (slR s)).setCells g (x.val * 3) (slR emp) = W6 at *
        have e3 : W6.cell? ⟨w.heap.size + 1, 0, none⟩ = some (.int .i64 (hole : Int)) := (HV6.out.r3.cell 0).trans rfl
        have y3 := HV6.out.r3.frozen 0
        have HL6 := Lib.hid hl6
        have HBA := Lib.hid hBA
        clear hl6 hl5 hxT hhT hh1 hh0 hBA
        show Exit.then _ _ _ _ _
        gi_wp2
        refine ⟨(HKB6.out _).trans ((KeepsOthers.setCell _ _ _).from _), HKP6.out.trans (KpW.set W6 (w.heap.size + 1) 0 _ (.inr rfl)), _, x.val, ?_, ⟨HM6.out.tb.setOther (k := w.heap.size + 1) (by omega) 0 _, HM6.out.sb.setOther (k := w.heap.size + 1) (by omega) 0 _, HM6.out.len, HM6.out.w1, HM6.out.w2⟩, HL6.out, x.isLt, fun hp2 => ?_⟩
        · exact ⟨HV6.out.r2.setOther (k := w.heap.size + 1) (by omega) 0 _, HV6.out.r3.set 0 _, kp_low HV6.out.kp ((Below.refl w.heap.size W6).setCell (p := ⟨w.heap.size + 1, 0, none⟩) (by simp) _)⟩
        · rw [List.length_append]
          exact (HX.out hp2).1.move HN.out (HX.out hp2).2 HS.out hh (by rw [← HA.out, ← HB9.out]; exact HBA.out)
      · have g1 : ¬ (A : Int) ≥ (B : Int) := by omega
        gi_wp2
        refine ⟨HKB3.out _, HKP3.out, tl, hole, HV3.out, HM3.out, HL.out, hhole, fun hp2 => ?_⟩
        rw [List.length_append]
        exact (HX.out hp2).1.skip HN.out (HX.out hp2).2 HS.out hh (by rw [← HA.out, ← HB9.out]; omega)
  case done =>
    rintro D xs W hD hS ⟨tl, hole, _, _, _, _, hj2⟩ hK
    subst hS
    have h1 := (hj2 (List.prefix_refl _)).lt
    rw [placesF_len] at h1
    omega
  case stop =>
    rintro D c pre W hD hp2 ⟨rfl, tl, hole, hv, hm, ho⟩ hK
    have HV := Lib.hid hv
    have HM := Lib.hid hm
    have HO := Lib.hid (ho hp2)
    clear hv hm ho hp2
    gi_wp2
    show bodyPostM Fence.wide 5 _ _ _ Exit.normal _ _
    refine ⟨by simp, .inl ⟨_, _, rfl, run_takeDeferred hK, ?_⟩⟩
    have hb := belowK_b (w := w) (Nat.le_refl _) W D _ (.deferred none) (by omega) hK rfl rfl
    exact ⟨_, results_none rfl _ _ _, ⟨_, rfl⟩, ⟨tl, HM.out.from (B := w.heap.size) (grownBy_putObj' _ D (.deferred none)) (fun r e => by cases e; exact ⟨by omega, _, hK, rfl⟩), HO.out.1, HO.out.2⟩, kp_low HV.out.kp hb⟩
end Go.Proofs.Ytoliijajhikhgaa
