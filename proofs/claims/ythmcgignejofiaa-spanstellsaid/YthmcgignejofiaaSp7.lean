/- Package spans: Meets. -/
import Derived.Test.YthmcgignejofiaaSp4
namespace Go.Proofs.Ythmcgignejofiaa
open Go Go.RowKit Go.Shelf
attribute [local go_sem] Oper.semAt_some

/-- Between two rounds of Meets' loop, and where one has returned. -/
structure MeetI (w : World) (s : Spn) (b : Bool) (W : World) : Prop where
  r3 : Bx W w.heap.size 24 (sR s)
  r4 : Bx W (w.heap.size + 1) 4 [.bool b]
  below : Below w.heap.size w W
theorem MeetI.from {w : World} {s : Spn} {b : Bool} {B : Nat} (hB : w.heap.size ≤ B) {X Y : World} {row : Option Nat} (h : MeetI w s b X) (hg : X.grownBy Y row) (hr : ∀ r, row = some r → B ≤ r ∧ ∃ o : Obj, X.heap[r]? = some o ∧ o.isCells = false) : MeetI w s b Y :=
  ⟨bx_from h.r3 hg hr, bx_from h.r4 hg hr, ownFrom_below (β := Unit) (Nat.le_refl _) hB () X Y row h.below hg hr⟩
theorem MeetI.up {w : World} {s : Spn} {b : Bool} {W W' : World} (h : MeetI w s b W) (hb : Below W.heap.size W W') : MeetI w s b W' := ⟨h.r3.up hb, h.r4.up hb, below_up h.below hb h.below.size⟩
def metB (s x : Spn) : Bool := decide (x.f ≤ s.l ∧ s.f ≤ x.l)
def meetIx (w : World) (s : Spn) (c : Code) (pre : List Spn) (W : World) : Prop := c = .ret ∧ ∃ pre0 x, pre = pre0 ++ [x] ∧ metB s x = true ∧ MeetI w s true W
set_option maxRecDepth 100000 in
set_option maxHeartbeats 4000000 in
theorem smeet_any (v : Value) (l : List Spn) (s : Spn) (w : World) (h : IsS w v l) (hN : l.length ≤ 100000) :
    Calls Try.prog 20 #[v, sV s] w fun e w' => e = .returned (.bool (meetS l s)) ∧ Below w.heap.size w w' := by
  obtain ⟨a, c, rfl, hc⟩ := h.form
  have HM := Lib.hid (fun W => may_any s W)
  have hz : MeetI w s false ((w.alloc (.cells (sR s).toArray 24)).alloc (.cells #[.bool false] 4)) := by
    have h2 := twoB_new w 24 4 (sR s) [.bool false]
    exact ⟨h2.1, h2.2.1, h2.2.2⟩
  have HZ := Lib.hid hz
  have HI := Lib.hid h
  have HS := Lib.hid (show meetS l s = (mayB s && (normS l).any fun x => decide (x.f ≤ s.l ∧ s.f ≤ x.l)) from rfl)
  rw [show sV s = .agg (sR s).toArray from rfl]
  have c0 : (sR s)[0]? = some (.int .i64 s.f) := rfl
  have c1 : (sR s)[1]? = some (.int .i64 s.l) := rfl
  have hrz := rangeAll hz.r3
  have d0 := rng0 hrz
  have d1 := rng1 hrz
  clear h hz hrz
  cases hm : mayB s with
  | false =>
    rw [hm] at HM
    rw [HS.out, hm, Bool.false_and]
    clear HS
    go_enter Try.func20, Try.ntmps20
    go_wp2_with (go_at_call 30; refine (HM.out _).mono ?_; rintro e w1 ⟨rfl, b1⟩; refine Hid.out ?_)
    refine Lib.hid ?_
    have z1 := HZ.out.up b1
    have g1 : w1.cell? ⟨w.heap.size + 1, 0, none⟩ = some (.bool false) := by rw [z1.r4.cell]; rfl
    have y1 := z1.r4.frozen 0
    have HB1 := Lib.hid (z1.below.setCell (p := ⟨w.heap.size + 1, 0, none⟩) (by simp) (.bool false))
    have HQ := Lib.hid (z1.r4.set 0 (.bool false))
    clear b1 z1 HZ
    go_wp2
    generalize w1.setCell ⟨w.heap.size + 1, 0, none⟩ (.bool false) = WZ at HB1 HQ ⊢
    have q0 : WZ.cell? ⟨w.heap.size + 1, 0, none⟩ = some (.bool false) := by rw [HQ.out.cell]; rfl
    exact bodyPost_ret (v := .bool false) (by simp [results, Try.results20, go_sem, q0]) rfl ⟨rfl, HB1.out⟩
  | true =>
    rw [hm] at HM
    have hsm : mayS s := (mayB_iff s).1 hm
    rw [HS.out, hm, Bool.true_and, ← meet_good hsm]
    obtain ⟨r, hr⟩ : ∃ r, ((l.filter mayB).any fun x => decide (x.f ≤ s.l ∧ s.f ≤ x.l)) = r := ⟨_, rfl⟩
    rw [hr]
    have HR := Lib.hid (show (goodS l).any (metB s) = r from hr)
    clear HS hr hsm hm
    refine (callsIn_wide (n := 5)).1 ?_
    refine callsIn_of_wp_marks Try.func20 rfl trivial ?_ rfl
    simp only [Try.ntmps20, List.size_toArray, List.length_cons, List.length_nil, Nat.reduceAdd, Nat.reduceSub, Array.replicate_succ, Array.replicate_zero, List.push_toArray, List.append_toArray, List.nil_append, List.cons_append]
    gi_wp2_with (refine ⟨trivial, ?_⟩; refine (callsIn_wide.2 (HM.out _)).mono ?_; rintro e w1 ⟨rfl, b1⟩; refine Hid.out ?_)
    refine Lib.hid ?_
    have z1 := HZ.out.up b1
    have i1 := HI.out.below z1.below
    have hsz1 : w.heap.size + 1 < w1.heap.size := z1.r4.lt
    clear HZ b1 d0 d1
    gi_wp2_with (refine ⟨trivial, ?_⟩; refine (rows_in _ _ _ _ _).mono ?_; rintro e w5 ⟨rfl, rfl⟩; refine Hid.out ?_)
    refine Lib.hid ?_
    have hb5 : Below w1.heap.size w1 (w1.alloc (.cells #[.slice a l.length c] 22)) := (Below.refl _ _).alloc (Nat.le_refl _) _
    have z2 := z1.up hb5
    have hBl := Bx.new w1 22 [.slice a l.length c]
    have hIs : IsD w.heap.size (w1.alloc (.cells #[.slice a l.length c] 22)) (.slice a l.length c) l := (HI.out.isD (Nat.le_refl _)).up z2.below
    have hsz5 : (w1.alloc (.cells #[.slice a l.length c] 22)).heap.size = w1.heap.size + 1 := by simp
    clear z1 hb5 i1
    generalize w1.alloc (.cells #[.slice a l.length c] 22) = W0 at *
    gi_wp2
    refine wpIn_rangeFunc_ownH (n := 5) rfl (by omega) (gf := 38) (lb := #[.pointer (some ⟨w1.heap.size, 0, none⟩)]) rfl trivial (enters_of Try.func38 (by kernel_rfl) rfl)
      (rows_stops 4 w1.heap.size w.heap.size (fun k => k = w.heap.size) (.slice a l.length c) l (by omega) W0 hIs hBl (fun k e => by omega))
      (fun h k => h.trans k) (fun W l o o' _ hl hc _ => KpR.put W l o o' hl hc) (Below.refl _ _) (fun _ => rfl)
      (fun pre W => (∀ y ∈ pre, metB s y = false) ∧ MeetI w s false W) (meetIx w s)
      (fun u X Y row h1 h2 h3 => ⟨h1.1, MeetI.from (by omega) h1.2 h2 h3⟩)
      (fun c u X Y row h1 h2 h3 => by obtain ⟨e, pre0, x, e1, e2, e4⟩ := h1; exact ⟨e, pre0, x, e1, e2, MeetI.from (by omega) e4 h2 h3⟩)
      ⟨(fun _ h => (by cases h)), z2⟩
      (fun x a' W => ∃ B5, w.heap.size + 1 < B5 ∧ Bx W B5 24 (sR x) ∧ a' = { tmps := #[.slice a l.length c, .agg (sR s).toArray, undef, .pointer (some ⟨w.heap.size, 0, none⟩), .pointer (some ⟨w.heap.size + 1, 0, none⟩), .pointer (some ⟨B5, 0, none⟩), sV s, .bool true, .bool false, .slice a l.length c, .func (.func 38) #[] #[.pointer (some ⟨w1.heap.size, 0, none⟩)], sV x, undef, undef, undef, undef, undef, undef, undef, undef, undef, undef, undef, undef], defers := [] })
      (fun x a' u X Y row h1 h2 h3 => by obtain ⟨B5, e1, e2, e3⟩ := h1; exact ⟨B5, e1, bx_from e2 h2 h3, e3⟩)
      ?assign ?body ?done ?stop
    case assign =>
      rintro lp pre x W K ⟨hno, hi⟩ hK
      have hbb : Below W.heap.size W (W.alloc (.cells (sR x).toArray 24)) := (Below.refl _ _).alloc (Nat.le_refl _) _
      gi_wp2_with (refine inS rfl (by intro c h; cases h) rfl (exec_store_fresh _ (.tmp 5) (.tmp 11) rfl (sR x) _ W.heap.size rfl rfl rfl sp_info rfl (sR_one x)) ?_; refine Hid.out ?_)
      refine Lib.hid ?_
      gi_wp2
      exact hK _ _ ((KeepsOthers.alloc _ _).from _) (KpR.below hbb) ⟨hno, hi.up hbb⟩ ⟨W.heap.size, hi.r4.lt, Bx.new W _ _, rfl⟩
    case body =>
      rintro lp pre x a' W hl _ ⟨hno, hi⟩ ⟨B5, hB5, hx5, rfl⟩ hlt
      have hrx := rangeAll hx5
      have x0 := rng0 hrx
      have x1 := rng1 hrx
      have hrs := rangeAll hi.r3
      have s0 := rng0 hrs
      have s1 := rng1 hrs
      have HI2 := Lib.hid hi
      have g1 : W.cell? ⟨w.heap.size + 1, 0, none⟩ = some (.bool false) := by rw [hi.r4.cell]; rfl
      have y1 := hi.r4.frozen 0
      have HNO := Lib.hid hno
      clear hi hrx hrs hx5 hno
      simp only [Nat.zero_add] at x1 s1
      cases hq : metB s x with
      | true =>
        have hq2 := of_decide_eq_true hq
        obtain ⟨hq3, hq4⟩ := hq2
        gi_wp2
        have g3 := HI2.out.r3.setOther (k := w.heap.size + 1) (by omega) 0 (.bool true)
        have g4 := HI2.out.r4.set 0 (.bool true)
        exact ⟨(KeepsOthers.setCell _ _ _).from _, rfl, pre, x, rfl, hq, g3, g4, HI2.out.below.setCell (p := ⟨w.heap.size + 1, 0, none⟩) (by simp) _⟩
      | false =>
        have hq2 := of_decide_eq_false hq
        have hfin : (∀ B, KeepsFrom B W W) ∧ KpR w.heap.size (fun k => k = w.heap.size) W W ∧ (∀ y ∈ pre ++ [x], metB s y = false) ∧ MeetI w s false W := ⟨fun _ => KeepsFrom.refl _ _, KpR.refl _, fun y hy => by
          rcases List.mem_append.1 hy with hy | hy
          · exact HNO.out y hy
          · rw [List.mem_singleton.1 hy]; exact hq, HI2.out⟩
        have HFIN := Lib.hid hfin
        clear hfin
        by_cases hq3 : x.f ≤ s.l
        · have hq4 : ¬ s.f ≤ x.l := fun h => hq2 ⟨hq3, h⟩
          clear hq2 hq
          gi_wp2
          exact ⟨HFIN.out.1 _, HFIN.out.2⟩
        · clear hq2 hq
          gi_wp2
          exact ⟨HFIN.out.1 _, HFIN.out.2⟩
    case done =>
      rintro D xs W hD hS ⟨hno, hi⟩ hK
      have hg : r = false := by
        rw [← HR.out, ← hS, Bool.eq_false_iff]
        intro h2
        obtain ⟨y, hy, h3⟩ := List.any_eq_true.1 h2
        rw [hno y hy] at h3
        cases h3
      have g1 : W.cell? ⟨w.heap.size + 1, 0, none⟩ = some (.bool false) := by rw [hi.r4.cell]; rfl
      have y1 := hi.r4.frozen 0
      have HI2 := Lib.hid hi
      clear hi
      gi_wp2
      have g4 := HI2.out.r4.set 0 (.bool false)
      have gb := HI2.out.below.setCell (p := ⟨w.heap.size + 1, 0, none⟩) (by simp) (.bool false)
      have hK2 := (KeepsOthers.setCell W ⟨w.heap.size + 1, 0, none⟩ (.bool false)).same D _ hK rfl
      refine ⟨by simp, .inl ⟨_, _, rfl, run_takeDeferred hK2, ?_⟩⟩
      have e1 := cell_kept ((g4.cell 0).trans rfl) (grownBy_putObj' _ D (.deferred none)) (fun r e => by cases e; exact ⟨_, hK2, rfl⟩)
      exact ⟨.bool false, by simp [results, Try.results20, go_sem, e1], by rw [hg], gb.trans (belowK_b (w := w) (Nat.le_refl _) _ D _ _ (by omega) hK2 rfl rfl)⟩
    case stop =>
      rintro D c pre W hD hp2 ⟨rfl, pre0, x, rfl, hx, hi⟩ hK
      have hg : r = true := by
        rw [← HR.out]
        obtain ⟨tl, htl⟩ := hp2
        rw [← htl]
        simp [hx]
      have HI2 := Lib.hid hi
      clear hi
      gi_wp2
      refine ⟨by simp, .inl ⟨_, _, rfl, run_takeDeferred hK, ?_⟩⟩
      have e1 := cell_kept ((HI2.out.r4.cell 0).trans rfl) (grownBy_putObj' _ D (.deferred none)) (fun r e => by cases e; exact ⟨_, hK, rfl⟩)
      exact ⟨.bool true, by simp [results, Try.results20, go_sem, e1], by rw [hg], HI2.out.below.trans (belowK_b (w := w) (Nat.le_refl _) _ D _ _ (by omega) hK rfl rfl)⟩
end Go.Proofs.Ythmcgignejofiaa
