/- The document's space: a block that goes. -/
import Derived.Test.YtgelbeglffjdaaaRqJ
namespace Go.Proofs.Ytgelbeglffjdaaa
open Go Go.RowKit Go.Shelf
attribute [local go_sem] Oper.semAt_some

/-- blocks as they were, or in a row that is new -/
def NewK (w w' : World) (vl v' : Value) : Prop := v' = vl ∨ ∀ k, v'.ownBlock = some k → w.heap.size ≤ k ∧ k < w'.heap.size
theorem owned_lt {w : World} {base : Nat} {e : TypeId} {size : Nat} {v : Value} {n : Nat} {xs : List Value} (h : w.ownsRow base e size v n xs) : ∀ k, v.ownBlock = some k → k < w.heap.size := by
  rcases h.2 with ⟨rfl, rfl⟩ | ⟨g, cap, cur, rfl, _, hg, _⟩
  · intro k hk; cases hk
  · intro k hk; cases hk; exact (Array.getElem?_eq_some_iff.1 hg).1
theorem delB_at {s : Spn} {o : Int} : ∀ {l : List Blk} {j : Nat} {x : Blk}, l[j]? = some x → x.s = s → x.o = o → (∀ i y, i < j → l[i]? = some y → ¬ (y.s = s ∧ y.o = o)) → delB s o l = some (l.take j ++ l.drop (j + 1))
  | [], j, x, h, _, _, _ => by cases h
  | y :: l, 0, x, h, e1, e2, _ => by
    cases h
    unfold delB
    rw [if_pos (by rw [Bool.and_eq_true, eqSp_iff, decide_eq_true_iff]; exact ⟨e1, e2⟩)]
    rfl
  | y :: l, j + 1, x, h, e1, e2, hn => by
    unfold delB
    rw [if_neg (by rw [Bool.and_eq_true, eqSp_iff, decide_eq_true_iff]; exact hn 0 y (by omega) rfl), delB_at (l := l) (j := j) (x := x) h e1 e2 (fun i z hi hz => hn (i + 1) z (by omega) hz)]
    rfl
theorem delB_out {s : Spn} {o : Int} {l : List Blk} (hn : ∀ (i : Nat) (y : Blk), l[i]? = some y → ¬ (y.s = s ∧ y.o = o)) : delB s o l = none :=
  delB_none (fun y hy e1 e2 => by
    obtain ⟨i, hi, rfl⟩ := List.getElem_of_mem hy
    exact hn i _ (List.getElem?_eq_getElem hi) ⟨e1, e2⟩)
/-- the space's box, the span's and the result's, all new -/
structure FreQ (w : World) (t : SpS) (vl : Value) (q : Spn) (W : World) : Prop where
  s : Bx W w.heap.size 31 (rqR t vl)
  p : Bx W (w.heap.size + 1) 27 (sR q)
  r : Bx W (w.heap.size + 1 + 1) 31 (rqR ⟨⟨0, 0⟩, ⟨0, 0⟩, []⟩ (.slice none 0 0))
  below : Below w.heap.size w W
theorem FreQ.up {w : World} {t : SpS} {vl : Value} {s : Spn} {W W' : World} (h : FreQ w t vl s W) (hb : Below W.heap.size W W') : FreQ w t vl s W' := ⟨h.s.up hb, h.p.up hb, h.r.up hb, below_up h.below hb h.below.size⟩
theorem freQ_new (w : World) (t : SpS) (vl : Value) (s : Spn) : FreQ w t vl s (((w.alloc (.cells (rqR t vl).toArray 31)).alloc (.cells (sR s).toArray 27)).alloc (.cells (rqR ⟨⟨0, 0⟩, ⟨0, 0⟩, []⟩ (.slice none 0 0)).toArray 31)) := by
  have al : ∀ (W : World) (o : Obj), Below W.heap.size W (W.alloc o) := fun W o => (Below.refl _ _).alloc (Nat.le_refl _) _
  have h1 := Bx.new w 31 (rqR t vl)
  have h2 := Bx.new (w.alloc (.cells (rqR t vl).toArray 31)) 27 (sR s)
  have h3 := Bx.new ((w.alloc (.cells (rqR t vl).toArray 31)).alloc (.cells (sR s).toArray 27)) 31 (rqR ⟨⟨0, 0⟩, ⟨0, 0⟩, []⟩ (.slice none 0 0))
  have s1 : (w.alloc (.cells (rqR t vl).toArray 31)).heap.size = w.heap.size + 1 := by simp
  have s2 : ((w.alloc (.cells (rqR t vl).toArray 31)).alloc (.cells (sR s).toArray 27)).heap.size = w.heap.size + 1 + 1 := by simp
  rw [s1] at h2
  rw [s2] at h3
  have b1 := al w (.cells (rqR t vl).toArray 31)
  have b2 := al (w.alloc (.cells (rqR t vl).toArray 31)) (.cells (sR s).toArray 27)
  have b3 := al ((w.alloc (.cells (rqR t vl).toArray 31)).alloc (.cells (sR s).toArray 27)) (.cells (rqR ⟨⟨0, 0⟩, ⟨0, 0⟩, []⟩ (.slice none 0 0)).toArray 31)
  exact ⟨(h1.up b2).up b3, h2.up b3, h3, below_up (below_up b1 b2 b1.size) b3 (Nat.le_trans b1.size b2.size)⟩
/-- a row put into the result's box is the result -/
theorem freQ_end {w W : World} {t T : SpS} {vl vT : Value} {s : Spn} (h : FreQ w t vl s W) : ∃ WZ, W.setRow (w.heap.size + 1 + 1) (rqR T vT).toArray = WZ ∧ Below w.heap.size w WZ ∧ Bx WZ (w.heap.size + 1 + 1) 31 (rqR T vT) ∧ KpO (fun k => k = w.heap.size + 1 + 1) W WZ :=
  ⟨_, rfl, below_row h.below (show w.heap.size ≤ w.heap.size + 1 + 1 by omega) (rqR T vT).toArray, h.r.row (rqR T vT), kp_row _ _ _ rfl⟩
theorem cell_kO {O : Nat → Prop} {W W' : World} (hk : KpO O W W') {b i : Nat} {v : Value} (h1 : ¬ O b) (h : W.cell? ⟨b, i, none⟩ = some v) : W'.cell? ⟨b, i, none⟩ = some v := by
  unfold World.cell? at h ⊢
  cases ho : W.heap[b]? with
  | none => rw [ho] at h; cases h
  | some o =>
    rw [ho] at h
    cases o with
    | cells c t z => rw [hk.2 b c t z h1 ho]; exact h
    | _ => cases h
theorem IsC.kpO {α : Type} {f : α → List Value} {c : Nat} {O : Nat → Prop} {w w' : World} {v : Value} {l : List α} (h : IsC f c w v l) (hk : KpO O w w') (ho : ∀ k, v.ownBlock = some k → ¬ O k) : IsC f c w' v l := by
  obtain ⟨h0, a, cap, h1, h2, h3, h4⟩ := h
  refine ⟨h0, a, cap, h1, h2, h3, fun hp => ?_⟩
  obtain ⟨b, k, e1, e2, e3⟩ := h4 hp
  exact ⟨b, k, e1, Nat.lt_of_lt_of_le e2 hk.1, fun j u hj => cell_kO hk (ho b (by rw [h1, e1]; rfl)) (e3 j u hj)⟩
theorem exec_sl_lZ {P : Program} {ρ : Operand → Value} {o : Oper} {w : World} (t : TypeId) (x lo : Operand) (ho : o.op = .slice t x (some lo) none none) (ht : P.underlying t = some (.slice (P.elem t))) (c : Nat) (hz : ∀ w, (sizeOf (P.elem t)).run P w = .ok c w)
    (a : Option Addr) (n cap l : Nat) (z : Int) (hx : ρ x = .slice a n cap) (hl : ρ lo = .int .i64 z) (ez : z = (l : Int)) (h1 : l ≤ n) : (execOp ρ o).run P w = .ok (.value (.slice (if cap = l then a else a.map (·.add (l * c))) (n - l) (cap - l))) w := by
  subst ez
  exact exec_sl_lA t x lo ho ht c hz a n cap l hx hl h1
set_option maxRecDepth 100000 in
set_option maxHeartbeats 4000000 in
theorem rfree_any (t : SpS) (vl : Value) (o : Int) (s : Spn) (w : World) (hln1 : t.l.length ≤ 1000) (hkl : IsK w vl t.l) :
    Calls Try.prog 45 #[rqV t vl, .int .i64 o, sV s] w fun e w' => ∃ v', e = .returned (.tuple #[rqV (t.free o s).1 v', .int .i64 (t.free o s).2]) ∧ IsK w' v' (t.free o s).1.l ∧ NewK w w' vl v' ∧ Below w.heap.size w w' := by
  have mixed : Try.prog.follows .mixedOrders = true := by kernel_rfl
  have HK := Lib.hid hkl
  obtain ⟨ab, cb, hvb, hcb⟩ := hkl.form
  subst hvb
  have HQ := Lib.hid (freQ_new w t (.slice ab t.l.length cb) s)
  rw [show rqV t (.slice ab t.l.length cb) = .agg (rqR t (.slice ab t.l.length cb)).toArray from rfl, show sV s = .agg (sR s).toArray from rfl]
  rw [show (rqR ⟨⟨0, 0⟩, ⟨0, 0⟩, []⟩ (.slice none 0 0)).toArray = #[.int .i64 0, .int .i64 0, .int .i64 0, .int .i64 0, .int .i64 0, .int .i64 0, .slice none 0 0] from rfl] at HQ
  have HFR := Lib.hid (show t.free o s = (match delB s o t.l with | none => (t, 31) | some l => (⟨t.a1, t.a2, l⟩, 0)) from rfl)
  go_enter Try.func45, Try.ntmps45
  go_wp2
  clear hkl
  generalize (((w.alloc (.cells (rqR t (.slice ab t.l.length cb)).toArray 31)).alloc (.cells (sR s).toArray 27)).alloc (.cells #[.int .i64 0, .int .i64 0, .int .i64 0, .int .i64 0, .int .i64 0, .int .i64 0, .slice none 0 0] 31)) = w1 at *
  go_loopw [8] (fun i wr => ∃ j : Nat, j ≤ t.l.length ∧ i = .int .i64 (j : Int) ∧ Hid (∀ i y, i < j → t.l[i]? = some y → ¬ (y.s = s ∧ y.o = o)) ∧ Hid (Below w1.heap.size w1 wr)) (fun i _ => t.l.length - (intOf i).toNat)
  case atStart => exact ⟨0, Nat.zero_le _, rfl, Lib.hid (fun i x h => by omega), Lib.hid (Below.refl _ _)⟩
  case round =>
    obtain ⟨j, hj, rfl, HNO, HBW⟩ := hrel
    have HQJ := Lib.hid (HQ.out.up HBW.out)
    have c6 : wr.cell? ⟨w.heap.size, 6, none⟩ = some (.slice ab t.l.length cb) := by rw [HQJ.out.s.cell]; rfl
    have p0 : wr.cell? ⟨w.heap.size + 1, 0, none⟩ = some (.int .i64 s.f) := by rw [HQJ.out.p.cell]; rfl
    have p1 : wr.cell? ⟨w.heap.size + 1, 1, none⟩ = some (.int .i64 s.l) := by rw [HQJ.out.p.cell]; rfl
    have HBD := Lib.hid (below_up HBW.out (Below.refl _ _).drew HBW.out.size)
    by_cases hlt : j < t.l.length
    · have hlti : (j : Int) < (t.l.length : Int) := by omega
      have h0k : (0 : Int) ≤ (j : Int) := by omega
      obtain ⟨x, hx⟩ : ∃ x, t.l[j]? = some x := ⟨t.l[j], List.getElem?_eq_getElem hlt⟩
      obtain ⟨bb, bo, rfl, hbb⟩ : ∃ bb bo, ab = some ⟨bb, bo, none⟩ ∧ bb < w.heap.size := by
        obtain ⟨_, _, _, h4⟩ := HK.out.shape
        obtain ⟨b, o, e1, e2, _⟩ := h4 (by omega)
        exact ⟨b, o, e1, e2⟩
      have hrg := IsK.range (HK.out.below HQJ.out.below) j x hx
      have y0 : wr.cell? ⟨bb, bo + j * 4, none⟩ = some (.int .i64 x.s.f) := hrg 0 _ rfl
      have y1 : wr.cell? ⟨bb, bo + j * 4 + 1, none⟩ = some (.int .i64 x.s.l) := hrg 1 _ rfl
      have y2 : wr.cell? ⟨bb, bo + j * 4 + 2, none⟩ = some (.int .i64 x.o) := hrg 2 _ rfl
      have HX := Lib.hid hx
      clear hrg
      by_cases hm : x.s = s ∧ x.o = o
      · obtain ⟨hm1, hm2⟩ := hm
        have HDE := Lib.hid (delB_at hx hm1 hm2 HNO.out)
        rw [show x.s.f = s.f by rw [hm1]] at y0
        rw [show x.s.l = s.l by rw [hm1]] at y1
        rw [hm2] at y2
        clear hx hm1 hm2
        go_wp2
        go_region
        have hQz := HQ.out.up HBD.out
        generalize wr.drew = wz at *
        have HFE := Lib.hid (show t.free o s = (⟨t.a1, t.a2, t.l.take j ++ t.l.drop (j + 1)⟩, 0) by rw [HFR.out, HDE.out])
        obtain ⟨ti, hti, htz, hts, htb⟩ := info_parts refb_info
        have c6z : wz.cell? ⟨w.heap.size, 6, none⟩ = some (.slice (some ⟨bb, bo, none⟩) t.l.length cb) := by rw [hQz.s.cell]; rfl
        have HF := Lib.hid (IsK.front (HK.out.below hQz.below) hj)
        have HO0 := Lib.hid (World.ownsRow_nil wz w.heap.size 100 4)
        have hjc : j ≤ cb := Nat.le_trans hj (IsC.shape HK.out).2.1
        have HQZ := Lib.hid hQz
        have hwz := hQz.below.size
        have htl : (t.l.take j).length = j := by rw [List.length_take]; omega
        have HTL := Lib.hid htl
        clear hQz htl
        go_wp2_with (first
          | (refine plV rfl (.slice (some ⟨bb, bo, none⟩) j cb) (exec_sl_hA 29 (.tmp 37) (.tmp 38) rfl Try.underlying29 4 refb_size (some ⟨bb, bo, none⟩) t.l.length cb j rfl rfl hjc) ?_)
          | (at_builtin; refine append_flat rfl (.tmp 35) (.tmp 39) 29 rfl w.heap.size 100 ti (bV ⟨⟨0, 0⟩, 0, 0⟩) 32 Try.underlying29 hti htz hts htb rfl (by decide) (by decide) _ 0 [] rfl HO0.out _ _ _ (t.l.take j) rfl HF.out (fun y _ => bR_one y) (by have := HTL.out; omega) hwz ?_; intro v2 w2 hown2 hgr2; refine Hid.out ?_))
        refine Lib.hid ?_
        rw [Nat.zero_add, List.nil_append, HTL.out] at hown2
        have hb2 : Below wz.heap.size wz w2 := (Below.refl wz.heap.size wz).grown hgr2 (Nat.le_refl _) (fun k e => by cases e)
        have HQ9 := Lib.hid (HQZ.out.up hb2)
        have hb9 : Below w.heap.size w w2 := HQ9.out.below
        have c69 : w2.cell? ⟨w.heap.size, 6, none⟩ = some (.slice (some ⟨bb, bo, none⟩) t.l.length cb) := by rw [HQ9.out.s.cell]; rfl
        have hj1 : j + 1 ≤ t.l.length := hlt
        have HBK := Lib.hid (IsK.back (HK.out.below hb9) hj1)
        have HO9 := Lib.hid hown2
        have HB9 := Lib.hid hb9
        have hw9 := hb9.size
        obtain ⟨sv, hsv⟩ : ∃ sv : Option Addr, sv = (if cb = j + 1 then (some ⟨bb, bo, none⟩ : Option Addr) else (some ⟨bb, bo, none⟩ : Option Addr).map (·.add ((j + 1) * 4))) := ⟨_, rfl⟩
        have HSV := Lib.hid hsv
        rw [← hsv] at HBK
        have k1 : IntKind.i64.wrap ((j : Int) + 1) = (j : Int) + 1 := by simp [IntKind.wrap, IntKind.bits, IntKind.signed]; omega
        have HNK := Lib.hid hln1
        clear hown2 hgr2 hb2 hsv c6z HF HO0 hln1
        go_wp2_with (first
          | (refine plV rfl (.slice sv (t.l.length - (j + 1)) (cb - (j + 1))) (by rw [HSV.out]; exact exec_sl_lZ 29 (.tmp 43) (.tmp 45) rfl Try.underlying29 4 refb_size (some ⟨bb, bo, none⟩) t.l.length cb (j + 1) ((j : Int) + 1) rfl rfl (by omega) hj1) ?_)
          | (at_builtin; refine append_flat rfl (.tmp 41) (.tmp 46) 29 rfl w.heap.size 100 ti (bV ⟨⟨0, 0⟩, 0, 0⟩) 32 Try.underlying29 hti htz hts htb rfl (by decide) (by decide) _ _ _ rfl HO9.out _ _ _ (t.l.drop (j + 1)) rfl HBK.out (fun y _ => bR_one y) (by have := HNK.out; have := HTL.out; rw [List.length_drop]; omega) hw9 ?_; intro v10 w10 hown hgr; refine Hid.out ?_))
        refine Lib.hid ?_
        have hb10 : Below w.heap.size w w10 := HB9.out.grown hgr hw9 (fun k e => owned_low HO9.out k e)
        have HS10 := Lib.hid (HQ9.out.s.kp (kp_grown hgr) (fun e => bx_apart HO9.out HQ9.out.s (by decide) e))
        have HP10 := Lib.hid (HQ9.out.p.kp (kp_grown hgr) (fun e => bx_apart HO9.out HQ9.out.p (by decide) e))
        have HR10 := Lib.hid (HQ9.out.r.kp (kp_grown hgr) (fun e => bx_apart HO9.out HQ9.out.r (by decide) e))
        obtain ⟨L, hL⟩ : ∃ L, L = t.l.take j ++ t.l.drop (j + 1) := ⟨_, rfl⟩
        have hcells : L.length = j + (t.l.drop (j + 1)).length ∧ (t.l.take j).flatMap bR ++ (t.l.drop (j + 1)).flatMap bR = L.flatMap bR := by
          rw [hL]
          constructor
          · have := HTL.out; simp only [List.length_append]; omega
          · rw [List.flatMap_append]
        rw [← hcells.1, hcells.2] at hown
        have HFL := Lib.hid (show t.free o s = (⟨t.a1, t.a2, L⟩, 0) by rw [HFE.out, hL])
        obtain ⟨a10, c10, rfl⟩ : ∃ a10 c10, v10 = .slice a10 L.length c10 := by
          rcases hown.2 with ⟨h1, h2⟩ | ⟨g, cap, cur, h1, _⟩
          · exact ⟨none, 0, by rw [h1, h2]⟩
          · exact ⟨_, cap, h1⟩
        have HO10 := Lib.hid hown
        have z6 : w10.cell? ⟨w.heap.size, 6, none⟩ = some (.slice (some ⟨bb, bo, none⟩) t.l.length cb) := by rw [HS10.out.cell]; rfl
        have zf6 := HS10.out.frozen 6
        have HS11 := (show Bx (w10.setCell ⟨w.heap.size, 6, none⟩ (.slice a10 L.length c10)) w.heap.size 31 (rqR (⟨t.a1, t.a2, L⟩ : SpS) (.slice a10 L.length c10)) from HS10.out.set 6 _)
        have hKp : KpO (fun k => k = w.heap.size) w10 (w10.setCell ⟨w.heap.size, 6, none⟩ (.slice a10 L.length c10)) := KpO.set w10 w.heap.size 6 _ rfl
        have HO11 := Lib.hid (own_kp HO10.out hKp (fun k e1 e2 => bx_apart HO10.out HS10.out (by decide) (e2 ▸ e1)))
        have HQ11 := Lib.hid (show FreQ w (⟨t.a1, t.a2, L⟩ : SpS) (.slice a10 L.length c10) s (w10.setCell ⟨w.heap.size, 6, none⟩ (.slice a10 L.length c10)) from ⟨HS11, HP10.out.kp hKp (by omega), HR10.out.kp hKp (by omega), hb10.setCell (p := ⟨w.heap.size, 6, none⟩) (Nat.le_refl _) (.slice a10 L.length c10)⟩)
        clear hown hgr hb10 hcells hKp c69 hL HS11
        go_wp2_with (refine plS rfl (exec_store_hdrR (.tmp 49) (.tmp 48) rfl ⟨w.heap.size, 6, none⟩ a10 _ c10 _ rfl rfl z6 zf6) ?_; refine Hid.out ?_)
        refine Lib.hid ?_
        clear z6 zf6
        generalize w10.setCell ⟨w.heap.size, 6, none⟩ (.slice a10 L.length c10) = w11 at *
        have HFIN := Lib.hid (fun W (hk : KpO (fun k => k = w.heap.size + 1 + 1) w11 W) (hb : Below w.heap.size w W) => show (∃ v', Ending.returned (.tuple #[rqV (⟨t.a1, t.a2, L⟩ : SpS) (.slice a10 L.length c10), .int .i64 0]) = .returned (.tuple #[rqV (t.free o s).1 v', .int .i64 (t.free o s).2]) ∧ IsK W v' (t.free o s).1.l ∧ NewK w W (.slice (some ⟨bb, bo, none⟩) t.l.length cb) v' ∧ Below w.heap.size w W) by
          rw [HFL.out]
          have hO := own_kp HO11.out hk (fun k e1 e2 => bx_apart HO11.out HQ11.out.r (by decide) (e2 ▸ e1))
          exact ⟨_, rfl, IsC.of_owned (bR_all _) hO, .inr (fun k e => ⟨owned_low HO11.out k e, owned_lt hO k e⟩), hb⟩)
        have hsr := rangeAll HQ11.out.s
        go_wp2_with (first
          | (refine plV rfl (rqV (⟨t.a1, t.a2, L⟩ : SpS) (.slice a10 L.length c10)) (exec_load_any 31 (.tmp 3) rfl w.heap.size 0 (rqR (⟨t.a1, t.a2, L⟩ : SpS) (.slice a10 L.length c10)) _ rfl hsr Try.underlying31 rfl refs_info) ?_)
          | (refine plS rfl (exec_store_bxK _ (.tmp 6) (.tmp 50) rfl (w.heap.size + 1 + 1) (rqR (⟨t.a1, t.a2, L⟩ : SpS) (.slice a10 L.length c10)) _ rfl rfl HQ11.out.r refs_info rfl (rqR_one _ _ rfl)) ?_))
        obtain ⟨WZ, hwz, hbz, hxz, hkz⟩ := freQ_end (T := (⟨t.a1, t.a2, L⟩ : SpS)) (vT := (.slice a10 L.length c10)) HQ11.out
        rw [hwz]
        have u0 : WZ.cell? ⟨w.heap.size + 1 + 1, 0, none⟩ = some (.int .i64 0) := by rw [hxz.cell]; rfl
        have u1 : WZ.cell? ⟨w.heap.size + 1 + 1, 1, none⟩ = some (.int .i64 0) := by rw [hxz.cell]; rfl
        have u2 : WZ.cell? ⟨w.heap.size + 1 + 1, 2, none⟩ = some (.int .i64 (⟨t.a1, t.a2, L⟩ : SpS).a1.f) := by rw [hxz.cell]; rfl
        have u3 : WZ.cell? ⟨w.heap.size + 1 + 1, 3, none⟩ = some (.int .i64 (⟨t.a1, t.a2, L⟩ : SpS).a1.l) := by rw [hxz.cell]; rfl
        have u4 : WZ.cell? ⟨w.heap.size + 1 + 1, 4, none⟩ = some (.int .i64 (⟨t.a1, t.a2, L⟩ : SpS).a2.f) := by rw [hxz.cell]; rfl
        have u5 : WZ.cell? ⟨w.heap.size + 1 + 1, 5, none⟩ = some (.int .i64 (⟨t.a1, t.a2, L⟩ : SpS).a2.l) := by rw [hxz.cell]; rfl
        have u6 : WZ.cell? ⟨w.heap.size + 1 + 1, 6, none⟩ = some ((.slice a10 L.length c10)) := by rw [hxz.cell]; rfl
        exact bodyPost_ret (v := .tuple #[rqV (⟨t.a1, t.a2, L⟩ : SpS) (.slice a10 L.length c10), .int .i64 0]) (by simp [results, Try.results45, go_sem, rqV, rqR, u0, u1, u2, u3, u4, u5, u6]) rfl (HFIN.out _ hkz hbz)
      · have HNN := Lib.hid (show ∀ i y, i < j + 1 → t.l[i]? = some y → ¬ (y.s = s ∧ y.o = o) from fun i y hi hy => by
          rcases Nat.lt_or_ge i j with h | h
          · exact HNO.out i y h hy
          · obtain rfl : i = j := by omega
            have h9 := HX.out
            rw [hy] at h9
            cases h9
            exact hm)
        have hne : ¬ (x.s.f = s.f ∧ x.s.l = s.l ∧ x.o = o) := fun h1 => hm ⟨by
          obtain ⟨f1, l1⟩ : x.s.f = s.f ∧ x.s.l = s.l := ⟨h1.1, h1.2.1⟩
          cases hbs : x.s; cases hss : s; rw [hbs, hss] at f1 l1; simp only at f1 l1; rw [f1, l1], h1.2.2⟩
        clear hx hm
        by_cases q1 : x.s.f = s.f
        · by_cases q2 : x.s.l = s.l
          · have q3 : ¬ x.o = o := fun h => hne ⟨q1, q2, h⟩
            clear hne
            go_wp2
            go_region
            go_wp2
            go_roundw
            case rel => exact ⟨j + 1, by omega, rfl, HNN, HBD⟩
            case measure => simp only [intOf]; omega
          · clear hne
            go_wp2
            go_region
            go_wp2
            go_roundw
            case rel => exact ⟨j + 1, by omega, rfl, HNN, HBD⟩
            case measure => simp only [intOf]; omega
        · clear hne
          go_wp2
          go_region
          go_wp2
          go_roundw
          case rel => exact ⟨j + 1, by omega, rfl, HNN, HBD⟩
          case measure => simp only [intOf]; omega
    · have hlti : ¬ ((j : Int) < (t.l.length : Int)) := by omega
      have HFN := Lib.hid (show t.free o s = (t, 31) by
        rw [HFR.out, delB_out (fun i y hy => HNO.out i y (by have := (List.getElem?_eq_some_iff.1 hy).1; omega) hy)])
      have HFIN := Lib.hid (fun W (hb : Below w.heap.size w W) => show (∃ v', Ending.returned (.tuple #[rqV t (.slice ab t.l.length cb), .int .i64 31]) = .returned (.tuple #[rqV (t.free o s).1 v', .int .i64 (t.free o s).2]) ∧ IsK W v' (t.free o s).1.l ∧ NewK w W (.slice ab t.l.length cb) v' ∧ Below w.heap.size w W) by
        rw [HFN.out]
        exact ⟨_, rfl, HK.out.below hb, .inl rfl, hb⟩)
      have hsr := rangeAll HQJ.out.s
      go_wp2_with (first
        | (refine plV rfl (rqV t (.slice ab t.l.length cb)) (exec_load_any 31 (.tmp 3) rfl w.heap.size 0 (rqR t (.slice ab t.l.length cb)) _ rfl hsr Try.underlying31 rfl refs_info) ?_)
        | (refine plS rfl (exec_store_bxK _ (.tmp 6) (.tmp 51) rfl (w.heap.size + 1 + 1) (rqR t (.slice ab t.l.length cb)) _ rfl rfl HQJ.out.r refs_info rfl (rqR_one _ _ rfl)) ?_))
      obtain ⟨WZ, hwz, hbz, hxz, hkz⟩ := freQ_end (T := t) (vT := (.slice ab t.l.length cb)) HQJ.out
      rw [hwz]
      have u0 : WZ.cell? ⟨w.heap.size + 1 + 1, 0, none⟩ = some (.int .i64 0) := by rw [hxz.cell]; rfl
      have u1 : WZ.cell? ⟨w.heap.size + 1 + 1, 1, none⟩ = some (.int .i64 0) := by rw [hxz.cell]; rfl
      have u2 : WZ.cell? ⟨w.heap.size + 1 + 1, 2, none⟩ = some (.int .i64 t.a1.f) := by rw [hxz.cell]; rfl
      have u3 : WZ.cell? ⟨w.heap.size + 1 + 1, 3, none⟩ = some (.int .i64 t.a1.l) := by rw [hxz.cell]; rfl
      have u4 : WZ.cell? ⟨w.heap.size + 1 + 1, 4, none⟩ = some (.int .i64 t.a2.f) := by rw [hxz.cell]; rfl
      have u5 : WZ.cell? ⟨w.heap.size + 1 + 1, 5, none⟩ = some (.int .i64 t.a2.l) := by rw [hxz.cell]; rfl
      have u6 : WZ.cell? ⟨w.heap.size + 1 + 1, 6, none⟩ = some ((.slice ab t.l.length cb)) := by rw [hxz.cell]; rfl
      exact bodyPost_ret (v := .tuple #[rqV t (.slice ab t.l.length cb), .int .i64 31]) (by simp [results, Try.results45, go_sem, rqV, rqR, u0, u1, u2, u3, u4, u5, u6]) rfl (HFIN.out _ hbz)
end Go.Proofs.Ytgelbeglffjdaaa
