/- The document's space: a space with one more block. -/
import Derived.Test.YtgelbeglffjdaaaRqI
import Derived.Test.YtgelbeglffjdaaaRegX
import Derived.Deep.AppendLies
namespace Go.Proofs.Ytgelbeglffjdaaa
open Go Go.RowKit Go.Shelf
attribute [local go_sem] Oper.semAt_some

theorem putB_at {b : Blk} : ∀ {l : List Blk} {k : Nat}, k ≤ l.length → (∀ i x, i < k → l[i]? = some x → x.s.f < b.s.f) → (∀ x, l[k]? = some x → ¬ x.s.f < b.s.f) → putB b l = l.take k ++ b :: l.drop k
  | [], k, hk, _, _ => by
    obtain rfl : k = 0 := by simpa using hk
    rfl
  | x :: l, 0, _, _, h2 => by
    show (if x.s.f < b.s.f then x :: putB b l else b :: x :: l) = _
    rw [if_neg (h2 x rfl)]
    rfl
  | x :: l, k + 1, hk, h1, h2 => by
    show (if x.s.f < b.s.f then x :: putB b l else b :: x :: l) = _
    rw [if_pos (h1 0 x (by omega) rfl), putB_at (k := k) (by simpa using hk) (fun i y hi hy => h1 (i + 1) y (by omega) hy) (fun y hy => h2 y hy)]
    rfl
theorem refb_info : (Try.prog.info? 100).map (fun i => (i.zero, i.size, i.bytes)) = some (some (bV ⟨⟨0, 0⟩, 0, 0⟩), 4, 32) := by kernel_rfl
theorem refs_info : (Try.prog.info? 31).map (·.size) = some 7 := by kernel_rfl
theorem rqR_one (t : SpS) (vl : Value) (hv : vl.oneCell' = true) : ∀ v ∈ rqR t vl, v.oneCell' = true := by
  intro v h
  simp only [rqR, List.mem_cons, List.not_mem_nil, or_false] at h
  rcases h with rfl | rfl | rfl | rfl | rfl | rfl | rfl <;> first | rfl | exact hv
theorem exec_sl_hA {P : Program} {ρ : Operand → Value} {o : Oper} {w : World} (t : TypeId) (x hi : Operand) (ho : o.op = .slice t x none (some hi) none) (ht : P.underlying t = some (.slice (P.elem t))) (c : Nat) (hz : ∀ w, (sizeOf (P.elem t)).run P w = .ok c w)
    (a : Option Addr) (n cap h : Nat) (hx : ρ x = .slice a n cap) (hh : ρ hi = .int .i64 (h : Int)) (h2 : h ≤ cap) : (execOp ρ o).run P w = .ok (.value (.slice a h cap)) w := by
  unfold execOp
  have h9 := run_slice_h w t a n cap ht .i64 (h : Int) (by omega) (by omega)
  rw [hz] at h9
  simp only [Result.andThen_ok, sliced, Int.toNat_natCast] at h9
  simp only [ho, hx, hh, Option.map_some, Option.map_none, run_sliceAt_slice _ _ _ _ _ _ ht, h9, Sem.run_bind, Sem.run_pure, Result.andThen_ok]
  cases a <;> simp [Addr.add]
theorem exec_sl_lA {P : Program} {ρ : Operand → Value} {o : Oper} {w : World} (t : TypeId) (x lo : Operand) (ho : o.op = .slice t x (some lo) none none) (ht : P.underlying t = some (.slice (P.elem t))) (c : Nat) (hz : ∀ w, (sizeOf (P.elem t)).run P w = .ok c w)
    (a : Option Addr) (n cap l : Nat) (hx : ρ x = .slice a n cap) (hl : ρ lo = .int .i64 (l : Int)) (h1 : l ≤ n) : (execOp ρ o).run P w = .ok (.value (.slice (if cap = l then a else a.map (·.add (l * c))) (n - l) (cap - l))) w := by
  unfold execOp
  have h9 := run_slice_l w t a n cap ht .i64 (l : Int) (by omega) (by omega)
  rw [hz] at h9
  simp only [Result.andThen_ok, sliced, Int.toNat_natCast] at h9
  simp only [ho, hx, hl, Option.map_some, Option.map_none, run_sliceAt_slice _ _ _ _ _ _ ht, h9, Sem.run_bind, Sem.run_pure, Result.andThen_ok]
theorem IsK.front {w : World} {a : Option Addr} {n cap : Nat} {l : List Blk} (h : IsK w (.slice a n cap) l) {j : Nat} (hj : j ≤ l.length) : IsK w (.slice a j cap) (l.take j) := by
  obtain ⟨rfl, h1, h2, h3⟩ := h.shape
  have hl : (l.take j).length = j := by rw [List.length_take]; omega
  refine ⟨bR_all _, _, _, by rw [hl], by omega, h2, fun hp => ?_⟩
  obtain ⟨b, k, rfl, hlt, hc⟩ := h3 (by omega)
  refine ⟨b, k, rfl, hlt, fun q v hq => hc q v ?_⟩
  have h4 : l.flatMap bR = (l.take j).flatMap bR ++ (l.drop j).flatMap bR := by rw [← List.flatMap_append, List.take_append_drop]
  rw [h4, List.getElem?_append_left (List.getElem?_eq_some_iff.1 hq).1]
  exact hq
theorem IsK.back {w : World} {a : Option Addr} {n cap : Nat} {l : List Blk} (h : IsK w (.slice a n cap) l) {j : Nat} (hj : j ≤ l.length) : IsK w (.slice (if cap = j then a else a.map (·.add (j * 4))) (n - j) (cap - j)) (l.drop j) := by
  obtain ⟨rfl, h1, h2, h3⟩ := h.shape
  refine ⟨bR_all _, _, _, by rw [List.length_drop], by rw [List.length_drop]; omega, by omega, fun hp => ?_⟩
  rw [List.length_drop] at hp
  obtain ⟨b, k, rfl, hlt, hc⟩ := h3 (by omega)
  rw [if_neg (by omega)]
  refine ⟨b, k + j * 4, by simp [Addr.add_lit], hlt, fun q v hq => ?_⟩
  have hA : ((l.take j).flatMap bR).length = j * 4 := by rw [cflat_length (l.take j) (bR_all _), List.length_take, Nat.min_eq_left hj]
  have h4 : l.flatMap bR = (l.take j).flatMap bR ++ (l.drop j).flatMap bR := by rw [← List.flatMap_append, List.take_append_drop]
  have h5 : (l.flatMap bR)[j * 4 + q]? = some v := by
    rw [h4, List.getElem?_append_right (by omega), hA, show j * 4 + q - j * 4 = q by omega]
    exact hq
  have := hc _ _ h5
  rwa [← Nat.add_assoc] at this
theorem refb_size (w : World) : (sizeOf 100).run Try.prog w = .ok 4 w := by go_simp
theorem exec_one_refb {ρ : Operand → Value} {o : Oper} {w : World} (x : Operand) (ho : o.op = .buildSlice 29 1 #[(0, x)]) (s : Blk) (hx : ρ x = bV s) (b : Nat) (hb : w.heap.size = b) :
    (execOp ρ o).run Try.prog w = .ok (.value (.slice (some ⟨b, 0, none⟩) 1 1)) (w.alloc (.cells (bR s).toArray 100)) := by
  subst hb
  obtain ⟨i, hi, hz, hs, _⟩ := info_parts refb_info
  have := run_buildSlice (P := Try.prog) w 29 100 1 #[(0, bV s)] (bR s).toArray i (bV ⟨⟨0, 0⟩, 0, 0⟩) Try.underlying29 hi hz (by rw [hs]; decide) (by rw [hs]; decide) (by rw [hs]; exact fill_one 4 (bR s) rfl _ (by simp))
  unfold execOp
  simp only [ho, List.map_toArray, List.map_cons, List.map_nil, hx, Sem.run_bind, this, Result.andThen_ok, Sem.run_pure]
theorem refb_sz : (Try.prog.info? 100).map (·.size) = some 4 := by kernel_rfl
theorem exec_store_hdrR {ρ : Operand → Value} {o : Oper} {w : World} (x y : Operand) (ho : o.op = .store 29 x y) (p : Addr) (a : Option Addr) (n c : Nat) (u : Value) (hx : ρ x = .pointer (some p)) (hy : ρ y = .slice a n c) (hc : w.cell? p = some u) (hf : w.frozen? p = false) :
    (execOp ρ o).run Try.prog w = .ok .skip (w.setCell p (.slice a n c)) := by
  unfold execOp
  simp only [ho, hx, hy]
  go_simp
/-- The boxes of put. -/
structure PutQ (w : World) (t : SpS) (vl : Value) (b : Blk) (W : World) : Prop where
  s : Bx W w.heap.size 31 (rqR t vl)
  b : Bx W (w.heap.size + 1) 100 (bR b)
  r : Bx W (w.heap.size + 1 + 1) 31 (rqR ⟨⟨0, 0⟩, ⟨0, 0⟩, []⟩ (.slice none 0 0))
  below : Below w.heap.size w W
theorem PutQ.up {w : World} {t : SpS} {vl : Value} {b : Blk} {W W' : World} (h : PutQ w t vl b W) (hb : Below W.heap.size W W') : PutQ w t vl b W' := ⟨h.s.up hb, h.b.up hb, h.r.up hb, below_up h.below hb h.below.size⟩
theorem putQ_new (w : World) (t : SpS) (vl : Value) (b : Blk) : PutQ w t vl b (((w.alloc (.cells (rqR t vl).toArray 31)).alloc (.cells (bR b).toArray 100)).alloc (.cells (rqR ⟨⟨0, 0⟩, ⟨0, 0⟩, []⟩ (.slice none 0 0)).toArray 31)) := by
  have al : ∀ (W : World) (o : Obj), Below W.heap.size W (W.alloc o) := fun W o => (Below.refl _ _).alloc (Nat.le_refl _) _
  have h1 := Bx.new w 31 (rqR t vl)
  have h2 := Bx.new (w.alloc (.cells (rqR t vl).toArray 31)) 100 (bR b)
  have h3 := Bx.new ((w.alloc (.cells (rqR t vl).toArray 31)).alloc (.cells (bR b).toArray 100)) 31 (rqR ⟨⟨0, 0⟩, ⟨0, 0⟩, []⟩ (.slice none 0 0))
  have s1 : (w.alloc (.cells (rqR t vl).toArray 31)).heap.size = w.heap.size + 1 := by simp
  have s2 : ((w.alloc (.cells (rqR t vl).toArray 31)).alloc (.cells (bR b).toArray 100)).heap.size = w.heap.size + 1 + 1 := by simp
  rw [s1] at h2
  rw [s2] at h3
  have b1 := al w (.cells (rqR t vl).toArray 31)
  have b2 := al (w.alloc (.cells (rqR t vl).toArray 31)) (.cells (bR b).toArray 100)
  have b3 := al ((w.alloc (.cells (rqR t vl).toArray 31)).alloc (.cells (bR b).toArray 100)) (.cells (rqR ⟨⟨0, 0⟩, ⟨0, 0⟩, []⟩ (.slice none 0 0)).toArray 31)
  exact ⟨(h1.up b2).up b3, h2.up b3, h3, below_up (below_up b1 b2 b1.size) b3 (Nat.le_trans b1.size b2.size)⟩
set_option maxRecDepth 100000 in
set_option maxHeartbeats 2000000 in
theorem rput_any (t : SpS) (vl : Value) (b : Blk) (w : World) (hln1 : t.l.length ≤ 1000) (hkl : IsK w vl t.l) :
    Calls Try.prog 74 #[rqV t vl, bV b] w fun e w' => ∃ v', e = .returned (rqV (t.put b) v') ∧ w'.ownsRow w.heap.size 100 4 v' (t.put b).l.length ((t.put b).l.flatMap bR) ∧ Below w.heap.size w w' := by
  have mixed : Try.prog.follows .mixedOrders = true := by kernel_rfl
  have HK := Lib.hid hkl
  obtain ⟨ab, cb, hvb, hcb⟩ := hkl.form
  subst hvb
  rw [show rqV t (.slice ab t.l.length cb) = .agg (rqR t (.slice ab t.l.length cb)).toArray from rfl, show bV b = .agg (bR b).toArray from rfl]
  go_enter Try.func74, Try.ntmps74
  go_wp2
  have HQ := Lib.hid (putQ_new w t (.slice ab t.l.length cb) b)
  rw [show (rqR ⟨⟨0, 0⟩, ⟨0, 0⟩, []⟩ (.slice none 0 0)).toArray = #[.int .i64 0, .int .i64 0, .int .i64 0, .int .i64 0, .int .i64 0, .int .i64 0, .slice none 0 0] from rfl] at HQ
  generalize ((w.alloc (.cells (rqR t (.slice ab t.l.length cb)).toArray 31)).alloc (.cells (bR b).toArray 100)).alloc (.cells #[.int .i64 0, .int .i64 0, .int .i64 0, .int .i64 0, .int .i64 0, .int .i64 0, .slice none 0 0] 31) = w1 at *
  clear hkl
  go_loopw [5] (fun i wr => ∃ j : Nat, j ≤ t.l.length ∧ i = .int .i64 (j : Int) ∧ Hid (∀ i x, i < j → t.l[i]? = some x → x.s.f < b.s.f) ∧ Hid (Below w1.heap.size w1 wr)) (fun i _ => t.l.length - (intOf i).toNat)
  case atStart => exact ⟨0, Nat.zero_le _, rfl, Lib.hid (fun i x h => by omega), Lib.hid (Below.refl _ _)⟩
  case round =>
    obtain ⟨j, hj, rfl, HLO, HBW⟩ := hrel
    have hQ := HQ.out.up HBW.out
    have c6 : wr.cell? ⟨w.heap.size, 6, none⟩ = some (.slice ab t.l.length cb) := by rw [hQ.s.cell]; rfl
    have c0 : wr.cell? ⟨w.heap.size + 1, 0, none⟩ = some (.int .i64 b.s.f) := by rw [hQ.b.cell]; rfl
    have h0k : (0 : Int) ≤ (j : Int) := by omega
    have HBD := Lib.hid (below_up HBW.out (Below.refl _ _).drew HBW.out.size)
    by_cases hlt : j < t.l.length
    · have hlti : (j : Int) < (t.l.length : Int) := by omega
      obtain ⟨x, hx⟩ : ∃ x, t.l[j]? = some x := ⟨t.l[j], List.getElem?_eq_getElem hlt⟩
      obtain ⟨bb, bo, rfl, hbb⟩ : ∃ bb bo, ab = some ⟨bb, bo, none⟩ ∧ bb < w.heap.size := by
        obtain ⟨_, _, _, h4⟩ := HK.out.shape
        obtain ⟨b, o, e1, e2, _⟩ := h4 (by omega)
        exact ⟨b, o, e1, e2⟩
      have y0 : wr.cell? ⟨bb, bo + j * 4, none⟩ = some (.int .i64 x.s.f) := IsK.range (HK.out.below hQ.below) j x hx 0 _ rfl
      have HX := Lib.hid hx
      clear hx hQ
      by_cases q1 : x.s.f < b.s.f
      · go_wp2
        go_region
        go_wp2
        go_roundw
        case rel => exact ⟨j + 1, by omega, rfl, Lib.hid (fun i y hi hy => by
            rcases Nat.lt_or_ge i j with h | h
            · exact HLO.out i y h hy
            · obtain rfl : i = j := by omega
              have h9 := HX.out
              rw [hy] at h9
              cases h9
              exact q1), HBD⟩
        case measure => simp only [intOf]; omega
      · have hput : putB b t.l = t.l.take j ++ b :: t.l.drop j := putB_at hj HLO.out (fun y hy => by rw [HX.out] at hy; cases hy; exact q1)
        go_wp2
        go_region
        have hQz := HQ.out.up HBD.out
        generalize wr.drew = wz at *
        have HPUT := Lib.hid hput
        obtain ⟨ti, hti, htz, hts, htb⟩ := info_parts refb_info
        have c6z : wz.cell? ⟨w.heap.size, 6, none⟩ = some (.slice (some ⟨bb, bo, none⟩) t.l.length cb) := by rw [hQz.s.cell]; rfl
        have HF := Lib.hid (IsK.front (HK.out.below hQz.below) hj)
        have HO0 := Lib.hid (World.ownsRow_nil wz w.heap.size 100 4)
        have hjc : j ≤ cb := Nat.le_trans hj (IsC.shape HK.out).2.1
        have HQZ := Lib.hid hQz
        have hwz := hQz.below.size
        have htl : (t.l.take j).length = j := by rw [List.length_take]; omega
        have HTL := Lib.hid htl
        clear hQz hput htl
        go_wp2_with (first
          | (refine plV rfl (.slice (some ⟨bb, bo, none⟩) j cb) (exec_sl_hA 29 (.tmp 29) (.tmp 30) rfl Try.underlying29 4 refb_size (some ⟨bb, bo, none⟩) t.l.length cb j rfl rfl hjc) ?_)
          | (at_builtin; refine append_flat rfl (.tmp 27) (.tmp 31) 29 rfl w.heap.size 100 ti (bV ⟨⟨0, 0⟩, 0, 0⟩) 32 Try.underlying29 hti htz hts htb rfl (by decide) (by decide) _ 0 [] rfl HO0.out _ _ _ (t.l.take j) rfl HF.out (fun y _ => bR_one y) (by have := HTL.out; omega) hwz ?_; intro v2 w2 hown2 hgr2; refine Hid.out ?_))
        refine Lib.hid ?_
        rw [Nat.zero_add, List.nil_append, HTL.out] at hown2
        have hb2 : Below wz.heap.size wz w2 := (Below.refl wz.heap.size wz).grown hgr2 (Nat.le_refl _) (fun k e => by cases e)
        have hQ2 := HQZ.out.up hb2
        have hal : Below w2.heap.size w2 (w2.alloc (.cells (bR b).toArray 100)) := (Below.refl _ _).alloc (Nat.le_refl _) _
        have HQ3 := Lib.hid (hQ2.up hal)
        have HOW3 := Lib.hid (own_below hown2 hal)
        have HBN := Lib.hid (Bx.new w2 100 (bR b))
        have rb2 := rangeAll hQ2.b
        have hw2 := hQ2.below.size
        clear hown2 hgr2 hb2 hQ2 hal HF HO0
        go_wp2_with (first
          | (refine plV rfl (bV b) (exec_load_any 100 (.tmp 3) rfl (w.heap.size + 1) 0 (bR b) _ rfl rb2 Try.underlying100 rfl refb_sz) ?_)
          | (refine plV rfl (.slice (some ⟨w2.heap.size, 0, none⟩) 1 1) (exec_one_refb (.tmp 34) rfl b rfl _ rfl) ?_)
          | (at_builtin; refine wpList_append_lies _ rfl _ _ 29 rfl w.heap.size 100 ti (bV ⟨⟨0, 0⟩, 0, 0⟩) 4 32 Try.underlying29 hti htz hts htb rfl (by decide) _ _ _ rfl HOW3.out ⟨w2.heap.size, 0, none⟩ 1 1 (bR b) rfl rfl (fun j u hj => World.news_of_block HBN.out j u (by simpa using hj)) (bR_one _) (by decide) (by have := HTL.out; unfold maxLen; omega) (by have := HTL.out; omega) (by simp; omega) _ rfl ?_; intro g9 cap9 w9 hown hgr hat hlt9; refine Hid.out ?_))
        refine Lib.hid ?_
        have hb9 : Below w.heap.size w w9 := HQ3.out.below.grown hgr (HQ3.out.below.size) (fun k e => owned_low HOW3.out k e)
        have HS9 := Lib.hid (HQ3.out.s.kp (kp_grown hgr) (fun e => bx_apart HOW3.out HQ3.out.s (by decide) e))
        have HR9 := Lib.hid (HQ3.out.r.kp (kp_grown hgr) (fun e => bx_apart HOW3.out HQ3.out.r (by decide) e))
        have c69 : w9.cell? ⟨w.heap.size, 6, none⟩ = some (.slice (some ⟨bb, bo, none⟩) t.l.length cb) := by rw [HS9.out.cell]; rfl
        have HBK := Lib.hid (IsK.back (HK.out.below hb9) hj)
        have HO9 := Lib.hid hown
        have HB9 := Lib.hid hb9
        have hw9 := hb9.size
        obtain ⟨sv, hsv⟩ : ∃ sv : Option Addr, sv = (if cb = j then (some ⟨bb, bo, none⟩ : Option Addr) else (some ⟨bb, bo, none⟩ : Option Addr).map (·.add (j * 4))) := ⟨_, rfl⟩
        have HSV := Lib.hid hsv
        rw [← hsv] at HBK
        clear hown hgr hat hb9 hsv rb2 c6z
        go_wp2_with (first
          | (refine plV rfl (.slice sv (t.l.length - j) (cb - j)) (by rw [HSV.out]; exact exec_sl_lA 29 (.tmp 39) (.tmp 40) rfl Try.underlying29 4 refb_size (some ⟨bb, bo, none⟩) t.l.length cb j rfl rfl hj) ?_)
          | (at_builtin; refine append_flat rfl (.tmp 37) (.tmp 41) 29 rfl w.heap.size 100 ti (bV ⟨⟨0, 0⟩, 0, 0⟩) 32 Try.underlying29 hti htz hts htb rfl (by decide) (by decide) _ _ _ rfl HO9.out _ _ _ (t.l.drop j) rfl HBK.out (fun y _ => bR_one y) (by have := HTL.out; rw [List.length_drop]; omega) hw9 ?_; intro v10 w10 hown hgr; refine Hid.out ?_))
        refine Lib.hid ?_
        have hb10 : Below w.heap.size w w10 := HB9.out.grown hgr hw9 (fun k e => owned_low HO9.out k e)
        have HS10 := Lib.hid (HS9.out.kp (kp_grown hgr) (fun e => bx_apart HO9.out HS9.out (by decide) e))
        have HR10 := Lib.hid (HR9.out.kp (kp_grown hgr) (fun e => bx_apart HO9.out HR9.out (by decide) e))
        have hcells : (t.put b).l.length = j + 1 + (t.l.drop j).length ∧ (t.l.take j).flatMap bR ++ bR b ++ (t.l.drop j).flatMap bR = (t.put b).l.flatMap bR := by
          have e1 : (t.put b).l = t.l.take j ++ b :: t.l.drop j := HPUT.out
          rw [e1]
          constructor
          · have := HTL.out; simp only [List.length_append, List.length_cons]; omega
          · rw [List.flatMap_append, List.flatMap_cons, List.append_assoc]
        rw [← hcells.1, hcells.2] at hown
        obtain ⟨a10, c10, rfl⟩ : ∃ a10 c10, v10 = .slice a10 (t.put b).l.length c10 := by
          rcases hown.2 with ⟨h1, h2⟩ | ⟨g, cap, cur, h1, _⟩
          · exact ⟨none, 0, by rw [h1, h2]⟩
          · exact ⟨_, cap, h1⟩
        have HO10 := Lib.hid hown
        have z6 : w10.cell? ⟨w.heap.size, 6, none⟩ = some (.slice (some ⟨bb, bo, none⟩) t.l.length cb) := by rw [HS10.out.cell]; rfl
        have zf6 := HS10.out.frozen 6
        have HS11 := Lib.hid (show Bx (w10.setCell ⟨w.heap.size, 6, none⟩ (.slice a10 (t.put b).l.length c10)) w.heap.size 31 (rqR (t.put b) (.slice a10 (t.put b).l.length c10)) from HS10.out.set 6 _)
        have hKp : KpO (fun k => k = w.heap.size) w10 (w10.setCell ⟨w.heap.size, 6, none⟩ (.slice a10 (t.put b).l.length c10)) := KpO.set w10 w.heap.size 6 _ rfl
        have HR11 := Lib.hid (HR10.out.kp hKp (by omega))
        have HO11 := Lib.hid (own_kp HO10.out hKp (fun k e1 e2 => bx_apart HO10.out HS10.out (by decide) (e2 ▸ e1)))
        have HB11 := Lib.hid (hb10.setCell (p := ⟨w.heap.size, 6, none⟩) (Nat.le_refl _) (.slice a10 (t.put b).l.length c10))
        have hr11 := rangeAll HS11.out
        clear hown hgr hb10 hcells hKp c69
        go_wp2_with (first
          | (refine plS rfl (exec_store_hdrR (.tmp 44) (.tmp 43) rfl ⟨w.heap.size, 6, none⟩ a10 _ c10 _ rfl rfl z6 zf6) ?_)
          | (refine plV rfl (rqV (t.put b) (.slice a10 (t.put b).l.length c10)) (exec_load_any 31 (.tmp 2) rfl w.heap.size 0 (rqR (t.put b) (.slice a10 (t.put b).l.length c10)) _ rfl hr11 Try.underlying31 rfl refs_info) ?_)
          | (refine plS rfl (exec_store_bxK _ (.tmp 4) (.tmp 45) rfl (w.heap.size + 1 + 1) (rqR (t.put b) (.slice a10 (t.put b).l.length c10)) _ rfl rfl HR11.out refs_info rfl (rqR_one _ _ rfl)) ?_))
        have HR12 := Lib.hid (HR11.out.row (rqR (t.put b) (.slice a10 (t.put b).l.length c10)))
        have HO12 := Lib.hid (own_kp HO11.out (kp_row (O := fun k => k = w.heap.size + 1 + 1) _ _ (rqR (t.put b) (.slice a10 (t.put b).l.length c10)).toArray rfl) (fun k e1 e2 => bx_apart HO11.out HR11.out (by decide) (e2 ▸ e1)))
        have HB12 := Lib.hid (below_row HB11.out (show w.heap.size ≤ w.heap.size + 1 + 1 by omega) (rqR (t.put b) (.slice a10 (t.put b).l.length c10)).toArray)
        generalize (w10.setCell ⟨w.heap.size, 6, none⟩ (.slice a10 (t.put b).l.length c10)).setRow (w.heap.size + 1 + 1) (rqR (t.put b) (.slice a10 (t.put b).l.length c10)).toArray = WZ at HR12 HO12 HB12 ⊢
        have u0 : WZ.cell? ⟨w.heap.size + 1 + 1, 0, none⟩ = some (.int .i64 0) := by rw [HR12.out.cell]; rfl
        have u1 : WZ.cell? ⟨w.heap.size + 1 + 1, 1, none⟩ = some (.int .i64 0) := by rw [HR12.out.cell]; rfl
        have u2 : WZ.cell? ⟨w.heap.size + 1 + 1, 2, none⟩ = some (.int .i64 (t.put b).a1.f) := by rw [HR12.out.cell]; rfl
        have u3 : WZ.cell? ⟨w.heap.size + 1 + 1, 3, none⟩ = some (.int .i64 (t.put b).a1.l) := by rw [HR12.out.cell]; rfl
        have u4 : WZ.cell? ⟨w.heap.size + 1 + 1, 4, none⟩ = some (.int .i64 (t.put b).a2.f) := by rw [HR12.out.cell]; rfl
        have u5 : WZ.cell? ⟨w.heap.size + 1 + 1, 5, none⟩ = some (.int .i64 (t.put b).a2.l) := by rw [HR12.out.cell]; rfl
        have u6 : WZ.cell? ⟨w.heap.size + 1 + 1, 6, none⟩ = some (.slice a10 (t.put b).l.length c10) := by rw [HR12.out.cell]; rfl
        exact bodyPost_ret (v := rqV (t.put b) (.slice a10 (t.put b).l.length c10)) (by simp [results, Try.results74, go_sem, rqV, rqR, u0, u1, u2, u3, u4, u5, u6]) rfl ⟨_, rfl, HO12.out, HB12.out⟩
    · have hput : putB b t.l = t.l.take j ++ b :: t.l.drop j := putB_at hj HLO.out (fun y hy => by rw [List.getElem?_eq_none (by omega)] at hy; cases hy)
      have hlti : ¬ ((j : Int) < (t.l.length : Int)) := by omega
      clear hQ
      go_wp2
      go_region
      have hQz := HQ.out.up HBD.out
      generalize wr.drew = wz at *
      have HPUT := Lib.hid hput
      obtain ⟨ti, hti, htz, hts, htb⟩ := info_parts refb_info
      have c6z : wz.cell? ⟨w.heap.size, 6, none⟩ = some (.slice ab t.l.length cb) := by rw [hQz.s.cell]; rfl
      have HF := Lib.hid (IsK.front (HK.out.below hQz.below) hj)
      have HO0 := Lib.hid (World.ownsRow_nil wz w.heap.size 100 4)
      have hjc : j ≤ cb := Nat.le_trans hj (IsC.shape HK.out).2.1
      have HQZ := Lib.hid hQz
      have hwz := hQz.below.size
      have htl : (t.l.take j).length = j := by rw [List.length_take]; omega
      have HTL := Lib.hid htl
      clear hQz hput htl
      go_wp2_with (first
        | (refine plV rfl (.slice ab j cb) (exec_sl_hA 29 (.tmp 29) (.tmp 30) rfl Try.underlying29 4 refb_size ab t.l.length cb j rfl rfl hjc) ?_)
        | (at_builtin; refine append_flat rfl (.tmp 27) (.tmp 31) 29 rfl w.heap.size 100 ti (bV ⟨⟨0, 0⟩, 0, 0⟩) 32 Try.underlying29 hti htz hts htb rfl (by decide) (by decide) _ 0 [] rfl HO0.out _ _ _ (t.l.take j) rfl HF.out (fun y _ => bR_one y) (by have := HTL.out; omega) hwz ?_; intro v2 w2 hown2 hgr2; refine Hid.out ?_))
      refine Lib.hid ?_
      rw [Nat.zero_add, List.nil_append, HTL.out] at hown2
      have hb2 : Below wz.heap.size wz w2 := (Below.refl wz.heap.size wz).grown hgr2 (Nat.le_refl _) (fun k e => by cases e)
      have hQ2 := HQZ.out.up hb2
      have hal : Below w2.heap.size w2 (w2.alloc (.cells (bR b).toArray 100)) := (Below.refl _ _).alloc (Nat.le_refl _) _
      have HQ3 := Lib.hid (hQ2.up hal)
      have HOW3 := Lib.hid (own_below hown2 hal)
      have HBN := Lib.hid (Bx.new w2 100 (bR b))
      have rb2 := rangeAll hQ2.b
      have hw2 := hQ2.below.size
      clear hown2 hgr2 hb2 hQ2 hal HF HO0
      go_wp2_with (first
        | (refine plV rfl (bV b) (exec_load_any 100 (.tmp 3) rfl (w.heap.size + 1) 0 (bR b) _ rfl rb2 Try.underlying100 rfl refb_sz) ?_)
        | (refine plV rfl (.slice (some ⟨w2.heap.size, 0, none⟩) 1 1) (exec_one_refb (.tmp 34) rfl b rfl _ rfl) ?_)
        | (at_builtin; refine wpList_append_lies _ rfl _ _ 29 rfl w.heap.size 100 ti (bV ⟨⟨0, 0⟩, 0, 0⟩) 4 32 Try.underlying29 hti htz hts htb rfl (by decide) _ _ _ rfl HOW3.out ⟨w2.heap.size, 0, none⟩ 1 1 (bR b) rfl rfl (fun j u hj => World.news_of_block HBN.out j u (by simpa using hj)) (bR_one _) (by decide) (by have := HTL.out; unfold maxLen; omega) (by have := HTL.out; omega) (by simp; omega) _ rfl ?_; intro g9 cap9 w9 hown hgr hat hlt9; refine Hid.out ?_))
      refine Lib.hid ?_
      have hb9 : Below w.heap.size w w9 := HQ3.out.below.grown hgr (HQ3.out.below.size) (fun k e => owned_low HOW3.out k e)
      have HS9 := Lib.hid (HQ3.out.s.kp (kp_grown hgr) (fun e => bx_apart HOW3.out HQ3.out.s (by decide) e))
      have HR9 := Lib.hid (HQ3.out.r.kp (kp_grown hgr) (fun e => bx_apart HOW3.out HQ3.out.r (by decide) e))
      have c69 : w9.cell? ⟨w.heap.size, 6, none⟩ = some (.slice ab t.l.length cb) := by rw [HS9.out.cell]; rfl
      have HBK := Lib.hid (IsK.back (HK.out.below hb9) hj)
      have HO9 := Lib.hid hown
      have HB9 := Lib.hid hb9
      have hw9 := hb9.size
      obtain ⟨sv, hsv⟩ : ∃ sv : Option Addr, sv = (if cb = j then ab else ab.map (·.add (j * 4))) := ⟨_, rfl⟩
      have HSV := Lib.hid hsv
      rw [← hsv] at HBK
      clear hown hgr hat hb9 hsv rb2 c6z
      go_wp2_with (first
        | (refine plV rfl (.slice sv (t.l.length - j) (cb - j)) (by rw [HSV.out]; exact exec_sl_lA 29 (.tmp 39) (.tmp 40) rfl Try.underlying29 4 refb_size ab t.l.length cb j rfl rfl hj) ?_)
        | (at_builtin; refine append_flat rfl (.tmp 37) (.tmp 41) 29 rfl w.heap.size 100 ti (bV ⟨⟨0, 0⟩, 0, 0⟩) 32 Try.underlying29 hti htz hts htb rfl (by decide) (by decide) _ _ _ rfl HO9.out _ _ _ (t.l.drop j) rfl HBK.out (fun y _ => bR_one y) (by have := HTL.out; rw [List.length_drop]; omega) hw9 ?_; intro v10 w10 hown hgr; refine Hid.out ?_))
      refine Lib.hid ?_
      have hb10 : Below w.heap.size w w10 := HB9.out.grown hgr hw9 (fun k e => owned_low HO9.out k e)
      have HS10 := Lib.hid (HS9.out.kp (kp_grown hgr) (fun e => bx_apart HO9.out HS9.out (by decide) e))
      have HR10 := Lib.hid (HR9.out.kp (kp_grown hgr) (fun e => bx_apart HO9.out HR9.out (by decide) e))
      have hcells : (t.put b).l.length = j + 1 + (t.l.drop j).length ∧ (t.l.take j).flatMap bR ++ bR b ++ (t.l.drop j).flatMap bR = (t.put b).l.flatMap bR := by
        have e1 : (t.put b).l = t.l.take j ++ b :: t.l.drop j := HPUT.out
        rw [e1]
        constructor
        · have := HTL.out; simp only [List.length_append, List.length_cons]; omega
        · rw [List.flatMap_append, List.flatMap_cons, List.append_assoc]
      rw [← hcells.1, hcells.2] at hown
      obtain ⟨a10, c10, rfl⟩ : ∃ a10 c10, v10 = .slice a10 (t.put b).l.length c10 := by
        rcases hown.2 with ⟨h1, h2⟩ | ⟨g, cap, cur, h1, _⟩
        · exact ⟨none, 0, by rw [h1, h2]⟩
        · exact ⟨_, cap, h1⟩
      have HO10 := Lib.hid hown
      have z6 : w10.cell? ⟨w.heap.size, 6, none⟩ = some (.slice ab t.l.length cb) := by rw [HS10.out.cell]; rfl
      have zf6 := HS10.out.frozen 6
      have HS11 := Lib.hid (show Bx (w10.setCell ⟨w.heap.size, 6, none⟩ (.slice a10 (t.put b).l.length c10)) w.heap.size 31 (rqR (t.put b) (.slice a10 (t.put b).l.length c10)) from HS10.out.set 6 _)
      have hKp : KpO (fun k => k = w.heap.size) w10 (w10.setCell ⟨w.heap.size, 6, none⟩ (.slice a10 (t.put b).l.length c10)) := KpO.set w10 w.heap.size 6 _ rfl
      have HR11 := Lib.hid (HR10.out.kp hKp (by omega))
      have HO11 := Lib.hid (own_kp HO10.out hKp (fun k e1 e2 => bx_apart HO10.out HS10.out (by decide) (e2 ▸ e1)))
      have HB11 := Lib.hid (hb10.setCell (p := ⟨w.heap.size, 6, none⟩) (Nat.le_refl _) (.slice a10 (t.put b).l.length c10))
      have hr11 := rangeAll HS11.out
      clear hown hgr hb10 hcells hKp c69
      go_wp2_with (first
        | (refine plS rfl (exec_store_hdrR (.tmp 44) (.tmp 43) rfl ⟨w.heap.size, 6, none⟩ a10 _ c10 _ rfl rfl z6 zf6) ?_)
        | (refine plV rfl (rqV (t.put b) (.slice a10 (t.put b).l.length c10)) (exec_load_any 31 (.tmp 2) rfl w.heap.size 0 (rqR (t.put b) (.slice a10 (t.put b).l.length c10)) _ rfl hr11 Try.underlying31 rfl refs_info) ?_)
        | (refine plS rfl (exec_store_bxK _ (.tmp 4) (.tmp 45) rfl (w.heap.size + 1 + 1) (rqR (t.put b) (.slice a10 (t.put b).l.length c10)) _ rfl rfl HR11.out refs_info rfl (rqR_one _ _ rfl)) ?_))
      have HR12 := Lib.hid (HR11.out.row (rqR (t.put b) (.slice a10 (t.put b).l.length c10)))
      have HO12 := Lib.hid (own_kp HO11.out (kp_row (O := fun k => k = w.heap.size + 1 + 1) _ _ (rqR (t.put b) (.slice a10 (t.put b).l.length c10)).toArray rfl) (fun k e1 e2 => bx_apart HO11.out HR11.out (by decide) (e2 ▸ e1)))
      have HB12 := Lib.hid (below_row HB11.out (show w.heap.size ≤ w.heap.size + 1 + 1 by omega) (rqR (t.put b) (.slice a10 (t.put b).l.length c10)).toArray)
      generalize (w10.setCell ⟨w.heap.size, 6, none⟩ (.slice a10 (t.put b).l.length c10)).setRow (w.heap.size + 1 + 1) (rqR (t.put b) (.slice a10 (t.put b).l.length c10)).toArray = WZ at HR12 HO12 HB12 ⊢
      have u0 : WZ.cell? ⟨w.heap.size + 1 + 1, 0, none⟩ = some (.int .i64 0) := by rw [HR12.out.cell]; rfl
      have u1 : WZ.cell? ⟨w.heap.size + 1 + 1, 1, none⟩ = some (.int .i64 0) := by rw [HR12.out.cell]; rfl
      have u2 : WZ.cell? ⟨w.heap.size + 1 + 1, 2, none⟩ = some (.int .i64 (t.put b).a1.f) := by rw [HR12.out.cell]; rfl
      have u3 : WZ.cell? ⟨w.heap.size + 1 + 1, 3, none⟩ = some (.int .i64 (t.put b).a1.l) := by rw [HR12.out.cell]; rfl
      have u4 : WZ.cell? ⟨w.heap.size + 1 + 1, 4, none⟩ = some (.int .i64 (t.put b).a2.f) := by rw [HR12.out.cell]; rfl
      have u5 : WZ.cell? ⟨w.heap.size + 1 + 1, 5, none⟩ = some (.int .i64 (t.put b).a2.l) := by rw [HR12.out.cell]; rfl
      have u6 : WZ.cell? ⟨w.heap.size + 1 + 1, 6, none⟩ = some (.slice a10 (t.put b).l.length c10) := by rw [HR12.out.cell]; rfl
      exact bodyPost_ret (v := rqV (t.put b) (.slice a10 (t.put b).l.length c10)) (by simp [results, Try.results74, go_sem, rqV, rqR, u0, u1, u2, u3, u4, u5, u6]) rfl ⟨_, rfl, HO12.out, HB12.out⟩
end Go.Proofs.Ytgelbeglffjdaaa
