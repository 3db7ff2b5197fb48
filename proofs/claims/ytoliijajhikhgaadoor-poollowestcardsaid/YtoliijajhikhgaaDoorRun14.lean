/- Stage 14: a script, of both. -/
import Derived.Test.YtoliijajhikhgaaDoorZU14
namespace Go.Proofs.YtoliijajhikhgaaDoor
open Go Go.RowKit Go.Shelf
attribute [local go_sem] Oper.semAt_some

theorem Kz.more {w W X Y : World} (h : Kz w W X) (hb : Below W.heap.size X Y) : Kz w W Y := .of (Nat.le_trans h.size hb.size) (fun k ho hk => (hb.block k hk).trans (h.all k ho hk)) (hb.os.trans h.os) (hb.tape.trans h.tape) (hb.output.trans h.output)
/-- Another box's cells are written. -/
theorem ZU.other {w X Y : World} {pt : Nat} {room : Int} {us : List Int} {g : Nat} {t : TypeId} {l : List Value} (h : ZU w pt room us X) (hk : KpO (fun k => k = g) X Y) (hx : Bx X g t l) (h1 : t ≠ 64) (h2 : t ≠ 74) (h3 : t ≠ 79) (hg : w.heap.size ≤ g) : ZU w pt room us Y := by
  obtain ⟨T, e, ⟨vt, vk, ks, m⟩, b⟩ := h
  refine ⟨T, e, ⟨vt, vk, ks, m.kp hk (fun k ho e => ?_) (fun e => ?_)⟩, b.trans (hk.base (fun k e => by rw [e]; exact hg) b.size)⟩
  · subst e
    obtain ⟨cur, u, hc, hu⟩ := own_type14 m k ho
    unfold Bx at hx
    rw [hx] at hc
    have h4 := Option.some.inj hc
    injection h4 with _ h5
    rcases hu with hu | hu | hu
    · exact h1 (h5.trans hu)
    · exact h2 (h5.trans hu)
    · exact h3 (h5.trans hu)
  · have := m.tz.1
    omega
theorem DU.other {w X Y : World} {us : List Int} {v : Value} {g : Nat} {t : TypeId} {l : List Value} (h : DU w us v X) (hk : KpO (fun k => k = g) X Y) (hx : Bx X g t l) (h1 : 50 ≠ t) : DU w us v Y :=
  h.imp fun _ q => ⟨q.1, own_kp q.2.1 hk (fun k e e2 => by subst e2; exact own_ne_bx q.2.1 hx h1 e), q.2.2⟩
theorem kp_setRow (W : World) (g : Nat) (cs : Array Value) : KpO (fun k => k = g) W (W.setRow g cs) := kp_row W g cs rfl
/-- Both, side by side, in the middle of 'run'. -/
structure RunZ (w W : World) (pt : Nat) (room : Int) (us ud : List Int) (vd vp : Value) (X : World) : Prop where
  z : ZU w pt room us X
  d : DU w ud vd X
  p : Bx X W.heap.size 32 (p14R true room vp)
  r : Bx X (W.heap.size + 1) 32 (p14R false 0 (.slice none 0 0))
  k : Kz w W X
  low : w.heap.size ≤ W.heap.size
section
variable {w W X Y : World} {pt : Nat} {room : Int} {us ud us' ud' : List Int} {vd vp vd' : Value}
theorem RunZ.up (h : RunZ w W pt room us ud vd vp X) (hb : Below X.heap.size X Y) : RunZ w W pt room us ud vd vp Y := ⟨h.z.up hb, h.d.up hb, h.p.up hb, h.r.up hb, h.k.more (hb.mono h.k.size), h.low⟩
theorem RunZ.pool (h : RunZ w W pt room us ud vd vp X) (z : ZU w pt room us' Y) (k : Kz w X Y) : RunZ w W pt room us' ud vd vp Y :=
  ⟨z, h.d.kz k, k.bx h.p (by decide) (by decide) (by decide), k.bx h.r (by decide) (by decide) (by decide), h.k.trans k, h.low⟩
theorem RunZ.doc (h : RunZ w W pt room us ud vd vp X) (d : DU w ud' vd' Y) (hb : Below X.heap.size X Y) : RunZ w W pt room us ud' vd' vp Y := ⟨h.z.up hb, d, h.p.up hb, h.r.up hb, h.k.more (hb.mono h.k.size), h.low⟩
theorem RunZ.put (h : RunZ w W pt room us ud vd vp X) : RunZ w W pt room us ud vd vd (X.setRow W.heap.size (p14R true room vd).toArray) :=
  ⟨h.z.other (kp_setRow _ _ _) h.p (by decide) (by decide) (by decide) h.low, h.d.other (kp_setRow _ _ _) h.p (by decide), h.p.row _, h.r.rowOther (by omega) _, h.k.more (below_row (Below.refl _ _) (Nat.le_refl _) _), h.low⟩
theorem RunZ.base (h : RunZ w W pt room us ud vd vp X) : w.heap.size ≤ X.heap.size := Nat.le_trans h.low h.k.size
theorem RunZ.b (h : RunZ w W pt room us ud vd vp X) : Below w.heap.size w X := h.z.b
theorem RunZ.drew (h : RunZ w W pt room us ud vd vp X) : RunZ w W pt room us ud vd vp X.drew := h.up (Below.refl _ _).drew
end
theorem runZ_new {w W : World} {pt : Nat} {room : Int} {us : List Int} {v : Value} (z : ZU w pt room us W) (d : DU w us v W) : RunZ w W pt room us us v v ((W.alloc (.cells (p14R true room v).toArray 32)).alloc (.cells (p14R false 0 (.slice none 0 0)).toArray 32)) := by
  have h := twoB_new W 32 32 (p14R true room v) (p14R false 0 (.slice none 0 0))
  exact ⟨z.up h.2.2, d.up h.2.2, h.1, h.2.1, Kz.below h.2.2, z.b.size⟩
def RunS (g : Nat) (room : Int) (v : Value) (W : World) : Prop := W.rangeAt g 0 (p14R true room v)
theorem built_x1 (n : Int) : Tryd.prog.built 50 [(0, .int .i64 1), (1, .int .i64 n)] = some (xR { th0 with k := 1, i := n }).toArray := by kernel_rfl
theorem built_x2 (t : ByteArray) : Tryd.prog.built 50 [(0, .int .i64 2), (2, .string t)] = some (xR { th0 with k := 2, t := t }).toArray := by kernel_rfl
theorem built_x3 (o : Int) (L : Ls) (p b : Int) (R : Ls) (pp : Bool) : Tryd.prog.built 50 [(0, .int .i64 3), (3, .agg (hopR o L.v p b R.v pp).toArray)] = some (xR { th0 with k := 3, o := o, L := L, p := p, b := b, R := R, pp := pp }).toArray := by
  obtain ⟨a1, n1, c1⟩ := L
  obtain ⟨a2, n2, c2⟩ := R
  kernel_rfl
def st0 : St14 := ⟨0, 0, ⟨#[]⟩, 0, ⟨none, 0, 0⟩, 0, 0, ⟨none, 0, 0⟩, false⟩
set_option maxRecDepth 100000 in
set_option maxHeartbeats 32000000 in
theorem run14 (w WR : World) (pt : Nat) (room : Int) (v0 : Value) (v : Value) (l : List St14) (z : ZU w pt room [] WR) (d : DU w [] v0 WR) (hr : 0 ≤ room) (hS : S14 w v l) (hl : l.length ≤ 60) (hok : ∀ x ∈ l, OkS x) :
    Calls Tryd.prog 9 #[.pointer (some ⟨pt, 0, none⟩), p14V true room v0, v] WR fun e w' => ∃ us vd, e = .returned (.tuple #[p14V true room vd, .bool true]) ∧ ZU w pt room us w' ∧ DU w us vd w' ∧ Ub room us 60 ∧ Kz w WR w' := by
  obtain ⟨a, cap, rfl⟩ := isc_slice hS.c
  have ez : (#[.bool false, .int .i64 0, .slice none 0 0] : Array Value) = (p14R false 0 (.slice none 0 0)).toArray := rfl
  have HZ0 := Lib.hid (runZ_new z d)
  have HS := Lib.hid hS
  have HOK := Lib.hid hok
  have HU0 := Lib.hid (Ub.none hr)
  rw [show p14V true room v0 = .agg (p14R true room v0).toArray from rfl]
  clear z d hS hok hr
  go_enter Tryd.func9, Tryd.ntmps9
  go_wp2_with fail
  generalize (WR.alloc (.cells (p14R true room v0).toArray 32)).alloc (.cells (p14R false 0 (.slice none 0 0)).toArray 32) = W0 at *
  go_loopw [8] (fun i wr => ∃ (j : Nat) (us : List Int) (vd : Value), j ≤ l.length ∧ i = .int .i64 (j : Int) ∧ Hid (RunZ w WR pt room us us vd vd wr) ∧ Hid (Ub room us j)) (fun i _ => l.length - (intOf i).toNat)
  case atStart => exact ⟨0, [], v0, Nat.zero_le _, rfl, HZ0, HU0⟩
  case round =>
    obtain ⟨j, us, vd, hj, rfl, HZ, HUB⟩ := hrel
    by_cases hlt : j < l.length
    · have hlti : (j : Int) < (l.length : Int) := by omega
      have h0j : ¬ (j : Int) < 0 := by omega
      have kj : IntKind.i64.wrap ((j : Int) + 1) = (j : Int) + 1 := by simp [IntKind.wrap, IntKind.bits, IntKind.signed]; omega
      obtain ⟨x, hx⟩ : ∃ x, l[j]? = some x := ⟨_, List.getElem?_eq_getElem hlt⟩
      have hxm := List.mem_of_getElem? hx
      obtain ⟨b, k, rfl, hbw, hr⟩ := isSt_at ((HS.out.up HZ.out.b).c) j x hx
      have HRG := Lib.hid hr
      have HOX := Lib.hid (HOK.out x hxm)
      have HHX := Lib.hid (HS.out.h x hxm)
      have ez2 : (#[.int .i64 0, .int .i64 0, .string ⟨#[]⟩, .int .i64 0, .slice none 0 0, .int .i64 0, .int .i64 0, .slice none 0 0, .bool false] : Array Value) = (stR14 st0).toArray := rfl
      have HX0 := Lib.hid (Bx.new wr 60 (stR14 st0))
      have HXY := Lib.hid ((Bx.new wr 60 (stR14 st0)).row (stR14 x))
      have HRY := Lib.hid (HZ.out.up (below_fresh wr (.cells (stR14 st0).toArray 60) (stR14 x).toArray))
      clear hr hx hxm hbw HZ
      have c0 := (HXY.out.cell 0).trans (show _ = some (.int .i64 x.k) from rfl)
      by_cases hk0 : x.k = 0
      · rw [hk0] at c0
        have c1 := (HXY.out.cell 1).trans (show _ = some (.int .i64 x.id) from rfl)
        have HUB2 := Lib.hid (HUB.out.add)
        have HA := Lib.hid (HRY.out.z.addInt HUB.out (by omega) x.id)
        go_wp2_with (first
          | (refine plV rfl (.agg (stR14 x).toArray) (exec_load_any _ (.tmp 24) rfl b (k + j * 9) _ _ rfl HRG.out Tryd.underlying60 rfl st14_info) ?_)
          | (refine wpList_store_bx rfl 60 (.tmp 9) (.tmp 25) rfl wr.heap.size (stR14 x) _ rfl rfl HX0.out st14_info rfl (stR14_one x) ?_)
          | (go_at_call 20; refine HA.out.mono ?_; rintro e X1 ⟨rfl, z1, k1⟩; refine Hid.out ?_))
        refine Lib.hid ?_
        have HR1 := Lib.hid (HRY.out.pool z1 k1)
        have HX1 := Lib.hid (k1.bx HXY.out (by decide) (by decide) (by decide))
        have d1 := (HX1.out.cell 1).trans (show _ = some (.int .i64 x.id) from rfl)
        clear z1 k1 HA HRY HXY c0 c1 HX0 HRG ez2
        have HD := Lib.hid (HR1.out.d.add HUB.out (by omega) HR1.out.base { th0 with k := 1, i := x.id })
        go_wp2_with (first
          | (refine plV rfl (p14V true room vd) (exec_load_any _ (.tmp 4) rfl WR.heap.size 0 _ _ rfl (rangeAll HR1.out.p) Tryd.underlying32 rfl p14_info) ?_)
          | (refine plV rfl (.agg (xR { th0 with k := 1, i := x.id }).toArray) (exec_build2 _ 0 1 _ (.tmp 40) rfl (.int .i64 1) (.int .i64 x.id) (xR { th0 with k := 1, i := x.id }) rfl rfl (built_x1 x.id)) ?_)
          | (go_at_call 23; refine HD.out.mono ?_; rintro e X2 ⟨v', rfl, d2, b2⟩; refine Hid.out ?_))
        refine Lib.hid ?_
        have HR2 := Lib.hid (HR1.out.doc d2 b2)
        clear HD d2 b2 HR1 HX1
        go_wp2_with (refine wpList_store_bx rfl 32 (.tmp 4) (.tmp 43) rfl WR.heap.size (p14R true room v') _ rfl rfl HR2.out.p p14_info rfl (p14_one true room v' HR2.out.d.one) ?_)
        have HR3 := Lib.hid HR2.out.put
        clear HR2
        generalize X2.setRow WR.heap.size (p14R true room v').toArray = X3 at *
        have HR4 := Lib.hid HR3.out.drew
        clear HR3
        refine wp_region_noPanic ?_
        refine wp_region_held_drew (S := RunS WR.heap.size room v') (by kernel_rfl) (rangeAll HR4.out.p) (fun hHeld => ?_)
        generalize X3.drew = X4 at *
        refine held_take (v := ?v123) 0 rfl (by kernel_rfl) (by kernel_rfl) (by kernel_rfl) (fun _ _ _ h => h) (by rfl) ?y123 (by assumption) ?_
        case y123 => (intro w hSw; unfold RunS at hSw; go_simp; (try with_reducible rfl); (try omega))
        simp only [List.setIfInBounds_toArray, List.set_cons_zero, List.set_cons_succ]
        refine held_take (v := ?v126) 1 rfl (by kernel_rfl) (by kernel_rfl) (by kernel_rfl) (fun _ _ _ h => h) (by rfl) ?y126 (by assumption) ?_
        case y126 => (intro w hSw; unfold RunS at hSw; go_simp; (try with_reducible rfl); (try omega))
        simp only [List.setIfInBounds_toArray, List.set_cons_zero, List.set_cons_succ]
        refine held_take (v := ?v129) 2 rfl (by kernel_rfl) (by kernel_rfl) (by kernel_rfl) (fun _ _ _ h => h) (by rfl) ?y129 (by assumption) ?_
        case y129 => (intro w hSw; unfold RunS at hSw; go_simp; (try with_reducible rfl); (try omega))
        simp only [List.setIfInBounds_toArray, List.set_cons_zero, List.set_cons_succ]
        refine held_take (v := ?v132) 3 rfl (by kernel_rfl) (by kernel_rfl) (by kernel_rfl) (fun _ _ _ h => h) (by rfl) ?y132 (by assumption) ?_
        case y132 => (intro w hSw; unfold RunS at hSw; go_simp; (try with_reducible rfl); (try omega))
        simp only [List.setIfInBounds_toArray, List.set_cons_zero, List.set_cons_succ]
        refine held_take (v := ?v135) 4 rfl (by kernel_rfl) (by kernel_rfl) (by kernel_rfl) (fun _ _ _ h => h) (by rfl) ?y135 (by assumption) ?_
        case y135 => (intro w hSw; unfold RunS at hSw; go_simp; (try with_reducible rfl); (try omega))
        simp only [List.setIfInBounds_toArray, List.set_cons_zero, List.set_cons_succ]
        refine held_take (v := ?v138) 5 rfl (by kernel_rfl) (by kernel_rfl) (by kernel_rfl) (fun _ _ _ h => h) (by rfl) ?y138 (by assumption) ?_
        case y138 => (intro w hSw; unfold RunS at hSw; go_simp; (try with_reducible rfl); (try omega))
        simp only [List.setIfInBounds_toArray, List.set_cons_zero, List.set_cons_succ]
        refine held_take (v := ?v141) 6 rfl (by kernel_rfl) (by kernel_rfl) (by kernel_rfl) (fun _ _ _ h => h) (by rfl) ?y141 (by assumption) ?_
        case y141 => (intro w hSw; unfold RunS at hSw; go_simp; (try with_reducible rfl); (try omega))
        simp only [List.setIfInBounds_toArray, List.set_cons_zero, List.set_cons_succ]
        refine held_take (v := ?v144) 7 rfl (by kernel_rfl) (by kernel_rfl) (by kernel_rfl) (fun _ _ _ h => h) (by rfl) ?y144 (by assumption) ?_
        case y144 => (intro w hSw; unfold RunS at hSw; go_simp; (try with_reducible rfl); (try omega))
        simp only [List.setIfInBounds_toArray, List.set_cons_zero, List.set_cons_succ]
        refine held_take (v := ?v147) 8 rfl (by kernel_rfl) (by kernel_rfl) (by kernel_rfl) (fun _ _ _ h => h) (by rfl) ?y147 (by assumption) ?_
        case y147 => (intro w hSw; unfold RunS at hSw; go_simp; (try with_reducible rfl); (try omega))
        simp only [List.setIfInBounds_toArray, List.set_cons_zero, List.set_cons_succ]
        refine held_take (v := ?v150) 9 rfl (by kernel_rfl) (by kernel_rfl) (by kernel_rfl) (fun _ _ _ h => h) (by rfl) ?y150 (by assumption) ?_
        case y150 => (intro w hSw; unfold RunS at hSw; go_simp; (try with_reducible rfl); (try omega))
        simp only [List.setIfInBounds_toArray, List.set_cons_zero, List.set_cons_succ]
        refine held_take (v := ?v153) 10 rfl (by kernel_rfl) (by kernel_rfl) (by kernel_rfl) (fun _ _ _ h => h) (by rfl) ?y153 (by assumption) ?_
        case y153 => (intro w hSw; unfold RunS at hSw; go_simp; (try with_reducible rfl); (try omega))
        simp only [List.setIfInBounds_toArray, List.set_cons_zero, List.set_cons_succ]
        refine held_take (v := ?v156) 11 rfl (by kernel_rfl) (by kernel_rfl) (by kernel_rfl) (fun _ _ _ h => h) (by rfl) ?y156 (by assumption) ?_
        case y156 => (intro w hSw; unfold RunS at hSw; go_simp; (try with_reducible rfl); (try omega))
        simp only [List.setIfInBounds_toArray, List.set_cons_zero, List.set_cons_succ]
        refine held_take (v := ?v159) 12 rfl (by kernel_rfl) (by kernel_rfl) (by kernel_rfl) (fun _ _ _ h => h) (by rfl) ?y159 (by assumption) ?_
        case y159 => (intro w hSw; unfold RunS at hSw; go_simp; (try with_reducible rfl); (try omega))
        simp only [List.setIfInBounds_toArray, List.set_cons_zero, List.set_cons_succ]
        refine held_take (v := ?v162) 13 rfl (by kernel_rfl) (by kernel_rfl) (by kernel_rfl) (fun _ _ _ h => h) (by rfl) ?y162 (by assumption) ?_
        case y162 => (intro w hSw; unfold RunS at hSw; go_simp; (try with_reducible rfl); (try omega))
        simp only [List.setIfInBounds_toArray, List.set_cons_zero, List.set_cons_succ]
        refine held_take (v := ?v165) 14 rfl (by kernel_rfl) (by kernel_rfl) (by kernel_rfl) (fun _ _ _ h => h) (by rfl) ?y165 (by assumption) ?_
        case y165 => (intro w hSw; unfold RunS at hSw; go_simp; (try with_reducible rfl); (try omega))
        simp only [List.setIfInBounds_toArray, List.set_cons_zero, List.set_cons_succ]
        refine held_take (v := p14V true room v') 16 rfl (by kernel_rfl) (by kernel_rfl) (by kernel_rfl) (fun _ _ _ h => h) (by rfl) (fun W hSw => exec_load_any _ (.tmp 4) rfl WR.heap.size 0 _ _ rfl hSw Tryd.underlying32 rfl p14_info) (by assumption) ?_
        simp only [List.setIfInBounds_toArray, List.set_cons_zero, List.set_cons_succ]
        refine held_one 15 rfl (by kernel_rfl) (by rfl) (fun K hK => ?_)
        go_simp
        refine HR4.out.z.len.mono ?_
        rintro e _ ⟨rfl, rfl⟩
        refine hK.out _ _ hHeld (fun hHeld => ?_)
        clear hK K
        refine held_one 17 rfl (by kernel_rfl) (by rfl) (fun K hK => ?_)
        go_simp
        refine (HR4.out.d.len HUB2.out (by omega) true room).mono ?_
        rintro e X5 ⟨rfl, b5⟩
        have HR5 := Lib.hid (HR4.out.up b5)
        refine hK.out _ _ (rangeAll HR5.out.p) (fun hHeld => ?_)
        clear hK K b5 HR4
        refine held_take (v := ?v183) 18 rfl (by kernel_rfl) (by kernel_rfl) (by kernel_rfl) (fun _ _ _ h => h) (by rfl) ?y183 (by assumption) ?_
        case y183 => (intro w hSw; unfold RunS at hSw; go_simp; (try with_reducible rfl); (try omega))
        simp only [List.setIfInBounds_toArray, List.set_cons_zero, List.set_cons_succ]
        refine held_take (v := ?v186) 19 rfl (by kernel_rfl) (by kernel_rfl) (by kernel_rfl) (fun _ _ _ h => h) (by rfl) ?y186 (by assumption) ?_
        case y186 => (intro w hSw; unfold RunS at hSw; go_simp; (try with_reducible rfl); (try omega))
        simp only [List.setIfInBounds_toArray, List.set_cons_zero, List.set_cons_succ]
        refine wpAnyH_done (by kernel_rfl) ?_ _
        refine NoPanic.normal ?_
        go_wp2
        go_roundw
        case rel => exact ⟨j + 1, _, _, hlt, by go_num, HR5, HUB2⟩
        case measure => simp [intOf]; omega
      by_cases hk1 : x.k = 1
      · rw [hk1] at c0
        have c1 := (HXY.out.cell 2).trans (show _ = some (.string x.t) from rfl)
        have HUB2 := Lib.hid (HUB.out.add)
        have HA := Lib.hid (HRY.out.z.addText HUB.out (by omega) x.t (by have := HOX.out.1; omega))
        go_wp2_with (first
          | (refine plV rfl (.agg (stR14 x).toArray) (exec_load_any _ (.tmp 24) rfl b (k + j * 9) _ _ rfl HRG.out Tryd.underlying60 rfl st14_info) ?_)
          | (refine wpList_store_bx rfl 60 (.tmp 9) (.tmp 25) rfl wr.heap.size (stR14 x) _ rfl rfl HX0.out st14_info rfl (stR14_one x) ?_)
          | (go_at_call 17; refine HA.out.mono ?_; rintro e X1 ⟨rfl, z1, k1⟩; refine Hid.out ?_))
        refine Lib.hid ?_
        have HR1 := Lib.hid (HRY.out.pool z1 k1)
        have HX1 := Lib.hid (k1.bx HXY.out (by decide) (by decide) (by decide))
        have d1 := (HX1.out.cell 2).trans (show _ = some (.string x.t) from rfl)
        clear z1 k1 HA HRY HXY c0 c1 HX0 HRG ez2
        have HD := Lib.hid (HR1.out.d.add HUB.out (by omega) HR1.out.base { th0 with k := 2, t := x.t })
        go_wp2_with (first
          | (refine plV rfl (p14V true room vd) (exec_load_any _ (.tmp 4) rfl WR.heap.size 0 _ _ rfl (rangeAll HR1.out.p) Tryd.underlying32 rfl p14_info) ?_)
          | (refine plV rfl (.agg (xR { th0 with k := 2, t := x.t }).toArray) (exec_build2 _ 0 2 _ (.tmp 58) rfl (.int .i64 2) (.string x.t) (xR { th0 with k := 2, t := x.t }) rfl rfl (built_x2 x.t)) ?_)
          | (go_at_call 23; refine HD.out.mono ?_; rintro e X2 ⟨v', rfl, d2, b2⟩; refine Hid.out ?_))
        refine Lib.hid ?_
        have HR2 := Lib.hid (HR1.out.doc d2 b2)
        clear HD d2 b2 HR1 HX1
        go_wp2_with (refine wpList_store_bx rfl 32 (.tmp 4) (.tmp 61) rfl WR.heap.size (p14R true room v') _ rfl rfl HR2.out.p p14_info rfl (p14_one true room v' HR2.out.d.one) ?_)
        have HR3 := Lib.hid HR2.out.put
        clear HR2
        generalize X2.setRow WR.heap.size (p14R true room v').toArray = X3 at *
        have HR4 := Lib.hid HR3.out.drew
        clear HR3
        refine wp_region_noPanic ?_
        refine wp_region_held_drew (S := RunS WR.heap.size room v') (by kernel_rfl) (rangeAll HR4.out.p) (fun hHeld => ?_)
        generalize X3.drew = X4 at *
        refine held_take (v := ?v226) 0 rfl (by kernel_rfl) (by kernel_rfl) (by kernel_rfl) (fun _ _ _ h => h) (by rfl) ?y226 (by assumption) ?_
        case y226 => (intro w hSw; unfold RunS at hSw; go_simp; (try with_reducible rfl); (try omega))
        simp only [List.setIfInBounds_toArray, List.set_cons_zero, List.set_cons_succ]
        refine held_take (v := ?v229) 1 rfl (by kernel_rfl) (by kernel_rfl) (by kernel_rfl) (fun _ _ _ h => h) (by rfl) ?y229 (by assumption) ?_
        case y229 => (intro w hSw; unfold RunS at hSw; go_simp; (try with_reducible rfl); (try omega))
        simp only [List.setIfInBounds_toArray, List.set_cons_zero, List.set_cons_succ]
        refine held_take (v := ?v232) 2 rfl (by kernel_rfl) (by kernel_rfl) (by kernel_rfl) (fun _ _ _ h => h) (by rfl) ?y232 (by assumption) ?_
        case y232 => (intro w hSw; unfold RunS at hSw; go_simp; (try with_reducible rfl); (try omega))
        simp only [List.setIfInBounds_toArray, List.set_cons_zero, List.set_cons_succ]
        refine held_take (v := ?v235) 3 rfl (by kernel_rfl) (by kernel_rfl) (by kernel_rfl) (fun _ _ _ h => h) (by rfl) ?y235 (by assumption) ?_
        case y235 => (intro w hSw; unfold RunS at hSw; go_simp; (try with_reducible rfl); (try omega))
        simp only [List.setIfInBounds_toArray, List.set_cons_zero, List.set_cons_succ]
        refine held_take (v := ?v238) 4 rfl (by kernel_rfl) (by kernel_rfl) (by kernel_rfl) (fun _ _ _ h => h) (by rfl) ?y238 (by assumption) ?_
        case y238 => (intro w hSw; unfold RunS at hSw; go_simp; (try with_reducible rfl); (try omega))
        simp only [List.setIfInBounds_toArray, List.set_cons_zero, List.set_cons_succ]
        refine held_take (v := ?v241) 5 rfl (by kernel_rfl) (by kernel_rfl) (by kernel_rfl) (fun _ _ _ h => h) (by rfl) ?y241 (by assumption) ?_
        case y241 => (intro w hSw; unfold RunS at hSw; go_simp; (try with_reducible rfl); (try omega))
        simp only [List.setIfInBounds_toArray, List.set_cons_zero, List.set_cons_succ]
        refine held_take (v := ?v244) 6 rfl (by kernel_rfl) (by kernel_rfl) (by kernel_rfl) (fun _ _ _ h => h) (by rfl) ?y244 (by assumption) ?_
        case y244 => (intro w hSw; unfold RunS at hSw; go_simp; (try with_reducible rfl); (try omega))
        simp only [List.setIfInBounds_toArray, List.set_cons_zero, List.set_cons_succ]
        refine held_take (v := ?v247) 7 rfl (by kernel_rfl) (by kernel_rfl) (by kernel_rfl) (fun _ _ _ h => h) (by rfl) ?y247 (by assumption) ?_
        case y247 => (intro w hSw; unfold RunS at hSw; go_simp; (try with_reducible rfl); (try omega))
        simp only [List.setIfInBounds_toArray, List.set_cons_zero, List.set_cons_succ]
        refine held_take (v := ?v250) 8 rfl (by kernel_rfl) (by kernel_rfl) (by kernel_rfl) (fun _ _ _ h => h) (by rfl) ?y250 (by assumption) ?_
        case y250 => (intro w hSw; unfold RunS at hSw; go_simp; (try with_reducible rfl); (try omega))
        simp only [List.setIfInBounds_toArray, List.set_cons_zero, List.set_cons_succ]
        refine held_take (v := ?v253) 9 rfl (by kernel_rfl) (by kernel_rfl) (by kernel_rfl) (fun _ _ _ h => h) (by rfl) ?y253 (by assumption) ?_
        case y253 => (intro w hSw; unfold RunS at hSw; go_simp; (try with_reducible rfl); (try omega))
        simp only [List.setIfInBounds_toArray, List.set_cons_zero, List.set_cons_succ]
        refine held_take (v := ?v256) 10 rfl (by kernel_rfl) (by kernel_rfl) (by kernel_rfl) (fun _ _ _ h => h) (by rfl) ?y256 (by assumption) ?_
        case y256 => (intro w hSw; unfold RunS at hSw; go_simp; (try with_reducible rfl); (try omega))
        simp only [List.setIfInBounds_toArray, List.set_cons_zero, List.set_cons_succ]
        refine held_take (v := ?v259) 11 rfl (by kernel_rfl) (by kernel_rfl) (by kernel_rfl) (fun _ _ _ h => h) (by rfl) ?y259 (by assumption) ?_
        case y259 => (intro w hSw; unfold RunS at hSw; go_simp; (try with_reducible rfl); (try omega))
        simp only [List.setIfInBounds_toArray, List.set_cons_zero, List.set_cons_succ]
        refine held_take (v := ?v262) 12 rfl (by kernel_rfl) (by kernel_rfl) (by kernel_rfl) (fun _ _ _ h => h) (by rfl) ?y262 (by assumption) ?_
        case y262 => (intro w hSw; unfold RunS at hSw; go_simp; (try with_reducible rfl); (try omega))
        simp only [List.setIfInBounds_toArray, List.set_cons_zero, List.set_cons_succ]
        refine held_take (v := ?v265) 13 rfl (by kernel_rfl) (by kernel_rfl) (by kernel_rfl) (fun _ _ _ h => h) (by rfl) ?y265 (by assumption) ?_
        case y265 => (intro w hSw; unfold RunS at hSw; go_simp; (try with_reducible rfl); (try omega))
        simp only [List.setIfInBounds_toArray, List.set_cons_zero, List.set_cons_succ]
        refine held_take (v := ?v268) 14 rfl (by kernel_rfl) (by kernel_rfl) (by kernel_rfl) (fun _ _ _ h => h) (by rfl) ?y268 (by assumption) ?_
        case y268 => (intro w hSw; unfold RunS at hSw; go_simp; (try with_reducible rfl); (try omega))
        simp only [List.setIfInBounds_toArray, List.set_cons_zero, List.set_cons_succ]
        refine held_take (v := p14V true room v') 16 rfl (by kernel_rfl) (by kernel_rfl) (by kernel_rfl) (fun _ _ _ h => h) (by rfl) (fun W hSw => exec_load_any _ (.tmp 4) rfl WR.heap.size 0 _ _ rfl hSw Tryd.underlying32 rfl p14_info) (by assumption) ?_
        simp only [List.setIfInBounds_toArray, List.set_cons_zero, List.set_cons_succ]
        refine held_one 15 rfl (by kernel_rfl) (by rfl) (fun K hK => ?_)
        go_simp
        refine HR4.out.z.len.mono ?_
        rintro e _ ⟨rfl, rfl⟩
        refine hK.out _ _ hHeld (fun hHeld => ?_)
        clear hK K
        refine held_one 17 rfl (by kernel_rfl) (by rfl) (fun K hK => ?_)
        go_simp
        refine (HR4.out.d.len HUB2.out (by omega) true room).mono ?_
        rintro e X5 ⟨rfl, b5⟩
        have HR5 := Lib.hid (HR4.out.up b5)
        refine hK.out _ _ (rangeAll HR5.out.p) (fun hHeld => ?_)
        clear hK K b5 HR4
        refine held_take (v := ?v286) 18 rfl (by kernel_rfl) (by kernel_rfl) (by kernel_rfl) (fun _ _ _ h => h) (by rfl) ?y286 (by assumption) ?_
        case y286 => (intro w hSw; unfold RunS at hSw; go_simp; (try with_reducible rfl); (try omega))
        simp only [List.setIfInBounds_toArray, List.set_cons_zero, List.set_cons_succ]
        refine held_take (v := ?v289) 19 rfl (by kernel_rfl) (by kernel_rfl) (by kernel_rfl) (fun _ _ _ h => h) (by rfl) ?y289 (by assumption) ?_
        case y289 => (intro w hSw; unfold RunS at hSw; go_simp; (try with_reducible rfl); (try omega))
        simp only [List.setIfInBounds_toArray, List.set_cons_zero, List.set_cons_succ]
        refine wpAnyH_done (by kernel_rfl) ?_ _
        refine NoPanic.normal ?_
        go_wp2
        go_roundw
        case rel => exact ⟨j + 1, _, _, hlt, by go_num, HR5, HUB2⟩
        case measure => simp [intOf]; omega
      by_cases hk2 : x.k = 2
      · rw [hk2] at c0
        obtain ⟨⟨ls, hL⟩, ⟨rs, hR⟩⟩ := HHX.out
        have hll : x.L.n = ls.length := hL.shape.1
        have hrl : x.R.n = rs.length := hR.shape.1
        have hl1 := HOX.out.2.1
        have hl2 := HOX.out.2.2
        have HUB2 := Lib.hid (HUB.out.add)
        have HA := Lib.hid (HRY.out.z.addHop HUB.out (by omega) x.o x.L.v x.p x.b x.R.v x.pp ls rs (hL.below HRY.out.b) (hR.below HRY.out.b) (by omega) (by omega))
        go_wp2_with (first
          | (refine plV rfl (.agg (stR14 x).toArray) (exec_load_any _ (.tmp 24) rfl b (k + j * 9) _ _ rfl HRG.out Tryd.underlying60 rfl st14_info) ?_)
          | (refine wpList_store_bx rfl 60 (.tmp 9) (.tmp 25) rfl wr.heap.size (stR14 x) _ rfl rfl HX0.out st14_info rfl (stR14_one x) ?_)
          | (refine plV rfl (.agg x.hop.toArray) (exec_load_any _ (.tmp 68) rfl wr.heap.size 3 _ _ rfl (HXY.out.range 3 x.hop rfl) Tryd.underlying25 rfl hop_info) ?_)
          | (go_at_call 10; refine HA.out.mono ?_; rintro e X1 ⟨rfl, z1, k1⟩; refine Hid.out ?_))
        refine Lib.hid ?_
        have HR1 := Lib.hid (HRY.out.pool z1 k1)
        have HX1 := Lib.hid (k1.bx HXY.out (by decide) (by decide) (by decide))
        have d1 := True.intro
        clear z1 k1 HA HRY HXY c0 hL hR HX0 HRG ez2
        have HD := Lib.hid (HR1.out.d.add HUB.out (by omega) HR1.out.base { th0 with k := 3, o := x.o, L := x.L, p := x.p, b := x.b, R := x.R, pp := x.pp })
        go_wp2_with (first
          | (refine plV rfl (p14V true room vd) (exec_load_any _ (.tmp 4) rfl WR.heap.size 0 _ _ rfl (rangeAll HR1.out.p) Tryd.underlying32 rfl p14_info) ?_)
          | (refine plV rfl (.agg x.hop.toArray) (exec_load_any _ (.tmp 75) rfl wr.heap.size 3 _ _ rfl (HX1.out.range 3 x.hop rfl) Tryd.underlying25 rfl hop_info) ?_)
          | (refine plV rfl (.agg (xR { th0 with k := 3, o := x.o, L := x.L, p := x.p, b := x.b, R := x.R, pp := x.pp }).toArray) (exec_build2 _ 0 3 _ (.tmp 76) rfl (.int .i64 3) (.agg x.hop.toArray) (xR { th0 with k := 3, o := x.o, L := x.L, p := x.p, b := x.b, R := x.R, pp := x.pp }) rfl rfl (built_x3 x.o x.L x.p x.b x.R x.pp)) ?_)
          | (go_at_call 23; refine HD.out.mono ?_; rintro e X2 ⟨v', rfl, d2, b2⟩; refine Hid.out ?_))
        refine Lib.hid ?_
        have HR2 := Lib.hid (HR1.out.doc d2 b2)
        clear HD d2 b2 HR1 HX1
        go_wp2_with (refine wpList_store_bx rfl 32 (.tmp 4) (.tmp 79) rfl WR.heap.size (p14R true room v') _ rfl rfl HR2.out.p p14_info rfl (p14_one true room v' HR2.out.d.one) ?_)
        have HR3 := Lib.hid HR2.out.put
        clear HR2
        generalize X2.setRow WR.heap.size (p14R true room v').toArray = X3 at *
        have HR4 := Lib.hid HR3.out.drew
        clear HR3
        refine wp_region_noPanic ?_
        refine wp_region_held_drew (S := RunS WR.heap.size room v') (by kernel_rfl) (rangeAll HR4.out.p) (fun hHeld => ?_)
        generalize X3.drew = X4 at *
        refine held_take (v := ?v335) 0 rfl (by kernel_rfl) (by kernel_rfl) (by kernel_rfl) (fun _ _ _ h => h) (by rfl) ?y335 (by assumption) ?_
        case y335 => (intro w hSw; unfold RunS at hSw; go_simp; (try with_reducible rfl); (try omega))
        simp only [List.setIfInBounds_toArray, List.set_cons_zero, List.set_cons_succ]
        refine held_take (v := ?v338) 1 rfl (by kernel_rfl) (by kernel_rfl) (by kernel_rfl) (fun _ _ _ h => h) (by rfl) ?y338 (by assumption) ?_
        case y338 => (intro w hSw; unfold RunS at hSw; go_simp; (try with_reducible rfl); (try omega))
        simp only [List.setIfInBounds_toArray, List.set_cons_zero, List.set_cons_succ]
        refine held_take (v := ?v341) 2 rfl (by kernel_rfl) (by kernel_rfl) (by kernel_rfl) (fun _ _ _ h => h) (by rfl) ?y341 (by assumption) ?_
        case y341 => (intro w hSw; unfold RunS at hSw; go_simp; (try with_reducible rfl); (try omega))
        simp only [List.setIfInBounds_toArray, List.set_cons_zero, List.set_cons_succ]
        refine held_take (v := ?v344) 3 rfl (by kernel_rfl) (by kernel_rfl) (by kernel_rfl) (fun _ _ _ h => h) (by rfl) ?y344 (by assumption) ?_
        case y344 => (intro w hSw; unfold RunS at hSw; go_simp; (try with_reducible rfl); (try omega))
        simp only [List.setIfInBounds_toArray, List.set_cons_zero, List.set_cons_succ]
        refine held_take (v := ?v347) 4 rfl (by kernel_rfl) (by kernel_rfl) (by kernel_rfl) (fun _ _ _ h => h) (by rfl) ?y347 (by assumption) ?_
        case y347 => (intro w hSw; unfold RunS at hSw; go_simp; (try with_reducible rfl); (try omega))
        simp only [List.setIfInBounds_toArray, List.set_cons_zero, List.set_cons_succ]
        refine held_take (v := ?v350) 5 rfl (by kernel_rfl) (by kernel_rfl) (by kernel_rfl) (fun _ _ _ h => h) (by rfl) ?y350 (by assumption) ?_
        case y350 => (intro w hSw; unfold RunS at hSw; go_simp; (try with_reducible rfl); (try omega))
        simp only [List.setIfInBounds_toArray, List.set_cons_zero, List.set_cons_succ]
        refine held_take (v := ?v353) 6 rfl (by kernel_rfl) (by kernel_rfl) (by kernel_rfl) (fun _ _ _ h => h) (by rfl) ?y353 (by assumption) ?_
        case y353 => (intro w hSw; unfold RunS at hSw; go_simp; (try with_reducible rfl); (try omega))
        simp only [List.setIfInBounds_toArray, List.set_cons_zero, List.set_cons_succ]
        refine held_take (v := ?v356) 7 rfl (by kernel_rfl) (by kernel_rfl) (by kernel_rfl) (fun _ _ _ h => h) (by rfl) ?y356 (by assumption) ?_
        case y356 => (intro w hSw; unfold RunS at hSw; go_simp; (try with_reducible rfl); (try omega))
        simp only [List.setIfInBounds_toArray, List.set_cons_zero, List.set_cons_succ]
        refine held_take (v := ?v359) 8 rfl (by kernel_rfl) (by kernel_rfl) (by kernel_rfl) (fun _ _ _ h => h) (by rfl) ?y359 (by assumption) ?_
        case y359 => (intro w hSw; unfold RunS at hSw; go_simp; (try with_reducible rfl); (try omega))
        simp only [List.setIfInBounds_toArray, List.set_cons_zero, List.set_cons_succ]
        refine held_take (v := ?v362) 9 rfl (by kernel_rfl) (by kernel_rfl) (by kernel_rfl) (fun _ _ _ h => h) (by rfl) ?y362 (by assumption) ?_
        case y362 => (intro w hSw; unfold RunS at hSw; go_simp; (try with_reducible rfl); (try omega))
        simp only [List.setIfInBounds_toArray, List.set_cons_zero, List.set_cons_succ]
        refine held_take (v := ?v365) 10 rfl (by kernel_rfl) (by kernel_rfl) (by kernel_rfl) (fun _ _ _ h => h) (by rfl) ?y365 (by assumption) ?_
        case y365 => (intro w hSw; unfold RunS at hSw; go_simp; (try with_reducible rfl); (try omega))
        simp only [List.setIfInBounds_toArray, List.set_cons_zero, List.set_cons_succ]
        refine held_take (v := ?v368) 11 rfl (by kernel_rfl) (by kernel_rfl) (by kernel_rfl) (fun _ _ _ h => h) (by rfl) ?y368 (by assumption) ?_
        case y368 => (intro w hSw; unfold RunS at hSw; go_simp; (try with_reducible rfl); (try omega))
        simp only [List.setIfInBounds_toArray, List.set_cons_zero, List.set_cons_succ]
        refine held_take (v := ?v371) 12 rfl (by kernel_rfl) (by kernel_rfl) (by kernel_rfl) (fun _ _ _ h => h) (by rfl) ?y371 (by assumption) ?_
        case y371 => (intro w hSw; unfold RunS at hSw; go_simp; (try with_reducible rfl); (try omega))
        simp only [List.setIfInBounds_toArray, List.set_cons_zero, List.set_cons_succ]
        refine held_take (v := ?v374) 13 rfl (by kernel_rfl) (by kernel_rfl) (by kernel_rfl) (fun _ _ _ h => h) (by rfl) ?y374 (by assumption) ?_
        case y374 => (intro w hSw; unfold RunS at hSw; go_simp; (try with_reducible rfl); (try omega))
        simp only [List.setIfInBounds_toArray, List.set_cons_zero, List.set_cons_succ]
        refine held_take (v := ?v377) 14 rfl (by kernel_rfl) (by kernel_rfl) (by kernel_rfl) (fun _ _ _ h => h) (by rfl) ?y377 (by assumption) ?_
        case y377 => (intro w hSw; unfold RunS at hSw; go_simp; (try with_reducible rfl); (try omega))
        simp only [List.setIfInBounds_toArray, List.set_cons_zero, List.set_cons_succ]
        refine held_take (v := p14V true room v') 16 rfl (by kernel_rfl) (by kernel_rfl) (by kernel_rfl) (fun _ _ _ h => h) (by rfl) (fun W hSw => exec_load_any _ (.tmp 4) rfl WR.heap.size 0 _ _ rfl hSw Tryd.underlying32 rfl p14_info) (by assumption) ?_
        simp only [List.setIfInBounds_toArray, List.set_cons_zero, List.set_cons_succ]
        refine held_one 15 rfl (by kernel_rfl) (by rfl) (fun K hK => ?_)
        go_simp
        refine HR4.out.z.len.mono ?_
        rintro e _ ⟨rfl, rfl⟩
        refine hK.out _ _ hHeld (fun hHeld => ?_)
        clear hK K
        refine held_one 17 rfl (by kernel_rfl) (by rfl) (fun K hK => ?_)
        go_simp
        refine (HR4.out.d.len HUB2.out (by omega) true room).mono ?_
        rintro e X5 ⟨rfl, b5⟩
        have HR5 := Lib.hid (HR4.out.up b5)
        refine hK.out _ _ (rangeAll HR5.out.p) (fun hHeld => ?_)
        clear hK K b5 HR4
        refine held_take (v := ?v395) 18 rfl (by kernel_rfl) (by kernel_rfl) (by kernel_rfl) (fun _ _ _ h => h) (by rfl) ?y395 (by assumption) ?_
        case y395 => (intro w hSw; unfold RunS at hSw; go_simp; (try with_reducible rfl); (try omega))
        simp only [List.setIfInBounds_toArray, List.set_cons_zero, List.set_cons_succ]
        refine held_take (v := ?v398) 19 rfl (by kernel_rfl) (by kernel_rfl) (by kernel_rfl) (fun _ _ _ h => h) (by rfl) ?y398 (by assumption) ?_
        case y398 => (intro w hSw; unfold RunS at hSw; go_simp; (try with_reducible rfl); (try omega))
        simp only [List.setIfInBounds_toArray, List.set_cons_zero, List.set_cons_succ]
        refine wpAnyH_done (by kernel_rfl) ?_ _
        refine NoPanic.normal ?_
        go_wp2
        go_roundw
        case rel => exact ⟨j + 1, _, _, hlt, by go_num, HR5, HUB2⟩
        case measure => simp [intOf]; omega
      by_cases hk3 : x.k = 3
      · rw [hk3] at c0
        have c1 := (HXY.out.cell 1).trans (show _ = some (.int .i64 x.id) from rfl)
        have HUB2 := Lib.hid (HUB.out.ref x.id)
        have HA := Lib.hid (HRY.out.z.ref HUB.out (by omega) x.id)
        go_wp2_with (first
          | (refine plV rfl (.agg (stR14 x).toArray) (exec_load_any _ (.tmp 24) rfl b (k + j * 9) _ _ rfl HRG.out Tryd.underlying60 rfl st14_info) ?_)
          | (refine wpList_store_bx rfl 60 (.tmp 9) (.tmp 25) rfl wr.heap.size (stR14 x) _ rfl rfl HX0.out st14_info rfl (stR14_one x) ?_)
          | (go_at_call 11; refine HA.out.mono ?_; rintro e X1 ⟨rfl, z1, k1⟩; refine Hid.out ?_))
        refine Lib.hid ?_
        have HR1 := Lib.hid (HRY.out.pool z1 k1)
        have HX1 := Lib.hid (k1.bx HXY.out (by decide) (by decide) (by decide))
        have d1 := (HX1.out.cell 1).trans (show _ = some (.int .i64 x.id) from rfl)
        clear z1 k1 HA HRY HXY c0 c1 HX0 HRG ez2
        have HD := Lib.hid (HR1.out.d.ref HUB.out (by omega) HR1.out.base x.id)
        go_wp2_with (first
          | (refine plV rfl (p14V true room vd) (exec_load_any _ (.tmp 4) rfl WR.heap.size 0 _ _ rfl (rangeAll HR1.out.p) Tryd.underlying32 rfl p14_info) ?_)
          | (go_at_call 24; refine HD.out.mono ?_; rintro e X2 ⟨v', rfl, d2, b2⟩; refine Hid.out ?_))
        refine Lib.hid ?_
        have HR2 := Lib.hid (HR1.out.doc d2 b2)
        clear HD d2 b2 HR1 HX1
        go_wp2_with (refine wpList_store_bx rfl 32 (.tmp 4) (.tmp 93) rfl WR.heap.size (p14R true room v') _ rfl rfl HR2.out.p p14_info rfl (p14_one true room v' HR2.out.d.one) ?_)
        have HR3 := Lib.hid HR2.out.put
        clear HR2
        generalize X2.setRow WR.heap.size (p14R true room v').toArray = X3 at *
        have HR4 := Lib.hid HR3.out.drew
        clear HR3
        refine wp_region_noPanic ?_
        refine wp_region_held_drew (S := RunS WR.heap.size room v') (by kernel_rfl) (rangeAll HR4.out.p) (fun hHeld => ?_)
        generalize X3.drew = X4 at *
        refine held_take (v := ?v437) 0 rfl (by kernel_rfl) (by kernel_rfl) (by kernel_rfl) (fun _ _ _ h => h) (by rfl) ?y437 (by assumption) ?_
        case y437 => (intro w hSw; unfold RunS at hSw; go_simp; (try with_reducible rfl); (try omega))
        simp only [List.setIfInBounds_toArray, List.set_cons_zero, List.set_cons_succ]
        refine held_take (v := ?v440) 1 rfl (by kernel_rfl) (by kernel_rfl) (by kernel_rfl) (fun _ _ _ h => h) (by rfl) ?y440 (by assumption) ?_
        case y440 => (intro w hSw; unfold RunS at hSw; go_simp; (try with_reducible rfl); (try omega))
        simp only [List.setIfInBounds_toArray, List.set_cons_zero, List.set_cons_succ]
        refine held_take (v := ?v443) 2 rfl (by kernel_rfl) (by kernel_rfl) (by kernel_rfl) (fun _ _ _ h => h) (by rfl) ?y443 (by assumption) ?_
        case y443 => (intro w hSw; unfold RunS at hSw; go_simp; (try with_reducible rfl); (try omega))
        simp only [List.setIfInBounds_toArray, List.set_cons_zero, List.set_cons_succ]
        refine held_take (v := ?v446) 3 rfl (by kernel_rfl) (by kernel_rfl) (by kernel_rfl) (fun _ _ _ h => h) (by rfl) ?y446 (by assumption) ?_
        case y446 => (intro w hSw; unfold RunS at hSw; go_simp; (try with_reducible rfl); (try omega))
        simp only [List.setIfInBounds_toArray, List.set_cons_zero, List.set_cons_succ]
        refine held_take (v := ?v449) 4 rfl (by kernel_rfl) (by kernel_rfl) (by kernel_rfl) (fun _ _ _ h => h) (by rfl) ?y449 (by assumption) ?_
        case y449 => (intro w hSw; unfold RunS at hSw; go_simp; (try with_reducible rfl); (try omega))
        simp only [List.setIfInBounds_toArray, List.set_cons_zero, List.set_cons_succ]
        refine held_take (v := ?v452) 5 rfl (by kernel_rfl) (by kernel_rfl) (by kernel_rfl) (fun _ _ _ h => h) (by rfl) ?y452 (by assumption) ?_
        case y452 => (intro w hSw; unfold RunS at hSw; go_simp; (try with_reducible rfl); (try omega))
        simp only [List.setIfInBounds_toArray, List.set_cons_zero, List.set_cons_succ]
        refine held_take (v := ?v455) 6 rfl (by kernel_rfl) (by kernel_rfl) (by kernel_rfl) (fun _ _ _ h => h) (by rfl) ?y455 (by assumption) ?_
        case y455 => (intro w hSw; unfold RunS at hSw; go_simp; (try with_reducible rfl); (try omega))
        simp only [List.setIfInBounds_toArray, List.set_cons_zero, List.set_cons_succ]
        refine held_take (v := ?v458) 7 rfl (by kernel_rfl) (by kernel_rfl) (by kernel_rfl) (fun _ _ _ h => h) (by rfl) ?y458 (by assumption) ?_
        case y458 => (intro w hSw; unfold RunS at hSw; go_simp; (try with_reducible rfl); (try omega))
        simp only [List.setIfInBounds_toArray, List.set_cons_zero, List.set_cons_succ]
        refine held_take (v := ?v461) 8 rfl (by kernel_rfl) (by kernel_rfl) (by kernel_rfl) (fun _ _ _ h => h) (by rfl) ?y461 (by assumption) ?_
        case y461 => (intro w hSw; unfold RunS at hSw; go_simp; (try with_reducible rfl); (try omega))
        simp only [List.setIfInBounds_toArray, List.set_cons_zero, List.set_cons_succ]
        refine held_take (v := ?v464) 9 rfl (by kernel_rfl) (by kernel_rfl) (by kernel_rfl) (fun _ _ _ h => h) (by rfl) ?y464 (by assumption) ?_
        case y464 => (intro w hSw; unfold RunS at hSw; go_simp; (try with_reducible rfl); (try omega))
        simp only [List.setIfInBounds_toArray, List.set_cons_zero, List.set_cons_succ]
        refine held_take (v := ?v467) 10 rfl (by kernel_rfl) (by kernel_rfl) (by kernel_rfl) (fun _ _ _ h => h) (by rfl) ?y467 (by assumption) ?_
        case y467 => (intro w hSw; unfold RunS at hSw; go_simp; (try with_reducible rfl); (try omega))
        simp only [List.setIfInBounds_toArray, List.set_cons_zero, List.set_cons_succ]
        refine held_take (v := ?v470) 11 rfl (by kernel_rfl) (by kernel_rfl) (by kernel_rfl) (fun _ _ _ h => h) (by rfl) ?y470 (by assumption) ?_
        case y470 => (intro w hSw; unfold RunS at hSw; go_simp; (try with_reducible rfl); (try omega))
        simp only [List.setIfInBounds_toArray, List.set_cons_zero, List.set_cons_succ]
        refine held_take (v := ?v473) 12 rfl (by kernel_rfl) (by kernel_rfl) (by kernel_rfl) (fun _ _ _ h => h) (by rfl) ?y473 (by assumption) ?_
        case y473 => (intro w hSw; unfold RunS at hSw; go_simp; (try with_reducible rfl); (try omega))
        simp only [List.setIfInBounds_toArray, List.set_cons_zero, List.set_cons_succ]
        refine held_take (v := ?v476) 13 rfl (by kernel_rfl) (by kernel_rfl) (by kernel_rfl) (fun _ _ _ h => h) (by rfl) ?y476 (by assumption) ?_
        case y476 => (intro w hSw; unfold RunS at hSw; go_simp; (try with_reducible rfl); (try omega))
        simp only [List.setIfInBounds_toArray, List.set_cons_zero, List.set_cons_succ]
        refine held_take (v := ?v479) 14 rfl (by kernel_rfl) (by kernel_rfl) (by kernel_rfl) (fun _ _ _ h => h) (by rfl) ?y479 (by assumption) ?_
        case y479 => (intro w hSw; unfold RunS at hSw; go_simp; (try with_reducible rfl); (try omega))
        simp only [List.setIfInBounds_toArray, List.set_cons_zero, List.set_cons_succ]
        refine held_take (v := p14V true room v') 16 rfl (by kernel_rfl) (by kernel_rfl) (by kernel_rfl) (fun _ _ _ h => h) (by rfl) (fun W hSw => exec_load_any _ (.tmp 4) rfl WR.heap.size 0 _ _ rfl hSw Tryd.underlying32 rfl p14_info) (by assumption) ?_
        simp only [List.setIfInBounds_toArray, List.set_cons_zero, List.set_cons_succ]
        refine held_one 15 rfl (by kernel_rfl) (by rfl) (fun K hK => ?_)
        go_simp
        refine HR4.out.z.len.mono ?_
        rintro e _ ⟨rfl, rfl⟩
        refine hK.out _ _ hHeld (fun hHeld => ?_)
        clear hK K
        refine held_one 17 rfl (by kernel_rfl) (by rfl) (fun K hK => ?_)
        go_simp
        refine (HR4.out.d.len HUB2.out (by omega) true room).mono ?_
        rintro e X5 ⟨rfl, b5⟩
        have HR5 := Lib.hid (HR4.out.up b5)
        refine hK.out _ _ (rangeAll HR5.out.p) (fun hHeld => ?_)
        clear hK K b5 HR4
        refine held_take (v := ?v497) 18 rfl (by kernel_rfl) (by kernel_rfl) (by kernel_rfl) (fun _ _ _ h => h) (by rfl) ?y497 (by assumption) ?_
        case y497 => (intro w hSw; unfold RunS at hSw; go_simp; (try with_reducible rfl); (try omega))
        simp only [List.setIfInBounds_toArray, List.set_cons_zero, List.set_cons_succ]
        refine held_take (v := ?v500) 19 rfl (by kernel_rfl) (by kernel_rfl) (by kernel_rfl) (fun _ _ _ h => h) (by rfl) ?y500 (by assumption) ?_
        case y500 => (intro w hSw; unfold RunS at hSw; go_simp; (try with_reducible rfl); (try omega))
        simp only [List.setIfInBounds_toArray, List.set_cons_zero, List.set_cons_succ]
        refine wpAnyH_done (by kernel_rfl) ?_ _
        refine NoPanic.normal ?_
        go_wp2
        go_roundw
        case rel => exact ⟨j + 1, _, _, hlt, by go_num, HR5, HUB2⟩
        case measure => simp [intOf]; omega
      by_cases hk4 : x.k = 4
      · rw [hk4] at c0
        have c1 := (HXY.out.cell 1).trans (show _ = some (.int .i64 x.id) from rfl)
        have HUB2 := Lib.hid (HUB.out.unref x.id)
        have HA := Lib.hid (HRY.out.z.unref HUB.out (by omega) x.id)
        go_wp2_with (first
          | (refine plV rfl (.agg (stR14 x).toArray) (exec_load_any _ (.tmp 24) rfl b (k + j * 9) _ _ rfl HRG.out Tryd.underlying60 rfl st14_info) ?_)
          | (refine wpList_store_bx rfl 60 (.tmp 9) (.tmp 25) rfl wr.heap.size (stR14 x) _ rfl rfl HX0.out st14_info rfl (stR14_one x) ?_)
          | (go_at_call 16; refine HA.out.mono ?_; rintro e X1 ⟨rfl, z1, k1⟩; refine Hid.out ?_))
        refine Lib.hid ?_
        have HR1 := Lib.hid (HRY.out.pool z1 k1)
        have HX1 := Lib.hid (k1.bx HXY.out (by decide) (by decide) (by decide))
        have d1 := (HX1.out.cell 1).trans (show _ = some (.int .i64 x.id) from rfl)
        clear z1 k1 HA HRY HXY c0 c1 HX0 HRG ez2
        have HD := Lib.hid (HR1.out.d.unref HUB.out (by omega) HR1.out.base x.id)
        go_wp2_with (first
          | (refine plV rfl (p14V true room vd) (exec_load_any _ (.tmp 4) rfl WR.heap.size 0 _ _ rfl (rangeAll HR1.out.p) Tryd.underlying32 rfl p14_info) ?_)
          | (go_at_call 25; refine HD.out.mono ?_; rintro e X2 ⟨v', rfl, d2, b2⟩; refine Hid.out ?_))
        refine Lib.hid ?_
        have HR2 := Lib.hid (HR1.out.doc d2 b2)
        clear HD d2 b2 HR1 HX1
        go_wp2_with (refine wpList_store_bx rfl 32 (.tmp 4) (.tmp 109) rfl WR.heap.size (p14R true room v') _ rfl rfl HR2.out.p p14_info rfl (p14_one true room v' HR2.out.d.one) ?_)
        have HR3 := Lib.hid HR2.out.put
        clear HR2
        generalize X2.setRow WR.heap.size (p14R true room v').toArray = X3 at *
        have HR4 := Lib.hid HR3.out.drew
        clear HR3
        refine wp_region_noPanic ?_
        refine wp_region_held_drew (S := RunS WR.heap.size room v') (by kernel_rfl) (rangeAll HR4.out.p) (fun hHeld => ?_)
        generalize X3.drew = X4 at *
        refine held_take (v := ?v539) 0 rfl (by kernel_rfl) (by kernel_rfl) (by kernel_rfl) (fun _ _ _ h => h) (by rfl) ?y539 (by assumption) ?_
        case y539 => (intro w hSw; unfold RunS at hSw; go_simp; (try with_reducible rfl); (try omega))
        simp only [List.setIfInBounds_toArray, List.set_cons_zero, List.set_cons_succ]
        refine held_take (v := ?v542) 1 rfl (by kernel_rfl) (by kernel_rfl) (by kernel_rfl) (fun _ _ _ h => h) (by rfl) ?y542 (by assumption) ?_
        case y542 => (intro w hSw; unfold RunS at hSw; go_simp; (try with_reducible rfl); (try omega))
        simp only [List.setIfInBounds_toArray, List.set_cons_zero, List.set_cons_succ]
        refine held_take (v := ?v545) 2 rfl (by kernel_rfl) (by kernel_rfl) (by kernel_rfl) (fun _ _ _ h => h) (by rfl) ?y545 (by assumption) ?_
        case y545 => (intro w hSw; unfold RunS at hSw; go_simp; (try with_reducible rfl); (try omega))
        simp only [List.setIfInBounds_toArray, List.set_cons_zero, List.set_cons_succ]
        refine held_take (v := ?v548) 3 rfl (by kernel_rfl) (by kernel_rfl) (by kernel_rfl) (fun _ _ _ h => h) (by rfl) ?y548 (by assumption) ?_
        case y548 => (intro w hSw; unfold RunS at hSw; go_simp; (try with_reducible rfl); (try omega))
        simp only [List.setIfInBounds_toArray, List.set_cons_zero, List.set_cons_succ]
        refine held_take (v := ?v551) 4 rfl (by kernel_rfl) (by kernel_rfl) (by kernel_rfl) (fun _ _ _ h => h) (by rfl) ?y551 (by assumption) ?_
        case y551 => (intro w hSw; unfold RunS at hSw; go_simp; (try with_reducible rfl); (try omega))
        simp only [List.setIfInBounds_toArray, List.set_cons_zero, List.set_cons_succ]
        refine held_take (v := ?v554) 5 rfl (by kernel_rfl) (by kernel_rfl) (by kernel_rfl) (fun _ _ _ h => h) (by rfl) ?y554 (by assumption) ?_
        case y554 => (intro w hSw; unfold RunS at hSw; go_simp; (try with_reducible rfl); (try omega))
        simp only [List.setIfInBounds_toArray, List.set_cons_zero, List.set_cons_succ]
        refine held_take (v := ?v557) 6 rfl (by kernel_rfl) (by kernel_rfl) (by kernel_rfl) (fun _ _ _ h => h) (by rfl) ?y557 (by assumption) ?_
        case y557 => (intro w hSw; unfold RunS at hSw; go_simp; (try with_reducible rfl); (try omega))
        simp only [List.setIfInBounds_toArray, List.set_cons_zero, List.set_cons_succ]
        refine held_take (v := ?v560) 7 rfl (by kernel_rfl) (by kernel_rfl) (by kernel_rfl) (fun _ _ _ h => h) (by rfl) ?y560 (by assumption) ?_
        case y560 => (intro w hSw; unfold RunS at hSw; go_simp; (try with_reducible rfl); (try omega))
        simp only [List.setIfInBounds_toArray, List.set_cons_zero, List.set_cons_succ]
        refine held_take (v := ?v563) 8 rfl (by kernel_rfl) (by kernel_rfl) (by kernel_rfl) (fun _ _ _ h => h) (by rfl) ?y563 (by assumption) ?_
        case y563 => (intro w hSw; unfold RunS at hSw; go_simp; (try with_reducible rfl); (try omega))
        simp only [List.setIfInBounds_toArray, List.set_cons_zero, List.set_cons_succ]
        refine held_take (v := ?v566) 9 rfl (by kernel_rfl) (by kernel_rfl) (by kernel_rfl) (fun _ _ _ h => h) (by rfl) ?y566 (by assumption) ?_
        case y566 => (intro w hSw; unfold RunS at hSw; go_simp; (try with_reducible rfl); (try omega))
        simp only [List.setIfInBounds_toArray, List.set_cons_zero, List.set_cons_succ]
        refine held_take (v := ?v569) 10 rfl (by kernel_rfl) (by kernel_rfl) (by kernel_rfl) (fun _ _ _ h => h) (by rfl) ?y569 (by assumption) ?_
        case y569 => (intro w hSw; unfold RunS at hSw; go_simp; (try with_reducible rfl); (try omega))
        simp only [List.setIfInBounds_toArray, List.set_cons_zero, List.set_cons_succ]
        refine held_take (v := ?v572) 11 rfl (by kernel_rfl) (by kernel_rfl) (by kernel_rfl) (fun _ _ _ h => h) (by rfl) ?y572 (by assumption) ?_
        case y572 => (intro w hSw; unfold RunS at hSw; go_simp; (try with_reducible rfl); (try omega))
        simp only [List.setIfInBounds_toArray, List.set_cons_zero, List.set_cons_succ]
        refine held_take (v := ?v575) 12 rfl (by kernel_rfl) (by kernel_rfl) (by kernel_rfl) (fun _ _ _ h => h) (by rfl) ?y575 (by assumption) ?_
        case y575 => (intro w hSw; unfold RunS at hSw; go_simp; (try with_reducible rfl); (try omega))
        simp only [List.setIfInBounds_toArray, List.set_cons_zero, List.set_cons_succ]
        refine held_take (v := ?v578) 13 rfl (by kernel_rfl) (by kernel_rfl) (by kernel_rfl) (fun _ _ _ h => h) (by rfl) ?y578 (by assumption) ?_
        case y578 => (intro w hSw; unfold RunS at hSw; go_simp; (try with_reducible rfl); (try omega))
        simp only [List.setIfInBounds_toArray, List.set_cons_zero, List.set_cons_succ]
        refine held_take (v := ?v581) 14 rfl (by kernel_rfl) (by kernel_rfl) (by kernel_rfl) (fun _ _ _ h => h) (by rfl) ?y581 (by assumption) ?_
        case y581 => (intro w hSw; unfold RunS at hSw; go_simp; (try with_reducible rfl); (try omega))
        simp only [List.setIfInBounds_toArray, List.set_cons_zero, List.set_cons_succ]
        refine held_take (v := p14V true room v') 16 rfl (by kernel_rfl) (by kernel_rfl) (by kernel_rfl) (fun _ _ _ h => h) (by rfl) (fun W hSw => exec_load_any _ (.tmp 4) rfl WR.heap.size 0 _ _ rfl hSw Tryd.underlying32 rfl p14_info) (by assumption) ?_
        simp only [List.setIfInBounds_toArray, List.set_cons_zero, List.set_cons_succ]
        refine held_one 15 rfl (by kernel_rfl) (by rfl) (fun K hK => ?_)
        go_simp
        refine HR4.out.z.len.mono ?_
        rintro e _ ⟨rfl, rfl⟩
        refine hK.out _ _ hHeld (fun hHeld => ?_)
        clear hK K
        refine held_one 17 rfl (by kernel_rfl) (by rfl) (fun K hK => ?_)
        go_simp
        refine (HR4.out.d.len HUB2.out (by omega) true room).mono ?_
        rintro e X5 ⟨rfl, b5⟩
        have HR5 := Lib.hid (HR4.out.up b5)
        refine hK.out _ _ (rangeAll HR5.out.p) (fun hHeld => ?_)
        clear hK K b5 HR4
        refine held_take (v := ?v599) 18 rfl (by kernel_rfl) (by kernel_rfl) (by kernel_rfl) (fun _ _ _ h => h) (by rfl) ?y599 (by assumption) ?_
        case y599 => (intro w hSw; unfold RunS at hSw; go_simp; (try with_reducible rfl); (try omega))
        simp only [List.setIfInBounds_toArray, List.set_cons_zero, List.set_cons_succ]
        refine held_take (v := ?v602) 19 rfl (by kernel_rfl) (by kernel_rfl) (by kernel_rfl) (fun _ _ _ h => h) (by rfl) ?y602 (by assumption) ?_
        case y602 => (intro w hSw; unfold RunS at hSw; go_simp; (try with_reducible rfl); (try omega))
        simp only [List.setIfInBounds_toArray, List.set_cons_zero, List.set_cons_succ]
        refine wpAnyH_done (by kernel_rfl) ?_ _
        refine NoPanic.normal ?_
        go_wp2
        go_roundw
        case rel => exact ⟨j + 1, _, _, hlt, by go_num, HR5, HUB2⟩
        case measure => simp [intOf]; omega
      have e0 : (x.k == 0) = false := by simpa using hk0
      have e1 : (x.k == 1) = false := by simpa using hk1
      have e2 : (x.k == 2) = false := by simpa using hk2
      have e3 : (x.k == 3) = false := by simpa using hk3
      have e4 : (x.k == 4) = false := by simpa using hk4
      have HUB2 := Lib.hid HUB.out.more
      go_wp2_with (first
        | (refine plV rfl (.agg (stR14 x).toArray) (exec_load_any _ (.tmp 24) rfl b (k + j * 9) _ _ rfl HRG.out Tryd.underlying60 rfl st14_info) ?_)
        | (refine wpList_store_bx rfl 60 (.tmp 9) (.tmp 25) rfl wr.heap.size (stR14 x) _ rfl rfl HX0.out st14_info rfl (stR14_one x) ?_))
      have HR3 := Lib.hid HRY.out
      generalize (wr.alloc (.cells (stR14 st0).toArray 60)).setRow wr.heap.size (stR14 x).toArray = X3 at *
      clear HRY HXY HX0 HRG ez2 c0 e0 e1 e2 e3 e4
      have HR4 := Lib.hid HR3.out.drew
      clear HR3
      refine wp_region_noPanic ?_
      refine wp_region_held_drew (S := RunS WR.heap.size room vd) (by kernel_rfl) (rangeAll HR4.out.p) (fun hHeld => ?_)
      generalize X3.drew = X4 at *
      refine held_take (v := ?v628) 0 rfl (by kernel_rfl) (by kernel_rfl) (by kernel_rfl) (fun _ _ _ h => h) (by rfl) ?y628 (by assumption) ?_
      case y628 => (intro w hSw; unfold RunS at hSw; go_simp; (try with_reducible rfl); (try omega))
      simp only [List.setIfInBounds_toArray, List.set_cons_zero, List.set_cons_succ]
      refine held_take (v := ?v631) 1 rfl (by kernel_rfl) (by kernel_rfl) (by kernel_rfl) (fun _ _ _ h => h) (by rfl) ?y631 (by assumption) ?_
      case y631 => (intro w hSw; unfold RunS at hSw; go_simp; (try with_reducible rfl); (try omega))
      simp only [List.setIfInBounds_toArray, List.set_cons_zero, List.set_cons_succ]
      refine held_take (v := ?v634) 2 rfl (by kernel_rfl) (by kernel_rfl) (by kernel_rfl) (fun _ _ _ h => h) (by rfl) ?y634 (by assumption) ?_
      case y634 => (intro w hSw; unfold RunS at hSw; go_simp; (try with_reducible rfl); (try omega))
      simp only [List.setIfInBounds_toArray, List.set_cons_zero, List.set_cons_succ]
      refine held_take (v := ?v637) 3 rfl (by kernel_rfl) (by kernel_rfl) (by kernel_rfl) (fun _ _ _ h => h) (by rfl) ?y637 (by assumption) ?_
      case y637 => (intro w hSw; unfold RunS at hSw; go_simp; (try with_reducible rfl); (try omega))
      simp only [List.setIfInBounds_toArray, List.set_cons_zero, List.set_cons_succ]
      refine held_take (v := ?v640) 4 rfl (by kernel_rfl) (by kernel_rfl) (by kernel_rfl) (fun _ _ _ h => h) (by rfl) ?y640 (by assumption) ?_
      case y640 => (intro w hSw; unfold RunS at hSw; go_simp; (try with_reducible rfl); (try omega))
      simp only [List.setIfInBounds_toArray, List.set_cons_zero, List.set_cons_succ]
      refine held_take (v := ?v643) 5 rfl (by kernel_rfl) (by kernel_rfl) (by kernel_rfl) (fun _ _ _ h => h) (by rfl) ?y643 (by assumption) ?_
      case y643 => (intro w hSw; unfold RunS at hSw; go_simp; (try with_reducible rfl); (try omega))
      simp only [List.setIfInBounds_toArray, List.set_cons_zero, List.set_cons_succ]
      refine held_take (v := ?v646) 6 rfl (by kernel_rfl) (by kernel_rfl) (by kernel_rfl) (fun _ _ _ h => h) (by rfl) ?y646 (by assumption) ?_
      case y646 => (intro w hSw; unfold RunS at hSw; go_simp; (try with_reducible rfl); (try omega))
      simp only [List.setIfInBounds_toArray, List.set_cons_zero, List.set_cons_succ]
      refine held_take (v := ?v649) 7 rfl (by kernel_rfl) (by kernel_rfl) (by kernel_rfl) (fun _ _ _ h => h) (by rfl) ?y649 (by assumption) ?_
      case y649 => (intro w hSw; unfold RunS at hSw; go_simp; (try with_reducible rfl); (try omega))
      simp only [List.setIfInBounds_toArray, List.set_cons_zero, List.set_cons_succ]
      refine held_take (v := ?v652) 8 rfl (by kernel_rfl) (by kernel_rfl) (by kernel_rfl) (fun _ _ _ h => h) (by rfl) ?y652 (by assumption) ?_
      case y652 => (intro w hSw; unfold RunS at hSw; go_simp; (try with_reducible rfl); (try omega))
      simp only [List.setIfInBounds_toArray, List.set_cons_zero, List.set_cons_succ]
      refine held_take (v := ?v655) 9 rfl (by kernel_rfl) (by kernel_rfl) (by kernel_rfl) (fun _ _ _ h => h) (by rfl) ?y655 (by assumption) ?_
      case y655 => (intro w hSw; unfold RunS at hSw; go_simp; (try with_reducible rfl); (try omega))
      simp only [List.setIfInBounds_toArray, List.set_cons_zero, List.set_cons_succ]
      refine held_take (v := ?v658) 10 rfl (by kernel_rfl) (by kernel_rfl) (by kernel_rfl) (fun _ _ _ h => h) (by rfl) ?y658 (by assumption) ?_
      case y658 => (intro w hSw; unfold RunS at hSw; go_simp; (try with_reducible rfl); (try omega))
      simp only [List.setIfInBounds_toArray, List.set_cons_zero, List.set_cons_succ]
      refine held_take (v := ?v661) 11 rfl (by kernel_rfl) (by kernel_rfl) (by kernel_rfl) (fun _ _ _ h => h) (by rfl) ?y661 (by assumption) ?_
      case y661 => (intro w hSw; unfold RunS at hSw; go_simp; (try with_reducible rfl); (try omega))
      simp only [List.setIfInBounds_toArray, List.set_cons_zero, List.set_cons_succ]
      refine held_take (v := ?v664) 12 rfl (by kernel_rfl) (by kernel_rfl) (by kernel_rfl) (fun _ _ _ h => h) (by rfl) ?y664 (by assumption) ?_
      case y664 => (intro w hSw; unfold RunS at hSw; go_simp; (try with_reducible rfl); (try omega))
      simp only [List.setIfInBounds_toArray, List.set_cons_zero, List.set_cons_succ]
      refine held_take (v := ?v667) 13 rfl (by kernel_rfl) (by kernel_rfl) (by kernel_rfl) (fun _ _ _ h => h) (by rfl) ?y667 (by assumption) ?_
      case y667 => (intro w hSw; unfold RunS at hSw; go_simp; (try with_reducible rfl); (try omega))
      simp only [List.setIfInBounds_toArray, List.set_cons_zero, List.set_cons_succ]
      refine held_take (v := ?v670) 14 rfl (by kernel_rfl) (by kernel_rfl) (by kernel_rfl) (fun _ _ _ h => h) (by rfl) ?y670 (by assumption) ?_
      case y670 => (intro w hSw; unfold RunS at hSw; go_simp; (try with_reducible rfl); (try omega))
      simp only [List.setIfInBounds_toArray, List.set_cons_zero, List.set_cons_succ]
      refine held_take (v := p14V true room vd) 16 rfl (by kernel_rfl) (by kernel_rfl) (by kernel_rfl) (fun _ _ _ h => h) (by rfl) (fun W hSw => exec_load_any _ (.tmp 4) rfl WR.heap.size 0 _ _ rfl hSw Tryd.underlying32 rfl p14_info) (by assumption) ?_
      simp only [List.setIfInBounds_toArray, List.set_cons_zero, List.set_cons_succ]
      refine held_one 15 rfl (by kernel_rfl) (by rfl) (fun K hK => ?_)
      go_simp
      refine HR4.out.z.len.mono ?_
      rintro e _ ⟨rfl, rfl⟩
      refine hK.out _ _ hHeld (fun hHeld => ?_)
      clear hK K
      refine held_one 17 rfl (by kernel_rfl) (by rfl) (fun K hK => ?_)
      go_simp
      refine (HR4.out.d.len HUB2.out (by omega) true room).mono ?_
      rintro e X5 ⟨rfl, b5⟩
      have HR5 := Lib.hid (HR4.out.up b5)
      refine hK.out _ _ (rangeAll HR5.out.p) (fun hHeld => ?_)
      clear hK K b5 HR4
      refine held_take (v := ?v688) 18 rfl (by kernel_rfl) (by kernel_rfl) (by kernel_rfl) (fun _ _ _ h => h) (by rfl) ?y688 (by assumption) ?_
      case y688 => (intro w hSw; unfold RunS at hSw; go_simp; (try with_reducible rfl); (try omega))
      simp only [List.setIfInBounds_toArray, List.set_cons_zero, List.set_cons_succ]
      refine held_take (v := ?v691) 19 rfl (by kernel_rfl) (by kernel_rfl) (by kernel_rfl) (fun _ _ _ h => h) (by rfl) ?y691 (by assumption) ?_
      case y691 => (intro w hSw; unfold RunS at hSw; go_simp; (try with_reducible rfl); (try omega))
      simp only [List.setIfInBounds_toArray, List.set_cons_zero, List.set_cons_succ]
      refine wpAnyH_done (by kernel_rfl) ?_ _
      refine NoPanic.normal ?_
      go_wp2
      go_roundw
      case rel => exact ⟨j + 1, _, _, hlt, by go_num, HR5, HUB2⟩
      case measure => simp [intOf]; omega
    · obtain rfl : j = l.length := by omega
      have hni : ¬ (l.length : Int) < (l.length : Int) := by omega
      have HFZ := Lib.hid (show Ub room us 60 from ⟨Nat.le_trans HUB.out.len hl, HUB.out.cnt, fun i => ⟨(HUB.out.u i).1, by have := (HUB.out.u i).2; omega⟩⟩)
      go_wp2_with (first
        | (refine plV rfl (p14V true room vd) (exec_load_any _ (.tmp 4) rfl WR.heap.size 0 _ _ rfl (rangeAll HZ.out.p) Tryd.underlying32 rfl p14_info) ?_)
        | (refine wpList_store_bx rfl 32 (.tmp 6) (.tmp 133) rfl (WR.heap.size + 1) (p14R true room vd) _ rfl rfl HZ.out.r p14_info rfl (p14_one true room vd HZ.out.d.one) ?_))
      have HE := Lib.hid (show ZU w pt room us _ ∧ DU w us vd _ ∧ Kz w WR _ from ⟨HZ.out.z.other (kp_setRow wr (WR.heap.size + 1) (p14R true room vd).toArray) HZ.out.r (by decide) (by decide) (by decide) (Nat.le_succ_of_le HZ.out.low), HZ.out.d.other (kp_setRow wr (WR.heap.size + 1) (p14R true room vd).toArray) HZ.out.r (by decide), HZ.out.k.more (below_row (Below.refl _ _) (show WR.heap.size ≤ WR.heap.size + 1 from Nat.le_succ _) (p14R true room vd).toArray)⟩)
      exact bodyPost_ret (results_row2 Tryd.results9 _ _ (WR.heap.size + 1) _ rfl (HZ.out.r.row (p14R true room vd)) Tryd.underlying32 rfl p14_info) rfl ⟨us, vd, rfl, HE.out.1, HE.out.2.1, HFZ.out, HE.out.2.2⟩
end Go.Proofs.YtoliijajhikhgaaDoor
