/- Stage 14, PoolKeeps: a thing is there as long as it is used. -/
import Derived.Test.YtoliijajhikhgaaDoorLaw14Low
namespace Go.Proofs.YtoliijajhikhgaaDoor
open Go Go.RowKit Go.Shelf
attribute [local go_sem] Oper.semAt_some

theorem TzE.here {w W : World} (h : TzE w w.heap.size) (hb : Below w.heap.size w W) : TzE W W.heap.size := by
  have h2 := h.up hb
  exact ⟨Nat.lt_of_lt_of_le h2.1 hb.size, Nat.le_refl _, h2.2.2⟩
/-- A block of another type is written. -/
theorem Z14.other {w X Y : World} {pt : Nat} {room : Int} {T : List (Value × Int)} {g : Nat} {t : TypeId} {cur : Array Value} (h : Z14 w pt room T X) (hk : KpO (fun k => k = g) X Y) (hx : X.heap[g]? = some (.cells cur t (0, 0))) (h1 : t ≠ 64) (h2 : t ≠ 74) (h3 : t ≠ 79) (hg : w.heap.size ≤ g) : Z14 w pt room T Y := by
  obtain ⟨⟨vt, vk, ks, m⟩, b⟩ := h
  refine ⟨⟨vt, vk, ks, m.kp hk (fun k ho e => ?_) (fun e => ?_)⟩, b.trans (hk.base (fun k e => by rw [e]; exact hg) b.size)⟩
  · subst e
    obtain ⟨cur, u, hc, hu⟩ := own_type14 m k ho
    rw [hx] at hc
    have h4 := Option.some.inj hc
    injection h4 with _ h5
    rcases hu with hu | hu | hu
    · exact h1 (h5.trans hu)
    · exact h2 (h5.trans hu)
    · exact h3 (h5.trans hu)
  · have := m.tz.1
    omega
theorem cnt_set14 {T1 : List (Value × Int)} {us : List Int} (h : usT T1 = addU us) (v : Value) (u : Int) : cntU (usT (T1.set (freeU us) (v, u))) = cntU us + (if 0 < u then 1 else 0) := by
  have hl : freeU us < (addU us).length := by unfold addU; rw [List.length_set]; exact (reachU_len us).1
  have h1 := cntU_set hl u
  have h2 : usN (addU us) (freeU us) = 1 := by unfold addU; rw [usN_set (reachU_len us).1, if_pos rfl]
  rw [h2, if_pos (by decide), cntU_add] at h1
  rw [usT_set, h]
  show cntU ((addU us).set (freeU us) u) = _
  by_cases hu : 0 < u
  · rw [if_pos hu] at h1 ⊢; omega
  · rw [if_neg hu] at h1 ⊢; omega
theorem at_set14 {T1 : List (Value × Int)} {f : Nat} (hf : f < T1.length) (x : Value × Int) : (T1.set f x)[f]? = some x := List.getElem?_set_self hf
/-- Behind AddHop. -/
structure KpZ (w : World) (pt : Nat) (T : List (Value × Int)) (ud : List Int) (vd : Value) (g B : Nat) (L R : Value) (lab rep : List Int) (X : World) : Prop where
  z : Z14 w pt 100 T X
  d : DU w ud vd X
  p : Bx X g 32 (p14R true 100 vd)
  L : X.ownsRow B 3 1 L lab.length (lab.flatMap intR)
  R : X.ownsRow B 3 1 R rep.length (rep.flatMap intR)
section
variable {w X Y : World} {pt : Nat} {T T' : List (Value × Int)} {ud : List Int} {vd : Value} {g B : Nat} {L R : Value} {lab rep : List Int}
theorem KpZ.up (h : KpZ w pt T ud vd g B L R lab rep X) (hb : Below X.heap.size X Y) : KpZ w pt T ud vd g B L R lab rep Y := ⟨h.z.up hb, h.d.up hb, h.p.up hb, own_below h.L hb, own_below h.R hb⟩
theorem KpZ.to (h : KpZ w pt T ud vd g B L R lab rep X) (z : Z14 w pt 100 T' Y) (k : Kz w X Y) : KpZ w pt T' ud vd g B L R lab rep Y := ⟨z, h.d.kz k, k.bx h.p (by decide) (by decide) (by decide), k.own h.L (by decide) (by decide) (by decide), k.own h.R (by decide) (by decide) (by decide)⟩
/-- A cell of another row of ints is written. -/
theorem KpZ.ints (h : KpZ w pt T ud vd g B L R lab rep X) {b' c n : Nat} {v : Value} {xs : List Value} {k : Nat} (hv : X.ownsRow b' 3 c v n xs) (hk : v.ownBlock = some k) (hg : w.heap.size ≤ k) (hL : L.ownBlock ≠ some k) (hR : R.ownBlock ≠ some k) (i : Nat) (u : Value) : KpZ w pt T ud vd g B L R lab rep (X.setCell ⟨k, i, none⟩ u) := by
  obtain ⟨cur, hc⟩ := own_type hv k hk
  have K := KpO.set (O := fun j => j = k) X k i u rfl
  refine ⟨h.z.other K hc (by decide) (by decide) (by decide) hg, h.d.imp fun D q => ⟨q.1, own_kp q.2.1 K (fun j e e2 => ?_), q.2.2⟩, h.p.kp K (fun e => ?_), own_kp h.L K (fun j e e2 => hL (by rw [e, e2])), own_kp h.R K (fun j e e2 => hR (by rw [e, e2]))⟩
  · subst e2
    obtain ⟨cur2, hc2⟩ := own_type q.2.1 j e
    rw [hc] at hc2
    have h4 := Option.some.inj hc2
    injection h4 with _ h5
    exact absurd h5 (by decide)
  · have h2 := h.p
    unfold Bx at h2
    rw [e] at h2
    rw [hc] at h2
    have h4 := Option.some.inj h2
    injection h4 with _ h5
    exact absurd h5 (by decide)
end
/-- With a hop in a box, of rows of its own. -/
structure K3Z (w : World) (pt : Nat) (T : List (Value × Int)) (ud : List Int) (vd : Value) (g B : Nat) (L R : Value) (lab rep : List Int) (gb B2 : Nat) (o : Int) (L2 : Value) (p b : Int) (R2 : Value) (pp : Bool) (X : World) : Prop where
  k : KpZ w pt T ud vd g B L R lab rep X
  x : Bx X gb 25 (hopR o L2 p b R2 pp)
  l : X.ownsRow B2 3 1 L2 lab.length (lab.flatMap intR)
theorem K3Z.up {w X Y : World} {pt : Nat} {T : List (Value × Int)} {ud : List Int} {vd : Value} {g B : Nat} {L R : Value} {lab rep : List Int} {gb B2 : Nat} {o : Int} {L2 : Value} {p b : Int} {R2 : Value} {pp : Bool} (h : K3Z w pt T ud vd g B L R lab rep gb B2 o L2 p b R2 pp X) (hb : Below X.heap.size X Y) : K3Z w pt T ud vd g B L R lab rep gb B2 o L2 p b R2 pp Y := ⟨h.k.up hb, h.x.up hb, own_below h.l hb⟩
def KeepS (g3 n c g21 gP : Nat) (x0 : Int) (vd : Value) (W : World) : Prop := W.cell? ⟨g21, 1, none⟩ = some (.slice (some ⟨g3, 0, none⟩) n c) ∧ W.cell? ⟨g3, 0, none⟩ = some (.int .i64 x0) ∧ W.rangeAt gP 0 (p14R true 100 vd)
theorem K3Z.held {w X : World} {pt : Nat} {T : List (Value × Int)} {ud : List Int} {vd : Value} {g B : Nat} {L R : Value} {lab rep : List Int} {gb B2 : Nat} {o : Int} {g3 c : Nat} {p b : Int} {R2 : Value} {pp : Bool} {x0 : Int} (h : K3Z w pt T ud vd g B L R lab rep gb B2 o (.slice (some ⟨g3, 0, none⟩) lab.length c) p b R2 pp X) (hx0 : lab[0]? = some x0) : KeepS g3 lab.length c gb g x0 vd X :=
  ⟨h.x.cell 1, by have := ownG_range h.l (fun _ _ => rfl) 0 x0 hx0 0 _ rfl; simpa using this, rangeAll h.k.p⟩
theorem K3Z.low {w X : World} {pt : Nat} {T : List (Value × Int)} {ud : List Int} {vd : Value} {g B : Nat} {L R : Value} {lab rep : List Int} {gb B2 : Nat} {o : Int} {L2 : Value} {p b : Int} {R2 : Value} {pp : Bool} (h : K3Z w pt T ud vd g B L R lab rep gb B2 o L2 p b R2 pp X) : LowZ w pt 100 T ud vd g X := ⟨h.k.z, h.k.d, h.k.p⟩
/-- What becomes of the thing as it is let go. -/
def TT14 (T1 : List (Value × Int)) (f : Nat) (hop : Value) (i j : Nat) : List (Value × Int) := if j ≤ i then T1.set f (hop, 1 + (i : Int) - (j : Int)) else T1.set f (.nilIface, 0)
/-- 'append(own, x...)', own nil. -/
theorem dup_ints' {w : World} {ops : Array Oper} {rest : List Oper} {o : Oper} {a : Act} {Q : Exit → Act → World → Prop} (hgd : o.guard = none) (s x : Operand)
    (ho : o.op = .call { callee := .builtin .append, args := #[s, x], argTypes := #[23, 23] }) (hs : a.eval s = .slice none 0 0)
    (b : Option Addr) (m k : Nat) (l : List Int) (hx : a.eval x = .slice b m k) (hl : IsC intR 1 w (.slice b m k) l) (hn : l.length ≤ 1000)
    (h : ∀ a' n' c' w', w'.ownsRow w.heap.size 3 1 (.slice a' n' c') l.length (l.flatMap intR) → Below w.heap.size w w' → wpList Tryd.prog ops Q rest (a.put o.dst (.slice a' n' c')) w') : wpList Tryd.prog ops Q (o :: rest) a w := by
  refine append_cs hgd _ _ 23 3 ho (.int .i64 0) 8 Tryd.underlying23 int_infoF rfl (by decide) (by decide) w.heap.size (.slice none 0 0) 0 [] hs (World.ownsRow_nil _ _ _ _) b m k l hx hl (intR_all l) (by omega) (Nat.le_refl _) ?_
  intro v1 W1 hO hg
  rw [Nat.zero_add, List.nil_append] at hO
  obtain ⟨a', n', c', rfl⟩ := slice_ex hO
  exact h a' n' c' W1 hO ((KpO.grown14 hg).base (fun k e => by cases e) (Nat.le_refl _))
set_option maxRecDepth 100000 in
set_option maxHeartbeats 32000000 in
theorem keeps14_walk (a : Option Addr) (n0 c : Nat) (l : List St14) (o : Int) (aL : Option Addr) (nL cL : Nat) (p b : Int) (aR : Option Addr) (nR cR : Nat) (pp : Bool) (lab rep : List Int) (m : Nat) (w : World) (hS : S14 w (.slice a n0 c) l) (hL : IsC intR 1 w (.slice aL nL cL) lab) (hR : IsC intR 1 w (.slice aR nR cR) rep) (hm : m ≤ 255) (hz : TzE w w.heap.size) :
    Calls Tryd.prog 3 #[.slice a n0 c, .agg (hopR o (.slice aL nL cL) p b (.slice aR nR cR) pp).toArray, .int .u8 (m : Int)] w fun e w' => e = .returned (.bool true) ∧ Below w.heap.size w w' := by
  obtain rfl := hL.shape.1
  obtain rfl := hR.shape.1
  have hbH := (Below.refl w.heap.size w).alloc (Nat.le_refl _) (.cells (hopR o (.slice aL lab.length cL) p b (.slice aR rep.length cR) pp).toArray 25)
  have HA := Lib.hid (awake14 _ (hz.here hbH))
  have HSM := Lib.hid (fun (W : World) (hb : Below w.heap.size w W) => small14 _ l W (hS.c.below hb))
  have HS := Lib.hid hS
  have HTZ := Lib.hid hz
  have HL := Lib.hid hL
  have HR := Lib.hid hR
  have HBH := Lib.hid hbH
  have HXH := Lib.hid (Bx.new w 25 (hopR o (.slice aL lab.length cL) p b (.slice aR rep.length cR) pp))
  clear hS hz hL hR hbH
  go_enter Tryd.func3, Tryd.ntmps3
  go_wp2_with (first
    | (go_at_call 5; refine HA.out.mono ?_; rintro e w1 ⟨rfl, b1⟩)
    | (go_at_call 6; refine (HSM.out _ (below_up HBH.out b1 HBH.out.size)).mono ?_; rintro e _ ⟨rfl, ⟨few, rfl, hfew⟩⟩; refine Hid.out ?_))
  refine Lib.hid ?_
  have HB1 := Lib.hid (below_up HBH.out b1 HBH.out.size)
  have HX1 := Lib.hid (HXH.out.up b1)
  have HFEW := Lib.hid hfew
  clear b1 hfew HA HSM HXH HBH
  have c1 := (HX1.out.cell 1).trans (show _ = some (.slice aL lab.length cL) from rfl)
  have c4 := (HX1.out.cell 4).trans (show _ = some (.slice aR rep.length cR) from rfl)
  cases few with
  | false =>
    go_wp2
    go_ret
    exact ⟨rfl, HB1.out⟩
  | true =>
    obtain ⟨hl, hok⟩ := HFEW.out rfl
    have HOK := Lib.hid hok
    clear HFEW hok
    by_cases h0 : lab.length = 0
    · have h0i : ((lab.length : Int) == 0) = true := by simp [h0]
      go_wp2
      go_ret
      exact ⟨rfl, HB1.out⟩
    have h0i : ((lab.length : Int) == 0) = false := beq_eq_false_iff_ne.2 (by omega)
    by_cases h1 : (lab.length : Int) > 20
    · go_wp2
      go_ret
      exact ⟨rfl, HB1.out⟩
    by_cases h2 : (rep.length : Int) > 20
    · go_wp2
      go_ret
      exact ⟨rfl, HB1.out⟩
    have HNEW := Lib.hid (Z14.new (n := 100) (by decide) (by decide) HTZ.out HB1.out)
    go_wp2_with (go_at_call 7; refine HNEW.out.mono ?_; rintro e w2 ⟨pt, rfl, z2, b2⟩; refine Hid.out ?_)
    refine Lib.hid ?_
    have Z2 := Lib.hid z2
    have HX2 := Lib.hid (HX1.out.up b2)
    clear z2 HNEW b2 c1 c4 HX1
    go_wp2_with (go_at_call 8; refine (rnew14 100 w2 (by decide) (by decide)).mono ?_; rintro e w3 ⟨rfl, b3⟩; refine Hid.out ?_)
    refine Lib.hid ?_
    have ez : (#[.bool false, .int .i64 0, .slice none 0 0] : Array Value) = (p14R false 0 (.slice none 0 0)).toArray := rfl
    have hbf := below_fresh w3 (.cells (p14R false 0 (.slice none 0 0)).toArray 32) (p14R true 100 (.slice none 0 0)).toArray
    have HP0 := Lib.hid (Bx.new w3 32 (p14R false 0 (.slice none 0 0)))
    have HP5 := Lib.hid (HP0.out.row (p14R true 100 (.slice none 0 0)))
    have HX5 := Lib.hid ((HX2.out.up b3).up hbf)
    have Z5 := Lib.hid ((Z2.out.up b3).up hbf)
    have HG3 := Lib.hid (show w.heap.size < w3.heap.size from (HX2.out.up b3).lt)
    have HRUN := Lib.hid (run14 w _ pt 100 (.slice none 0 0) _ l ⟨[], rfl, Z5.out⟩ (DU.none w _) (by decide) HS.out hl HOK.out)
    clear b3 Z2 hbf HX2
    go_wp2_with (first
      | (refine wpList_store_bx rfl 32 (.tmp 10) (.tmp 56) rfl w3.heap.size (p14R true 100 (.slice none 0 0)) _ rfl rfl HP0.out p14_info rfl (p14_one true 100 _ rfl) ?_)
      | (refine plV rfl (p14V true 100 (.slice none 0 0)) (exec_load_any _ (.tmp 10) rfl w3.heap.size 0 _ _ rfl (rangeAll HP5.out) Tryd.underlying32 rfl p14_info) ?_)
      | (go_at_call 9; refine HRUN.out.mono ?_; rintro e w6 ⟨us, vd, rfl, z6, d6, u6, k6⟩; refine Hid.out ?_))
    refine Lib.hid ?_
    have HX6 := Lib.hid (k6.bx HX5.out (by decide) (by decide) (by decide))
    have HP6 := Lib.hid (k6.bx HP5.out (by decide) (by decide) (by decide))
    obtain ⟨T, hT, zT⟩ := z6
    have hl4 := u6.len
    have hTl : T.length ≤ 60 := by rw [← usT_len, hT]; exact hl4
    have HT := Lib.hid hT
    have HU := Lib.hid u6
    have HDO := Lib.hid d6.one
    have Z7 := Lib.hid (zT.other (kp_setRow w6 w3.heap.size (p14R true 100 vd).toArray) HP6.out (by decide) (by decide) (by decide) (by have := HG3.out; omega))
    have D7 := Lib.hid (d6.other (kp_setRow w6 w3.heap.size (p14R true 100 vd).toArray) HP6.out (by decide))
    have HP7 := Lib.hid (HP6.out.row (p14R true 100 vd))
    have HX7 := Lib.hid (HX6.out.rowOther (Nat.ne_of_lt HG3.out) (p14R true 100 vd).toArray)
    clear zT d6 u6 k6 hT HRUN HX5 HP5 Z5 HP0 HX6
    have c1 := (HX7.out.cell 1).trans (show _ = some (.slice aL lab.length cL) from rfl)
    go_wp2_with (first
      | (refine wpList_store_bx rfl 32 (.tmp 10) (.tmp 62) rfl w3.heap.size (p14R true 100 vd) _ rfl rfl HP6.out p14_info rfl (p14_one true 100 _ HDO.out) ?_)
      | (at_builtin; refine dup_ints' rfl (.tmp 64) (.tmp 66) rfl rfl aL lab.length cL lab rfl (HL.out.below Z7.out.b) (by omega) ?_; rintro x1 n1 d1 w8 hO8 hb8; refine Hid.out ?_))
    refine Lib.hid ?_
    obtain ⟨go, co, hv⟩ := ownG_form hO8 (by omega)
    cases hv
    have hgo := hO8.lt go rfl
    have hgow : w.heap.size ≤ go := Nat.le_trans Z7.out.b.size hgo.1
    have hO8' := own_mono hO8 Z7.out.b.size
    have Z8 := Lib.hid (Z7.out.up hb8)
    have D8 := Lib.hid (D7.out.up hb8)
    have HP8 := Lib.hid (HP7.out.up hb8)
    have HX8 := Lib.hid (HX7.out.up hb8)
    have f1 := HX8.out.frozen 1
    have c1 := (HX8.out.cell 1).trans (show _ = some (.slice aL lab.length cL) from rfl)
    have K8 := KpO.set (O := fun k => k = w.heap.size) w8 w.heap.size 1 (.slice (some ⟨go, 0, none⟩) lab.length d1) rfl
    have Z9 := Lib.hid (Z8.out.other K8 HX8.out (by decide) (by decide) (by decide) (Nat.le_refl _))
    have D9 := Lib.hid (D8.out.other K8 HX8.out (by decide))
    have HP9 := Lib.hid (HP8.out.setOther (k := w.heap.size) (Nat.ne_of_gt HG3.out) 1 (.slice (some ⟨go, 0, none⟩) lab.length d1))
    have HX9 := Lib.hid (show Bx _ w.heap.size 25 (hopR o (.slice (some ⟨go, 0, none⟩) lab.length d1) p b (.slice aR rep.length cR) pp) from HX8.out.set 1 (.slice (some ⟨go, 0, none⟩) lab.length d1))
    have HO9 := Lib.hid (own_kp hO8' K8 (fun k e q => own_ne_bx hO8' HX8.out (by decide) (by rw [e, q])))
    have HGO := Lib.hid (show go < (w8.setCell ⟨w.heap.size, 1, none⟩ (.slice (some ⟨go, 0, none⟩) lab.length d1)).heap.size from (HO9.out.lt go rfl).2)
    have HADD := Lib.hid (Z9.out.addHop o (.slice (some ⟨go, 0, none⟩) lab.length d1) p b (.slice aR rep.length cR) pp lab rep (IsC.of_owned (fun _ _ => rfl) HO9.out) (HR.out.below Z9.out.b) (by omega) (by omega) (by rw [HT.out]; have := cntU_le us; omega) (by omega))
    rw [HT.out] at HADD
    clear hO8 hO8' hb8 Z7 D7 HP7 HX7 Z8 D8 HP8 HX8 K8 HP6
    go_wp2_with (first
      | (refine plV rfl (.agg (hopR o (.slice (some ⟨go, 0, none⟩) lab.length d1) p b (.slice aR rep.length cR) pp).toArray) (exec_load_any _ (.tmp 4) rfl w.heap.size 0 _ _ rfl (rangeAll HX9.out) Tryd.underlying25 rfl hop_info) ?_)
      | (go_at_call 10; refine HADD.out.mono ?_; rintro e w10 ⟨rfl, L', R', ol, or, z10, k10⟩; refine Hid.out ?_))
    refine Lib.hid ?_
    obtain ⟨g1, c1', hv1⟩ := ownG_form ol (by omega)
    subst hv1
    have hg1 := (ol.lt g1 rfl).1
    have HKZ := Lib.hid (show KpZ w pt _ us vd w3.heap.size _ _ R' lab rep w10 from ⟨z10, D9.out.kz k10, k10.bx HP9.out (by decide) (by decide) (by decide), ol, or⟩)
    have HXA := Lib.hid (k10.bx HX9.out (by decide) (by decide) (by decide))
    have HOA := Lib.hid (k10.own HO9.out (by decide) (by decide) (by decide))
    have HRB := Lib.hid (fun (k : Nat) (e : R'.ownBlock = some k) => (or.lt k e).1)
    have hne1 : go ≠ g1 := by have := HGO.out; omega
    have HNER := Lib.hid (show R'.ownBlock ≠ some go from fun e => by have := HRB.out go e; have := HGO.out; omega)
    generalize (w8.setCell ⟨w.heap.size, 1, none⟩ (.slice (some ⟨go, 0, none⟩) lab.length d1)) = w9 at *
    clear HADD ol or z10 k10 Z9 D9 HP9 HX9 HO9 c1 f1
    obtain ⟨hop, hhop⟩ : ∃ hop : Value, hop = .iface 25 (.agg (hopR o (.slice (some ⟨g1, 0, none⟩) lab.length c1') p b R' pp).toArray) := ⟨_, rfl⟩
    rw [← hhop] at HKZ
    have HHOP := Lib.hid hhop
    have HUT := Lib.hid (show usT (addT T hop) = addU us by rw [usT_add, HT.out])
    have hTf : freeU us < (addT T hop).length := by rw [← usT_len, HUT.out]; unfold addU; rw [List.length_set]; exact (reachU_len us).1
    have hTl2 : (addT T hop).length ≤ 61 := by rw [← usT_len, HUT.out]; have := addU_len us; omega
    have HT1 := Lib.hid (show (addT T hop).set (freeU us) (hop, 1) = addT T hop from by
      have h3 := addT_at T hop
      rw [HT.out] at h3
      exact List.ext_getElem? (fun i => by
        by_cases e : i = freeU us
        · rw [e, List.getElem?_set_self hTf, h3]
        · rw [List.getElem?_set_ne (fun h => e h.symm)]))
    have HCN := Lib.hid (fun (v : Value) (u : Int) => cnt_set14 (T1 := addT T hop) HUT.out v u)
    have HIF := Lib.hid (fun (x : Value × Int) => at_set14 hTf x)
    generalize addT T hop = T1 at *
    generalize freeU us = f at *
    clear hhop
    rw [← HT1.out] at HKZ
    obtain ⟨x0, hx0⟩ : ∃ x0, lab[0]? = some x0 := ⟨_, List.getElem?_eq_getElem (by omega)⟩
    have HX0 := Lib.hid hx0
    have c1 := (HXA.out.cell 1).trans (show _ = some (.slice (some ⟨go, 0, none⟩) lab.length d1) from rfl)
    have cg : w10.cell? ⟨go, 0, none⟩ = some (.int .i64 x0) := by
      have := ownG_range HOA.out (fun _ _ => rfl) 0 x0 hx0 0 _ rfl
      simpa using this
    obtain ⟨q, hq⟩ : ∃ q, q = m % 9 := ⟨_, rfl⟩
    have m0 : Int.tmod (m : Int) 9 = ((q : Nat) : Int) := by rw [Int.tmod_eq_emod_of_nonneg (by omega)]; omega
    have m1 : (m : Int) % 9 = ((q : Nat) : Int) := by omega
    have hq8 : q ≤ 8 := by omega
    have kq1 : IntKind.u8.wrap ((q : Nat) : Int) = ((q : Nat) : Int) := by simp [IntKind.wrap, IntKind.bits, IntKind.signed]; omega
    have kq2 : IntKind.i64.wrap ((q : Nat) : Int) = ((q : Nat) : Int) := by simp [IntKind.wrap, IntKind.bits, IntKind.signed]; omega
    have h0l : (0 : Int) < (lab.length : Int) := by omega
    clear hq hx0
    go_wp2_with fail
    go_loopw [17] (fun r wr => ∃ i : Nat, i ≤ q ∧ r = .int .i64 (i : Int) ∧ Hid (KpZ w pt (T1.set f (hop, 1 + (i : Int))) us vd w3.heap.size w9.heap.size (.slice (some ⟨g1, 0, none⟩) lab.length c1') R' lab rep wr ∧ wr.ownsRow w.heap.size 3 1 (.slice (some ⟨go, 0, none⟩) lab.length d1) lab.length (lab.flatMap intR))) (fun r _ => q - (intOf r).toNat)
    case atStart => exact ⟨0, Nat.zero_le _, rfl, Lib.hid ⟨HKZ.out, HOA.out⟩⟩
    case round =>
      obtain ⟨i, hi, rfl, HK⟩ := hrel
      by_cases hlt : i < q
      · have hlti : (i : Int) < (q : Int) := by omega
        have kj : IntKind.i64.wrap ((i : Int) + 1) = (i : Int) + 1 := by simp [IntKind.wrap, IntKind.bits, IntKind.signed]; omega
        have hRef := HK.out.1.z.ref f (hop, 1 + (i : Int)) (HIF.out _) (by show (0 : Int) < 1 + (i : Int); omega) (by show 1 + (i : Int) ≤ 100000; omega)
        rw [List.set_set, show ((hop, 1 + (i : Int)).1, (hop, 1 + (i : Int)).2 + 1) = (hop, 1 + ((i + 1 : Nat) : Int)) from by rw [Prod.mk.injEq]; exact ⟨rfl, by show 1 + (i : Int) + 1 = _; omega⟩] at hRef
        have HRF := Lib.hid hRef
        clear hRef
        go_wp2_with (go_at_call 11; refine HRF.out.mono ?_; rintro e w11 ⟨rfl, z11, k11⟩; refine Hid.out ?_)
        refine Lib.hid ?_
        have HK2 := Lib.hid (And.intro (HK.out.1.to z11 k11) (k11.own HK.out.2 (by decide) (by decide) (by decide)))
        clear z11 k11 HRF HK
        go_wp2
        go_roundw
        case rel => exact ⟨i + 1, hlt, by go_num, HK2⟩
        case measure => simp [intOf]; omega
      · obtain rfl : i = q := by omega
        have hni : ¬ (i : Int) < (i : Int) := by omega
        clear HKZ HOA c1 cg HXA
        have cg : wr.cell? ⟨go, 0, none⟩ = some (.int .i64 x0) := by
          have := ownG_range HK.out.2 (fun _ _ => rfl) 0 x0 HX0.out 0 _ rfl
          simpa using this
        have fg : wr.frozen? ⟨go, 0, none⟩ = false := by
          have := (ownG_there HK.out.2 (fun _ _ => rfl) 0 (by omega) 0 (by decide)).2
          simpa using this
        obtain ⟨y1, hy1⟩ : ∃ y1, y1 = IntKind.i64.wrap (x0 + 1) := ⟨_, rfl⟩
        have ky1 : IntKind.i64.wrap (x0 + 1) = y1 := hy1.symm
        obtain ⟨y2, hy2⟩ : ∃ y2, y2 = IntKind.i64.wrap (x0 + 2) := ⟨_, rfl⟩
        have ky2 : IntKind.i64.wrap (x0 + 2) = y2 := hy2.symm
        clear hy1 hy2
        have HK2 := Lib.hid (HK.out.1.ints HK.out.2 rfl hgow (fun e => hne1 (by cases e; rfl)) HNER.out 0 (.int .i64 y1))
        clear HK
        have HATF := Lib.hid (fun (u : Int) => show atT (T1.set f (hop, u)) (f : Int) = (.iface 25 (.agg (hopR o (.slice (some ⟨g1, 0, none⟩) lab.length c1') p b R' pp).toArray), u) by rw [← HHOP.out]; exact atT_of (HIF.out _))
        have HHX := Lib.hid (fun (W : World) (h : KpZ w pt (T1.set f (hop, 1 + (i : Int))) us vd w3.heap.size w9.heap.size (.slice (some ⟨g1, 0, none⟩) lab.length c1') R' lab rep W) => h.z.hop o _ p b R' pp lab rep (f : Int) _ (IsC.of_owned (fun _ _ => rfl) h.L) (IsC.of_owned (fun _ _ => rfl) h.R) (by omega) (by omega) (HATF.out _))
        go_wp2_with (go_at_call 12; refine (HHX.out _ HK2.out).mono ?_; rintro e w13 ⟨L2, R2, rfl, ol2, or2, oo1, oo2, b13⟩; refine Hid.out ?_)
        refine Lib.hid ?_
        generalize wr.setCell ⟨go, 0, none⟩ (.int .i64 y1) = w12 at *
        clear cg fg
        obtain ⟨g2, c2', hv2⟩ := ownG_form ol2 (by omega)
        subst hv2
        have hg2 := (ol2.lt g2 rfl).1
        have hg12 := (HK2.out.L.lt g1 rfl).2
        have hgr2 : R'.ownBlock ≠ some g2 := fun e => by have := (HK2.out.R.lt g2 e).2; omega
        have hbf := below_fresh w13 (.cells hop0.toArray 25) (hopR o (.slice (some ⟨g2, 0, none⟩) lab.length c2') p b R2 pp).toArray
        have HH0 := Lib.hid (Bx.new w13 25 hop0)
        have HK3 := Lib.hid (show K3Z w pt _ us vd w3.heap.size w9.heap.size (.slice (some ⟨g1, 0, none⟩) lab.length c1') R' lab rep w13.heap.size w12.heap.size o (.slice (some ⟨g2, 0, none⟩) lab.length c2') p b R2 pp _ from ⟨(HK2.out.up b13).up hbf, HH0.out.row (hopR o (.slice (some ⟨g2, 0, none⟩) lab.length c2') p b R2 pp), own_below ol2 hbf⟩)
        have HBR2 := Lib.hid oo2
        have hhz : (#[.int .i64 0, .slice none 0 0, .int .i64 0, .int .i64 0, .slice none 0 0, .bool false] : Array Value) = hop0.toArray := rfl
        have hh := HK3.out.held HX0.out
        have d1' := hh.1
        have d2' := hh.2.1
        have d3' : (((w13.alloc (.cells hop0.toArray 25)).setRow w13.heap.size (hopR o (.slice (some ⟨g2, 0, none⟩) lab.length c2') p b R2 pp).toArray)).frozen? ⟨g2, 0, none⟩ = false := by
          have := (ownG_there HK3.out.l (fun _ _ => rfl) 0 (by omega) 0 (by decide)).2
          simpa using this
        have HK4 := Lib.hid (HK3.out.k.ints HK3.out.l rfl (Nat.le_trans HK2.out.z.b.size hg2) (fun e => by cases e; omega) hgr2 0 (.int .i64 y2))
        clear hbf hh HK2 or2 oo1 oo2 b13 ol2
        have hxx : (x0 != x0) = false := by simp
        go_wp2_with (first
          | (refine wpList_store_bx rfl 25 (.tmp 19) (.tmp 107) rfl w13.heap.size (hopR o (.slice (some ⟨g2, 0, none⟩) lab.length c2') p b R2 pp) _ rfl rfl HH0.out hop_info rfl (hopR_one o p b pp rfl HBR2.out) ?_)
          | (go_at_call 12; refine (HHX.out _ HK4.out).mono ?_; rintro e w16 ⟨L3, R3, rfl, ol3, or3, oo3, oo4, b16⟩; refine Hid.out ?_))
        refine Lib.hid ?_
        obtain ⟨g3, c3', hv3⟩ := ownG_form ol3 (by omega)
        subst hv3
        generalize ((w13.alloc (.cells hop0.toArray 25)).setRow w13.heap.size (hopR o (.slice (some ⟨g2, 0, none⟩) lab.length c2') p b R2 pp).toArray).setCell ⟨g2, 0, none⟩ (.int .i64 y2) = w15 at *
        have hbf := below_fresh w16 (.cells hop0.toArray 25) (hopR o (.slice (some ⟨g3, 0, none⟩) lab.length c3') p b R3 pp).toArray
        have HH1 := Lib.hid (Bx.new w16 25 hop0)
        have HK5 := Lib.hid (show K3Z w pt _ us vd w3.heap.size w9.heap.size (.slice (some ⟨g1, 0, none⟩) lab.length c1') R' lab rep w16.heap.size w15.heap.size o (.slice (some ⟨g3, 0, none⟩) lab.length c3') p b R3 pp _ from ⟨(HK4.out.up b16).up hbf, HH1.out.row (hopR o (.slice (some ⟨g3, 0, none⟩) lab.length c3') p b R3 pp), own_below ol3 hbf⟩)
        have HBR3 := Lib.hid oo4
        clear hbf HK3 HK4 or3 oo3 oo4 b16 ol3 d1' d2' d3' HH0 HHX HBR2
        go_wp2_with (refine wpList_store_bx rfl 25 (.tmp 21) (.tmp 134) rfl w16.heap.size (hopR o (.slice (some ⟨g3, 0, none⟩) lab.length c3') p b R3 pp) _ rfl rfl HH1.out hop_info rfl (hopR_one o p b pp rfl HBR3.out) ?_)
        generalize (w16.alloc (.cells hop0.toArray 25)).setRow w16.heap.size (hopR o (.slice (some ⟨g3, 0, none⟩) lab.length c3') p b R3 pp).toArray = w17 at *
        clear HH1
        have HK6 := Lib.hid (HK5.out.up (Below.refl _ _).drew)
        have HHD := Lib.hid (HK6.out.held HX0.out)
        have kj : IntKind.i64.wrap ((i : Int) + 1) = (i : Int) + 1 := by simp [IntKind.wrap, IntKind.bits, IntKind.signed]; omega
        have hn0 : 0 < lab.length := by omega
        have hcu := cntU_le us
        have kc : IntKind.i64.wrap ((cntU us : Int) + 1) = (cntU us : Int) + 1 := by simp [IntKind.wrap, IntKind.bits, IntKind.signed]; omega
        refine wp_region_noPanic ?_
        refine wp_region_held_drew (S := KeepS g3 lab.length c3' w16.heap.size w3.heap.size x0 vd) (by kernel_rfl) HHD.out (fun hHeld => ?_)
        generalize w17.drew = w18 at *
        clear HK5 HHD
        refine held_take (v := ?v332) 0 rfl (by kernel_rfl) (by kernel_rfl) (by kernel_rfl) (fun _ _ _ h => h) (by rfl) ?y332 (by assumption) ?_
        case y332 => (intro w hSw; unfold KeepS at hSw; go_simp; (try with_reducible rfl); (try omega))
        simp only [List.setIfInBounds_toArray, List.set_cons_zero, List.set_cons_succ]
        refine held_take (v := ?v335) 1 rfl (by kernel_rfl) (by kernel_rfl) (by kernel_rfl) (fun _ _ _ h => h) (by rfl) ?y335 (by assumption) ?_
        case y335 => (intro w hSw; unfold KeepS at hSw; go_simp; (try with_reducible rfl); (try omega))
        simp only [List.setIfInBounds_toArray, List.set_cons_zero, List.set_cons_succ]
        refine held_take (v := ?v338) 2 rfl (by kernel_rfl) (by kernel_rfl) (by kernel_rfl) (fun _ _ _ h => h) (by rfl) ?y338 (by assumption) ?_
        case y338 => (intro w hSw; unfold KeepS at hSw; go_simp; (try with_reducible rfl); (try omega))
        simp only [List.setIfInBounds_toArray, List.set_cons_zero, List.set_cons_succ]
        refine held_take (v := ?v341) 3 rfl (by kernel_rfl) (by kernel_rfl) (by kernel_rfl) (fun _ _ _ h => h) (by rfl) ?y341 (by assumption) ?_
        case y341 => (intro w hSw; unfold KeepS at hSw; go_simp; (try with_reducible rfl); (try omega))
        simp only [List.setIfInBounds_toArray, List.set_cons_zero, List.set_cons_succ]
        refine held_take (v := ?v344) 4 rfl (by kernel_rfl) (by kernel_rfl) (by kernel_rfl) (fun _ _ _ h => h) (by rfl) ?y344 (by assumption) ?_
        case y344 => (intro w hSw; unfold KeepS at hSw; go_simp; (try with_reducible rfl); (try omega))
        simp only [List.setIfInBounds_toArray, List.set_cons_zero, List.set_cons_succ]
        refine held_take (v := .bool false) 5 rfl (by kernel_rfl) (by kernel_rfl) (by kernel_rfl) (fun _ _ _ h => h) (by rfl) (fun W hSw => exec_neq14 (.tmp 139) (.tmp 140) _ rfl x0 x0 rfl rfl false hxx) (by assumption) ?_
        simp only [List.setIfInBounds_toArray, List.set_cons_zero, List.set_cons_succ]
        refine held_take (v := ?v349) 6 rfl (by kernel_rfl) (by kernel_rfl) (by kernel_rfl) (fun _ _ _ h => h) (by rfl) ?y349 (by assumption) ?_
        case y349 => (intro w hSw; unfold KeepS at hSw; go_simp; (try with_reducible rfl); (try omega))
        simp only [List.setIfInBounds_toArray, List.set_cons_zero, List.set_cons_succ]
        refine held_take (v := ?v352) 7 rfl (by kernel_rfl) (by kernel_rfl) (by kernel_rfl) (fun _ _ _ h => h) (by rfl) ?y352 (by assumption) ?_
        case y352 => (intro w hSw; unfold KeepS at hSw; go_simp; (try with_reducible rfl); (try omega))
        simp only [List.setIfInBounds_toArray, List.set_cons_zero, List.set_cons_succ]
        refine held_take (v := ?v355) 8 rfl (by kernel_rfl) (by kernel_rfl) (by kernel_rfl) (fun _ _ _ h => h) (by rfl) ?y355 (by assumption) ?_
        case y355 => (intro w hSw; unfold KeepS at hSw; go_simp; (try with_reducible rfl); (try omega))
        simp only [List.setIfInBounds_toArray, List.set_cons_zero, List.set_cons_succ]
        refine held_take (v := ?v358) 10 rfl (by kernel_rfl) (by kernel_rfl) (by kernel_rfl) (fun _ _ _ h => h) (by rfl) ?y358 (by assumption) ?_
        case y358 => (intro w hSw; unfold KeepS at hSw; go_simp; (try with_reducible rfl); (try omega))
        simp only [List.setIfInBounds_toArray, List.set_cons_zero, List.set_cons_succ]
        refine held_take (v := ?v361) 11 rfl (by kernel_rfl) (by kernel_rfl) (by kernel_rfl) (fun _ _ _ h => h) (by rfl) ?y361 (by assumption) ?_
        case y361 => (intro w hSw; unfold KeepS at hSw; go_simp; (try with_reducible rfl); (try omega))
        simp only [List.setIfInBounds_toArray, List.set_cons_zero, List.set_cons_succ]
        refine held_one 9 rfl (by kernel_rfl) (by rfl) (fun K hK => ?_)
        go_simp
        refine (HK6.out.k.z.uses (f : Int)).mono ?_
        rintro e w19 ⟨rfl, b19⟩
        have HK7 := Lib.hid (HK6.out.up b19)
        refine hK.out _ _ (HK7.out.held HX0.out) (fun hHeld => ?_)
        clear hK K b19 HK6
        refine held_take (v := .bool false) 12 rfl (by kernel_rfl) (by kernel_rfl) (by kernel_rfl) (fun _ _ _ h => h) (by rfl) (fun W hSw => exec_neq14 (.tmp 145) (.tmp 147) _ rfl ((atT (T1.set f (hop, 1 + (i : Int))) (f : Int)).2) ((i : Int) + 1) rfl rfl false (by rw [HATF.out, Int.add_comm]; simp)) (by assumption) ?_
        simp only [List.setIfInBounds_toArray, List.set_cons_zero, List.set_cons_succ]
        refine held_take (v := ?v373) 13 rfl (by kernel_rfl) (by kernel_rfl) (by kernel_rfl) (fun _ _ _ h => h) (by rfl) ?y373 (by assumption) ?_
        case y373 => (intro w hSw; unfold KeepS at hSw; go_simp; (try with_reducible rfl); (try omega))
        simp only [List.setIfInBounds_toArray, List.set_cons_zero, List.set_cons_succ]
        refine held_take (v := ?v376) 14 rfl (by kernel_rfl) (by kernel_rfl) (by kernel_rfl) (fun _ _ _ h => h) (by rfl) ?y376 (by assumption) ?_
        case y376 => (intro w hSw; unfold KeepS at hSw; go_simp; (try with_reducible rfl); (try omega))
        simp only [List.setIfInBounds_toArray, List.set_cons_zero, List.set_cons_succ]
        refine held_take (v := ?v379) 15 rfl (by kernel_rfl) (by kernel_rfl) (by kernel_rfl) (fun _ _ _ h => h) (by rfl) ?y379 (by assumption) ?_
        case y379 => (intro w hSw; unfold KeepS at hSw; go_simp; (try with_reducible rfl); (try omega))
        simp only [List.setIfInBounds_toArray, List.set_cons_zero, List.set_cons_succ]
        refine held_take (v := p14V true 100 vd) 17 rfl (by kernel_rfl) (by kernel_rfl) (by kernel_rfl) (fun _ _ _ h => h) (by rfl) (fun W hSw => exec_load_any _ (.tmp 10) rfl w3.heap.size 0 _ _ rfl hSw.2.2 Tryd.underlying32 rfl p14_info) (by assumption) ?_
        simp only [List.setIfInBounds_toArray, List.set_cons_zero, List.set_cons_succ]
        refine held_one 16 rfl (by kernel_rfl) (by rfl) (fun K hK => ?_)
        go_simp
        refine HK7.out.k.z.len.mono ?_
        rintro e _ ⟨rfl, rfl⟩
        refine hK.out _ _ hHeld (fun hHeld => ?_)
        clear hK K
        refine held_one 18 rfl (by kernel_rfl) (by rfl) (fun K hK => ?_)
        go_simp
        refine (HK7.out.k.d.len HU.out (by omega) true 100).mono ?_
        rintro e w20 ⟨rfl, b20⟩
        have HK8 := Lib.hid (HK7.out.up b20)
        refine hK.out _ _ (HK8.out.held HX0.out) (fun hHeld => ?_)
        clear hK K b20 HK7
        refine held_take (v := ?v397) 19 rfl (by kernel_rfl) (by kernel_rfl) (by kernel_rfl) (fun _ _ _ h => h) (by rfl) ?y397 (by assumption) ?_
        case y397 => (intro w hSw; unfold KeepS at hSw; go_simp; (try with_reducible rfl); (try omega))
        simp only [List.setIfInBounds_toArray, List.set_cons_zero, List.set_cons_succ]
        refine held_take (v := .bool false) 20 rfl (by kernel_rfl) (by kernel_rfl) (by kernel_rfl) (fun _ _ _ h => h) (by rfl) (fun W hSw => exec_neq14 (.tmp 152) (.tmp 155) _ rfl (cntU (usT (T1.set f (hop, 1 + (i : Int)))) : Int) ((cntU us : Int) + 1) rfl rfl false (by rw [HCN.out, if_pos (by omega)]; simp)) (by assumption) ?_
        simp only [List.setIfInBounds_toArray, List.set_cons_zero, List.set_cons_succ]
        refine held_take (v := ?v402) 21 rfl (by kernel_rfl) (by kernel_rfl) (by kernel_rfl) (fun _ _ _ h => h) (by rfl) ?y402 (by assumption) ?_
        case y402 => (intro w hSw; unfold KeepS at hSw; go_simp; (try with_reducible rfl); (try omega))
        simp only [List.setIfInBounds_toArray, List.set_cons_zero, List.set_cons_succ]
        refine wpAnyH_done (by kernel_rfl) ?_ _
        refine NoPanic.normal ?_
        have HLZ := Lib.hid HK8.out.low
        clear HK8
        go_wp2_with fail
        have HTT0 := Lib.hid (show T1.set f (hop, 1 + (i : Int)) = TT14 T1 f hop i 0 from by unfold TT14; rw [if_pos (Nat.zero_le _)]; simp)
        rw [HTT0.out] at HLZ
        go_loopw [23] (fun r wr => ∃ j : Nat, j ≤ i + 1 ∧ r = .int .i64 (j : Int) ∧ Hid (LowZ w pt 100 (TT14 T1 f hop i j) us vd w3.heap.size wr)) (fun r _ => i + 1 - (intOf r).toNat)
        case atStart => exact ⟨0, Nat.zero_le _, rfl, HLZ⟩
        case round =>
          obtain ⟨j, hj, rfl, HL2⟩ := hrel
          by_cases hlt2 : j ≤ i
          · have hlt2i : (j : Int) ≤ (i : Int) := by omega
            have kj2 : IntKind.i64.wrap ((j : Int) + 1) = (j : Int) + 1 := by simp [IntKind.wrap, IntKind.bits, IntKind.signed]; omega
            have HTJ := Lib.hid (show TT14 T1 f hop i j = T1.set f (hop, 1 + (i : Int) - (j : Int)) from if_pos hlt2)
            by_cases hji : j = i
            · have hbe : ((j : Int) == (i : Int)) = true := by simp [hji]
              have HJI := Lib.hid hji
              have hUn := HL2.out.z.unrefLast f (hop, 1 + (i : Int) - (j : Int)) (by rw [HTJ.out]; exact HIF.out _) (by show 1 + (i : Int) - (j : Int) = 1; omega) (by rw [HTJ.out, List.length_set]; omega)
              rw [HTJ.out, List.set_set, show T1.set f (.nilIface, 0) = TT14 T1 f hop i (j + 1) from by unfold TT14; rw [if_neg (by omega)]] at hUn
              have HUN := Lib.hid hUn
              clear hUn hji
              go_wp2_with (go_at_call 16; refine HUN.out.mono ?_; rintro e w21 ⟨rfl, z21, k21⟩; refine Hid.out ?_)
              refine Lib.hid ?_
              have HL3 := Lib.hid (show LowZ w pt 100 (TT14 T1 f hop i (j + 1)) us vd w3.heap.size w21 from ⟨z21, HL2.out.d.kz k21, k21.bx HL2.out.p (by decide) (by decide) (by decide)⟩)
              clear z21 k21 HUN HL2
              go_wp2
              go_roundw
              case rel => exact ⟨j + 1, by omega, by go_num, HL3⟩
              case measure => simp [intOf]; omega
            · have hbe : ((j : Int) == (i : Int)) = false := beq_eq_false_iff_ne.2 (by omega)
              have hUn := HL2.out.z.unrefMore f (hop, 1 + (i : Int) - (j : Int)) (by rw [HTJ.out]; exact HIF.out _) (by show 1 < 1 + (i : Int) - (j : Int); omega) (by show 1 + (i : Int) - (j : Int) ≤ 100000; omega)
              rw [HTJ.out, List.set_set, show ((hop, 1 + (i : Int) - (j : Int)).1, (hop, 1 + (i : Int) - (j : Int)).2 - 1) = (hop, 1 + (i : Int) - ((j + 1 : Nat) : Int)) from by rw [Prod.mk.injEq]; exact ⟨rfl, by show 1 + (i : Int) - (j : Int) - 1 = _; omega⟩, show T1.set f (hop, 1 + (i : Int) - ((j + 1 : Nat) : Int)) = TT14 T1 f hop i (j + 1) from by unfold TT14; rw [if_pos (by omega)]] at hUn
              have HUN := Lib.hid hUn
              clear hUn
              go_wp2_with (go_at_call 16; refine HUN.out.mono ?_; rintro e w21 ⟨rfl, z21, k21⟩; refine Hid.out ?_)
              refine Lib.hid ?_
              have HL3 := Lib.hid (show LowZ w pt 100 (TT14 T1 f hop i (j + 1)) us vd w3.heap.size w21 from ⟨z21, HL2.out.d.kz k21, k21.bx HL2.out.p (by decide) (by decide) (by decide)⟩)
              clear z21 k21 HUN HL2
              go_wp2
              go_roundw
              case rel => exact ⟨j + 1, by omega, by go_num, HL3⟩
              case measure => simp [intOf]; omega
          · have hlt2i : ¬ (j : Int) ≤ (i : Int) := by omega
            have HTJ := Lib.hid (show TT14 T1 f hop i j = T1.set f (.nilIface, 0) from if_neg hlt2)
            rw [HTJ.out] at HL2
            have HAN := Lib.hid (show atT (T1.set f (.nilIface, 0)) (f : Int) = (.nilIface, 0) from atT_of (HIF.out _))
            have HCZ := Lib.hid (show (cntU (usT (T1.set f (.nilIface, 0))) : Int) = (cntU us : Int) by rw [HCN.out, if_neg (by decide)]; rfl)
            generalize T1.set f (.nilIface, 0) = T3 at *
            clear HLZ HTT0 HTJ
            have HHN := Lib.hid (HL2.out.z.hopNil (f : Int) 0 HAN.out)
            go_wp2_with (go_at_call 12; refine HHN.out.mono ?_; rintro e w22 ⟨L4, R4, rfl, oo5, oo6, b22⟩; refine Hid.out ?_)
            refine Lib.hid ?_
            have hbf4 := below_fresh w22 (.cells hop0.toArray 25) (hopR 0 L4 0 0 R4 false).toArray
            have HH4 := Lib.hid (Bx.new w22 25 hop0)
            have HL4 := Lib.hid ((HL2.out.up b22).up hbf4)
            have HOO := Lib.hid (And.intro oo5 oo6)
            have HUF := Lib.hid (HL4.out.z.unrefNo (f : Int) (by rw [HAN.out]))
            clear hbf4 b22 HL2 HHN oo5 oo6
            go_wp2_with (first
              | (refine wpList_store_bx rfl 25 (.tmp 26) (.tmp 182) rfl w22.heap.size (hopR 0 L4 0 0 R4 false) _ rfl rfl HH4.out hop_info rfl (hopR_one 0 0 0 false HOO.out.1 HOO.out.2) ?_)
              | (go_at_call 16; refine HUF.out.mono ?_; rintro e w23 ⟨rfl, b23⟩; refine Hid.out ?_))
            refine Lib.hid ?_
            have HL5 := Lib.hid (HL4.out.up b23)
            clear b23 HL4 HUF HH4
            go_wp2_with fail
            have HL6 := Lib.hid HL5.out.drew
            refine wp_region_noPanic ?_
            refine wp_region_held_drew (S := RunS w3.heap.size 100 vd) (by kernel_rfl) (rangeAll HL6.out.p) (fun hHeld => ?_)
            generalize w23.drew = w24 at *
            clear HL5
            refine held_take (v := ?v476) 0 rfl (by kernel_rfl) (by kernel_rfl) (by kernel_rfl) (fun _ _ _ h => h) (by rfl) ?y476 (by assumption) ?_
            case y476 => (intro w hSw; unfold RunS at hSw; go_simp; (try with_reducible rfl); (try omega))
            simp only [List.setIfInBounds_toArray, List.set_cons_zero, List.set_cons_succ]
            refine held_take (v := ?v479) 1 rfl (by kernel_rfl) (by kernel_rfl) (by kernel_rfl) (fun _ _ _ h => h) (by rfl) ?y479 (by assumption) ?_
            case y479 => (intro w hSw; unfold RunS at hSw; go_simp; (try with_reducible rfl); (try omega))
            simp only [List.setIfInBounds_toArray, List.set_cons_zero, List.set_cons_succ]
            refine held_take (v := ?v482) 2 rfl (by kernel_rfl) (by kernel_rfl) (by kernel_rfl) (fun _ _ _ h => h) (by rfl) ?y482 (by assumption) ?_
            case y482 => (intro w hSw; unfold RunS at hSw; go_simp; (try with_reducible rfl); (try omega))
            simp only [List.setIfInBounds_toArray, List.set_cons_zero, List.set_cons_succ]
            refine held_take (v := ?v485) 3 rfl (by kernel_rfl) (by kernel_rfl) (by kernel_rfl) (fun _ _ _ h => h) (by rfl) ?y485 (by assumption) ?_
            case y485 => (intro w hSw; unfold RunS at hSw; go_simp; (try with_reducible rfl); (try omega))
            simp only [List.setIfInBounds_toArray, List.set_cons_zero, List.set_cons_succ]
            refine held_take (v := ?v488) 4 rfl (by kernel_rfl) (by kernel_rfl) (by kernel_rfl) (fun _ _ _ h => h) (by rfl) ?y488 (by assumption) ?_
            case y488 => (intro w hSw; unfold RunS at hSw; go_simp; (try with_reducible rfl); (try omega))
            simp only [List.setIfInBounds_toArray, List.set_cons_zero, List.set_cons_succ]
            refine held_take (v := ?v491) 5 rfl (by kernel_rfl) (by kernel_rfl) (by kernel_rfl) (fun _ _ _ h => h) (by rfl) ?y491 (by assumption) ?_
            case y491 => (intro w hSw; unfold RunS at hSw; go_simp; (try with_reducible rfl); (try omega))
            simp only [List.setIfInBounds_toArray, List.set_cons_zero, List.set_cons_succ]
            refine held_take (v := ?v494) 6 rfl (by kernel_rfl) (by kernel_rfl) (by kernel_rfl) (fun _ _ _ h => h) (by rfl) ?y494 (by assumption) ?_
            case y494 => (intro w hSw; unfold RunS at hSw; go_simp; (try with_reducible rfl); (try omega))
            simp only [List.setIfInBounds_toArray, List.set_cons_zero, List.set_cons_succ]
            refine held_take (v := ?v497) 7 rfl (by kernel_rfl) (by kernel_rfl) (by kernel_rfl) (fun _ _ _ h => h) (by rfl) ?y497 (by assumption) ?_
            case y497 => (intro w hSw; unfold RunS at hSw; go_simp; (try with_reducible rfl); (try omega))
            simp only [List.setIfInBounds_toArray, List.set_cons_zero, List.set_cons_succ]
            refine held_take (v := ?v500) 8 rfl (by kernel_rfl) (by kernel_rfl) (by kernel_rfl) (fun _ _ _ h => h) (by rfl) ?y500 (by assumption) ?_
            case y500 => (intro w hSw; unfold RunS at hSw; go_simp; (try with_reducible rfl); (try omega))
            simp only [List.setIfInBounds_toArray, List.set_cons_zero, List.set_cons_succ]
            refine held_one 9 rfl (by kernel_rfl) (by rfl) (fun K hK => ?_)
            go_simp
            refine (HL6.out.z.refNo (f : Int) (by rw [HAN.out])).mono ?_
            rintro e w25 ⟨rfl, b25⟩
            have HL7 := Lib.hid (HL6.out.up b25)
            refine hK.out _ _ (rangeAll HL7.out.p) (fun hHeld => ?_)
            clear hK K b25 HL6
            refine held_take (v := ?v510) 10 rfl (by kernel_rfl) (by kernel_rfl) (by kernel_rfl) (fun _ _ _ h => h) (by rfl) ?y510 (by assumption) ?_
            case y510 => (intro w hSw; unfold RunS at hSw; go_simp; (try with_reducible rfl); (try omega))
            simp only [List.setIfInBounds_toArray, List.set_cons_zero, List.set_cons_succ]
            refine held_take (v := ?v513) 11 rfl (by kernel_rfl) (by kernel_rfl) (by kernel_rfl) (fun _ _ _ h => h) (by rfl) ?y513 (by assumption) ?_
            case y513 => (intro w hSw; unfold RunS at hSw; go_simp; (try with_reducible rfl); (try omega))
            simp only [List.setIfInBounds_toArray, List.set_cons_zero, List.set_cons_succ]
            refine held_take (v := ?v516) 12 rfl (by kernel_rfl) (by kernel_rfl) (by kernel_rfl) (fun _ _ _ h => h) (by rfl) ?y516 (by assumption) ?_
            case y516 => (intro w hSw; unfold RunS at hSw; go_simp; (try with_reducible rfl); (try omega))
            simp only [List.setIfInBounds_toArray, List.set_cons_zero, List.set_cons_succ]
            refine held_take (v := ?v519) 13 rfl (by kernel_rfl) (by kernel_rfl) (by kernel_rfl) (fun _ _ _ h => h) (by rfl) ?y519 (by assumption) ?_
            case y519 => (intro w hSw; unfold RunS at hSw; go_simp; (try with_reducible rfl); (try omega))
            simp only [List.setIfInBounds_toArray, List.set_cons_zero, List.set_cons_succ]
            refine held_take (v := p14V true 100 vd) 15 rfl (by kernel_rfl) (by kernel_rfl) (by kernel_rfl) (fun _ _ _ h => h) (by rfl) (fun W hSw => exec_load_any _ (.tmp 10) rfl w3.heap.size 0 _ _ rfl hSw Tryd.underlying32 rfl p14_info) (by assumption) ?_
            simp only [List.setIfInBounds_toArray, List.set_cons_zero, List.set_cons_succ]
            refine held_one 14 rfl (by kernel_rfl) (by rfl) (fun K hK => ?_)
            go_simp
            refine HL7.out.z.len.mono ?_
            rintro e _ ⟨rfl, rfl⟩
            refine hK.out _ _ hHeld (fun hHeld => ?_)
            clear hK K
            refine held_one 16 rfl (by kernel_rfl) (by rfl) (fun K hK => ?_)
            go_simp
            refine (HL7.out.d.len HU.out (by omega) true 100).mono ?_
            rintro e w26 ⟨rfl, b26⟩
            have HL8 := Lib.hid (HL7.out.up b26)
            refine hK.out _ _ (rangeAll HL8.out.p) (fun hHeld => ?_)
            clear hK K b26 HL7
            refine held_take (v := .bool true) 17 rfl (by kernel_rfl) (by kernel_rfl) (by kernel_rfl) (fun _ _ _ h => h) (by rfl) (fun W hSw => exec_eql14 (.tmp 204) (.tmp 206) _ rfl (cntU (usT T3) : Int) (cntU us : Int) rfl rfl true (by rw [HCZ.out]; simp)) (by assumption) ?_
            simp only [List.setIfInBounds_toArray, List.set_cons_zero, List.set_cons_succ]
            refine held_take (v := ?v539) 18 rfl (by kernel_rfl) (by kernel_rfl) (by kernel_rfl) (fun _ _ _ h => h) (by rfl) ?y539 (by assumption) ?_
            case y539 => (intro w hSw; unfold RunS at hSw; go_simp; (try with_reducible rfl); (try omega))
            simp only [List.setIfInBounds_toArray, List.set_cons_zero, List.set_cons_succ]
            refine held_take (v := ?v542) 19 rfl (by kernel_rfl) (by kernel_rfl) (by kernel_rfl) (fun _ _ _ h => h) (by rfl) ?y542 (by assumption) ?_
            case y542 => (intro w hSw; unfold RunS at hSw; go_simp; (try with_reducible rfl); (try omega))
            simp only [List.setIfInBounds_toArray, List.set_cons_zero, List.set_cons_succ]
            refine wpAnyH_done (by kernel_rfl) ?_ _
            refine NoPanic.normal ?_
            go_wp2
            go_ret
            exact ⟨rfl, HL8.out.z.b⟩
theorem keeps14_row (a : Option Addr) (n0 c : Nat) (l : List St14) (o : Int) (aL : Option Addr) (nL cL : Nat) (p b : Int) (aR : Option Addr) (nR cR : Nat) (pp : Bool) (lab rep : List Int) (m : Int) (w : World) (hS : S14 w (.slice a n0 c) l) (hL : IsC intR 1 w (.slice aL nL cL) lab) (hR : IsC intR 1 w (.slice aR nR cR) rep) (h0 : 0 ≤ m) (hm : m ≤ 255) (hz : TzE w w.heap.size) :
    Calls Tryd.prog 3 #[.slice a n0 c, .agg (hopR o (.slice aL nL cL) p b (.slice aR nR cR) pp).toArray, .int .u8 m] w fun e w' => e = .returned (.bool true) ∧ Below w.heap.size w w' := by
  have h := keeps14_walk a n0 c l o aL nL cL p b aR nR cR pp lab rep m.toNat w hS hL hR (by omega) hz
  rwa [Int.toNat_of_nonneg h0] at h
end Go.Proofs.YtoliijajhikhgaaDoor
