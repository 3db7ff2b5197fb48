/- A fib beside the document's tables of both kinds: each call answers as the document's does. The law's own 'same'. -/
import Derived.Test.YtgimcapcnidjjaaG10b
import Derived.Test.YtgimcapcnidjjaaG10c
import Derived.Test.YtgimcapcnidjjaaG10e
namespace Go.Proofs.Ytgimcapcnidjjaa
open Go Go.RowKit

/-! The document's, of either kind. -/
theorem gput (is : Bool) (room : Int) (D : Bool → Sl) (L : Bool → List (Pfx × Int)) (p : Pfx) (x : Int) (w : World) (hC : ∀ s, IsC itF 19 w (D s).v (L s)) (hp : p.addr.length = 16) (hl : ∀ s, (L s).length ≤ 400000) :
    Calls Try.prog 10 #[fV is room D, p.val, .int .i64 x] w (RefF w D L is room p.six (rputL is (p.six && is) room (L p.six) p x) (fputE is room L p)) := by
  unfold fputE
  cases hs : p.six with
  | true => exact gput_six is room D L p x w (hC true) hp (by have := hl true; omega) hs
  | false => exact gput_four is room D L p x w (hC false) hp (by have := hl false; omega) hs
theorem gdel (is : Bool) (room : Int) (D : Bool → Sl) (L : Bool → List (Pfx × Int)) (p : Pfx) (w : World) (hC : ∀ s, IsC itF 19 w (D s).v (L s)) (hp : p.addr.length = 16) (hl : ∀ s, (L s).length ≤ 400000) :
    Calls Try.prog 12 #[fV is room D, p.val] w (RefF w D L is room p.six (rdelL is (p.six && is) (L p.six) p) (fdelE is L p)) := by
  unfold fdelE
  cases hs : p.six with
  | true => exact gdel_six is room D L p w (hC true) hp (by have := hl true; omega) hs
  | false => exact gdel_four is room D L p w (hC false) hp (by have := hl false; omega) hs
theorem gget (is : Bool) (room : Int) (D : Bool → Sl) (L : Bool → List (Pfx × Int)) (p : Pfx) (w : World) (hC : ∀ s, IsC itF 19 w (D s).v (L s)) (hp : p.addr.length = 16) (hl : ∀ s, (L s).length ≤ 400000) :
    Calls Try.prog 16 #[fV is room D, p.val] w fun e w' => e = .returned (.tuple #[.int .i64 ((getT cmpP p (L p.six)).getD 0), .bool (getT cmpP p (L p.six)).isSome]) ∧ Below w.heap.size w w' := by
  cases hs : p.six with
  | true => exact gget_six is room D L p w (hC true) hp (by have := hl true; omega) hs
  | false => exact gget_four is room D L p w (hC false) hp (by have := hl false; omega) hs
theorem glook (is : Bool) (room : Int) (D : Bool → Sl) (L : Bool → List (Pfx × Int)) (six : Bool) (a : List UInt8) (w : World) (i6 : Bool) (hO : InOrder cmpP (okP i6) (L six)) (hC : ∀ s, IsC itF 19 w (D s).v (L s)) (ha : a.length = 16) (hl : ∀ s, (L s).length ≤ 400000) :
    Calls Try.prog 14 #[fV is room D, .bool six, arrV a] w fun e w' => e = .returned (.tuple #[itV ((lookT a (L six)).getD it0).1 ((lookT a (L six)).getD it0).2, .bool (lookT a (L six)).isSome]) ∧ Below w.heap.size w w' := by
  cases six with
  | true => exact glook_six is room D L a w i6 hO (hC true) ha (by have := hl true; omega)
  | false => exact glook_four is room D L a w i6 hO (hC false) ha (by have := hl false; omega)
/-- The fib holds LT; the document's tables hold LR, in the box bF and the rows D; the blocks O lie apart from the fib. -/
structure DuF (w : World) (O : Nat → Prop) (pt : Value) (is : Bool) (room : Int) (LT : Bool → List (Pfx × Int)) (N : Nat) (bF : Nat) (LR : Bool → List (Pfx × Int)) (D : Bool → Sl) (W : World) : Prop where
  tab : ∃ X, FibQ W X pt is room LT N ∧ (∀ k, X k → w.heap.size ≤ k) ∧ ¬ X bF ∧ (∀ k, O k → ¬ X k ∧ k < W.heap.size) ∧ (∀ s, 0 < (LR s).length → ∀ x, (D s).a = some x → ¬ X x.block ∧ x.block ≠ bF)
  ref : Bx W bF 33 (fR is room D)
  lst : ∀ s, IsC itF 19 W (D s).v (LR s)
  base : w.heap.size ≤ bF
  below : Below w.heap.size w W
section
variable {w W W' : World} {O : Nat → Prop} {pt : Value} {is : Bool} {room : Int} {LT LR : Bool → List (Pfx × Int)} {N bF : Nat} {D : Bool → Sl}
theorem DuF.up (h : DuF w O pt is room LT N bF LR D W) (hb : Below W.heap.size W W') : DuF w O pt is room LT N bF LR D W' := by
  obtain ⟨X, h1, h2, h3, h4, h5⟩ := h.tab
  have := hb.size
  exact ⟨⟨X, h1.up hb, h2, h3, fun k hk => ⟨(h4 k hk).1, Nat.lt_of_lt_of_le (h4 k hk).2 this⟩, h5⟩, h.ref.up hb, fun s => (h.lst s).below hb, h.base, below_up h.below hb h.below.size⟩
/-- Other blocks beside the fib: fresh ones, too. -/
theorem DuF.with (h : DuF w O pt is room LT N bF LR D W) (hb : Below W.heap.size W W') (O' : Nat → Prop) (hO : ∀ k, O' k → O k ∨ (W.heap.size ≤ k ∧ k < W'.heap.size)) : DuF w O' pt is room LT N bF LR D W' := by
  obtain ⟨X, h1, h2, h3, h4, h5⟩ := h.tab
  have hs := hb.size
  refine ⟨⟨X, h1.up hb, h2, h3, fun k hk => ?_, h5⟩, h.ref.up hb, fun s => (h.lst s).below hb, h.base, below_up h.below hb h.below.size⟩
  rcases hO k hk with h6 | h6
  · exact ⟨(h4 k h6).1, Nat.lt_of_lt_of_le (h4 k h6).2 hs⟩
  · exact ⟨fun hx => by have := h1.low k hx; omega, h6.2⟩
theorem DuF.order (h : DuF w O pt is room LT N bF LR D W) (s : Bool) : InOrder cmpP (okP (s && is)) (LT s) := by
  obtain ⟨X, h1, _⟩ := h.tab
  exact h1.order s
theorem DuF.len (h : DuF w O pt is room LT N bF LR D W) (s : Bool) : (LT s).length ≤ N := by
  obtain ⟨X, h1, _⟩ := h.tab
  exact h1.len s
theorem DuF.step {LT' : Bool → List (Pfx × Int)} {N' : Nat} {X X' : Nat → Prop} (h : DuF w O pt is room LT N bF LR D W) (h2 : ∀ k, X k → w.heap.size ≤ k) (h3 : ¬ X bF) (h4 : ∀ k, O k → ¬ X k ∧ k < W.heap.size) (h5 : ∀ s, 0 < (LR s).length → ∀ x, (D s).a = some x → ¬ X x.block ∧ x.block ≠ bF)
    (t1 : FibQ W' X' pt is room LT' N') (u1 : Upd W X W' X') : DuF w O pt is room LT' N' bF LR D W' := by
  have hlow := h.ref.lt
  have hws := h.below.size
  have hus := u1.size
  refine ⟨⟨X', t1, fun k hx => ?_, fun hx => ?_, fun k hk => ⟨fun hx => ?_, Nat.lt_of_lt_of_le (h4 k hk).2 hus⟩, fun s h0 x e => ⟨fun hx => ?_, (h5 s h0 x e).2⟩⟩, h.ref.upd u1 h3, fun s => isC_upd (h.lst s) u1 (fun h0 x e => (h5 s h0 x e).1), h.base, h.below.trans (u1.below w.heap.size hws h2)⟩
  · rcases u1.sub _ hx with h6 | h6
    · exact h2 k h6
    · omega
  · rcases u1.sub _ hx with h6 | h6
    · exact h3 h6
    · omega
  · rcases u1.sub _ hx with h6 | h6
    · exact (h4 k hk).1 h6
    · have := (h4 k hk).2; omega
  · rcases u1.sub _ hx with h6 | h6
    · exact (h5 s h0 x e).1 h6
    · obtain ⟨_, _, _, h7⟩ := IsC.shape (h.lst s)
      obtain ⟨b, k, e2, hb, _⟩ := h7 h0
      rw [e2] at e
      cases e
      simp only at h6
      omega
theorem DuF.put (h : DuF w O pt is room LT N bF LR D W) (p : Pfx) (x : Int) (hp : p.addr.length = 16) (hN : N ≤ 900000) :
    Calls Try.prog 9 #[pt, p.val, .int .i64 x] W fun e W' => e = .returned (.int .i64 (fputE is room LT p)) ∧ DuF w O pt is room (fputL is room LT p x) (N + 150) bF LR D W' ∧ ∀ k t l, O k → Bx W k t l → Bx W' k t l := by
  obtain ⟨X, h1, h2, h3, h4, h5⟩ := h.tab
  refine (fput p x W h1 hp hN).mono ?_
  rintro e W' ⟨rfl, X', t1, u1⟩
  exact ⟨rfl, h.step h2 h3 h4 h5 t1 u1, fun k t l hk hb => hb.upd u1 (h4 k hk).1⟩
theorem DuF.del (h : DuF w O pt is room LT N bF LR D W) (p : Pfx) (hp : p.addr.length = 16) (hN : N ≤ 900000) :
    Calls Try.prog 11 #[pt, p.val] W fun e W' => e = .returned (.int .i64 (fdelE is LT p)) ∧ DuF w O pt is room (fdelL is LT p) (N + 150) bF LR D W' ∧ ∀ k t l, O k → Bx W k t l → Bx W' k t l := by
  obtain ⟨X, h1, h2, h3, h4, h5⟩ := h.tab
  refine (fdel p W h1 hp hN).mono ?_
  rintro e W' ⟨rfl, X', t1, u1⟩
  exact ⟨rfl, h.step h2 h3 h4 h5 t1 u1, fun k t l hk hb => hb.upd u1 (h4 k hk).1⟩
theorem DuF.more (h : DuF w O pt is room LT N bF LR D W) {M : Nat} (hM : N ≤ M) : DuF w O pt is room LT M bF LR D W := by
  obtain ⟨X, ⟨pp, Y, h1⟩, h2⟩ := h.tab
  exact ⟨⟨X, ⟨pp, Y, h1.box, fun s => (h1.tab s).more hM, h1.ap, h1.own, h1.sub, h1.low⟩, h2⟩, h.ref, h.lst, h.base, h.below⟩
/-- What the document's answered is kept in the tables' box. -/
theorem DuF.settle {W0 W3 : World} {s : Bool} {d : Sl} {L1 : List (Pfx × Int)} (h : DuF w O pt is room LT N bF LR D W0) (hb : Below W0.heap.size W0 W3) (hl : IsC itF 19 W3 d.v L1)
    (hd : (d.a = (D s).a ∧ L1 = LR s) ∨ ∀ x, d.a = some x → W0.heap.size ≤ x.block) :
    DuF w O pt is room LT N bF (updL LR s L1) (upS D s d) (W3.setRow bF (fR is room (upS D s d)).toArray) ∧ ∀ k t l, k ≠ bF → Bx W3 k t l → Bx (W3.setRow bF (fR is room (upS D s d)).toArray) k t l := by
  have h' := h.up hb
  obtain ⟨X, h1, h2, h3, h4, h5⟩ := h.tab
  obtain ⟨X', h1', _⟩ := h'.tab
  have hbF := h.ref.lt
  have hu := Upd.setRow W3 bF (fR is room (upS D s d)).toArray
  have hap : ∀ t, 0 < (updL LR s L1 t).length → ∀ x, (upS D s d t).a = some x → ¬ X x.block ∧ x.block ≠ bF := fun t h0 x e => by
    unfold updL upS at *
    by_cases ht : t = s
    · rw [if_pos ht] at h0 e
      rcases hd with ⟨e1, rfl⟩ | hd
      · rw [e1] at e
        exact h5 s h0 x e
      · have := hd x e
        exact ⟨fun hx => by have := h1.low _ hx; omega, by omega⟩
    · rw [if_neg ht] at h0 e
      exact h5 t h0 x e
  refine ⟨⟨⟨X, (h1.up hb).other hu (fun k hx hk => h3 (by rw [← hk]; exact hx)), h2, h3, fun k hk => ⟨(h4 k hk).1, ?_⟩, hap⟩, h'.ref.row _, fun t => ?_, h.base, below_row h'.below h.base _⟩, fun k t l hk hbx => hbx.rowOther hk _⟩
  · have := (h4 k hk).2
    have := hb.size
    have := hu.size
    omega
  · have hap2 := hap t
    by_cases ht : t = s
    · subst ht
      have e1 : updL LR t L1 t = L1 := by simp [updL]
      have e2 : upS D t d t = d := by simp [upS]
      rw [e1, e2] at hap2 ⊢
      exact isC_row hl bF _ (fun h0 x e => (hap2 h0 x e).2)
    · have e1 : updL LR s L1 t = LR t := by simp [updL, ht]
      have e2 : upS D s d t = D t := by simp [upS, ht]
      rw [e1, e2] at hap2 ⊢
      exact isC_row (h'.lst t) bF _ (fun h0 x e => (hap2 h0 x e).2)
end
/-! The law's own 'same'. -/
def HeldV10 (b k b2 k2 : Nat) (m : List Value) (x : Int) (W : World) : Prop := W.rangeAt b k m ∧ W.rangeAt b2 k2 m ∧ W.cell? ⟨b, k + 18, none⟩ = some (.int .i64 x) ∧ W.cell? ⟨b2, k2 + 18, none⟩ = some (.int .i64 x)
set_option maxRecDepth 100000 in
set_option maxHeartbeats 8000000 in
theorem same10 {L : List (Pfx × Int)} {a b : Option Addr} {n cap cap2 : Nat} (w : World) (h1 : IsC itF 19 w (.slice a n cap) L) (h2 : IsC itF 19 w (.slice b n cap2) L) :
    Calls Try.prog 19 #[.slice a n cap, .slice b n cap2] w fun e w' => e = .returned (.bool true) ∧ Below w.heap.size w w' := by
  have H1 := Lib.hid h1
  have H2 := Lib.hid h2
  obtain ⟨rfl, hc1, hm1, _⟩ := h1.shape
  obtain ⟨_, hc2, hm2, _⟩ := h2.shape
  unfold maxLen at hm1 hm2
  clear h1 h2
  go_enter Try.func19, Try.ntmps19
  go_wp2
  go_loopw [5] (fun r wr => ∃ i : Nat, i ≤ L.length ∧ r = .int .i64 (i : Int) ∧ Below w.heap.size w wr) (fun r _ => L.length - (intOf r).toNat)
  case atStart => exact ⟨0, by omega, rfl, Below.refl _ _⟩
  case round =>
    obtain ⟨i, hi, rfl, hb⟩ := hrel
    by_cases hie : i = L.length
    · subst hie
      have HB := Lib.hid hb
      clear hb
      go_wp2
      go_ret
      exact ⟨rfl, HB.out⟩
    · have hlt : i < L.length := by omega
      obtain ⟨x, hx⟩ : ∃ x, L[i]? = some x := ⟨_, List.getElem?_eq_getElem hlt⟩
      have hx16 := itF_addr (H1.out.1 x (List.mem_of_getElem? hx))
      obtain ⟨b, k, rfl, hbw, hr⟩ := isC_at (H1.out.below hb) i x hx
      obtain ⟨b2, k2, rfl, hbw2, hr2⟩ := isC_at (H2.out.below hb) i x hx
      have hii : (i : Int) < (L.length : Int) := by omega
      have hH : HeldV10 b (k + i * 19) b2 (k2 + i * 19) x.1.row x.2 wr.drew := ⟨range_pre hr, range_pre hr2, hr 18 _ (it_v hx16), hr2 18 _ (it_v hx16)⟩
      have HX16 := Lib.hid hx16
      have HB := Lib.hid hb
      clear hr hr2 hb hx16 hx
      go_wp2
      refine wp_region_noPanic ?_
      refine wp_region_held_drew (S := HeldV10 b (k + i * 19) b2 (k2 + i * 19) x.1.row x.2) (by kernel_rfl) hH (fun hHeld => ?_)
      refine held_take (v := ?v170) 0 rfl (by kernel_rfl) (by kernel_rfl) (by kernel_rfl) (fun _ _ _ h => h) (by rfl) ?y170 (by assumption) ?_
      case y170 => (intro w hSw; unfold HeldV10 at hSw; go_simp; (try with_reducible rfl); (try omega))
      simp only [List.setIfInBounds_toArray, List.set_cons_zero, List.set_cons_succ]
      refine held_take (v := ?v173) 1 rfl (by kernel_rfl) (by kernel_rfl) (by kernel_rfl) (fun _ _ _ h => h) (by rfl) ?y173 (by assumption) ?_
      case y173 => (intro w hSw; unfold HeldV10 at hSw; go_simp; (try with_reducible rfl); (try omega))
      simp only [List.setIfInBounds_toArray, List.set_cons_zero, List.set_cons_succ]
      refine held_take (v := ?v176) 2 rfl (by kernel_rfl) (by kernel_rfl) (by kernel_rfl) (fun _ _ _ h => h) (by rfl) ?y176 (by assumption) ?_
      case y176 => (intro w hSw; unfold HeldV10 at hSw; go_simp; (try with_reducible rfl); (try omega))
      simp only [List.setIfInBounds_toArray, List.set_cons_zero, List.set_cons_succ]
      refine held_take (v := ?v179) 3 rfl (by kernel_rfl) (by kernel_rfl) (by kernel_rfl) (fun _ _ _ h => h) (by rfl) ?y179 (by assumption) ?_
      case y179 => (intro w hSw; unfold HeldV10 at hSw; go_simp; (try with_reducible rfl); (try omega))
      simp only [List.setIfInBounds_toArray, List.set_cons_zero, List.set_cons_succ]
      refine held_take (v := x.1.val) 4 rfl (by kernel_rfl) (by kernel_rfl) (by kernel_rfl) (fun _ _ _ h => h) (by rfl) (fun W hSw => exec_load_any _ (.tmp 20) rfl b (k + i * 19) x.1.row _ rfl hSw.1 Try.underlying25 rfl (pf_infoC HX16.out)) (by assumption) ?_
      simp only [List.setIfInBounds_toArray, List.set_cons_zero, List.set_cons_succ]
      refine held_take (v := ?v184) 5 rfl (by kernel_rfl) (by kernel_rfl) (by kernel_rfl) (fun _ _ _ h => h) (by rfl) ?y184 (by assumption) ?_
      case y184 => (intro w hSw; unfold HeldV10 at hSw; go_simp; (try with_reducible rfl); (try omega))
      simp only [List.setIfInBounds_toArray, List.set_cons_zero, List.set_cons_succ]
      refine held_take (v := ?v187) 6 rfl (by kernel_rfl) (by kernel_rfl) (by kernel_rfl) (fun _ _ _ h => h) (by rfl) ?y187 (by assumption) ?_
      case y187 => (intro w hSw; unfold HeldV10 at hSw; go_simp; (try with_reducible rfl); (try omega))
      simp only [List.setIfInBounds_toArray, List.set_cons_zero, List.set_cons_succ]
      refine held_take (v := ?v190) 7 rfl (by kernel_rfl) (by kernel_rfl) (by kernel_rfl) (fun _ _ _ h => h) (by rfl) ?y190 (by assumption) ?_
      case y190 => (intro w hSw; unfold HeldV10 at hSw; go_simp; (try with_reducible rfl); (try omega))
      simp only [List.setIfInBounds_toArray, List.set_cons_zero, List.set_cons_succ]
      refine held_take (v := ?v193) 8 rfl (by kernel_rfl) (by kernel_rfl) (by kernel_rfl) (fun _ _ _ h => h) (by rfl) ?y193 (by assumption) ?_
      case y193 => (intro w hSw; unfold HeldV10 at hSw; go_simp; (try with_reducible rfl); (try omega))
      simp only [List.setIfInBounds_toArray, List.set_cons_zero, List.set_cons_succ]
      refine held_take (v := x.1.val) 9 rfl (by kernel_rfl) (by kernel_rfl) (by kernel_rfl) (fun _ _ _ h => h) (by rfl) (fun W hSw => exec_load_any _ (.tmp 25) rfl b2 (k2 + i * 19) x.1.row _ rfl hSw.2.1 Try.underlying25 rfl (pf_infoC HX16.out)) (by assumption) ?_
      simp only [List.setIfInBounds_toArray, List.set_cons_zero, List.set_cons_succ]
      refine held_take (v := .bool false) 10 rfl (by kernel_rfl) (by kernel_rfl) (by kernel_rfl) (fun _ _ _ h => h) (by rfl) (fun W hSw => (exec_neq_pfx 21 26 _ rfl x.1 x.1 HX16.out HX16.out rfl rfl).trans (by rw [eqP_self]; rfl)) (by assumption) ?_
      simp only [List.setIfInBounds_toArray, List.set_cons_zero, List.set_cons_succ]
      refine held_take (v := ?v200) 11 rfl (by kernel_rfl) (by kernel_rfl) (by kernel_rfl) (fun _ _ _ h => h) (by rfl) ?y200 (by assumption) ?_
      case y200 => (intro w hSw; unfold HeldV10 at hSw; go_simp; (try with_reducible rfl); (try omega))
      simp only [List.setIfInBounds_toArray, List.set_cons_zero, List.set_cons_succ]
      refine held_take (v := ?v203) 12 rfl (by kernel_rfl) (by kernel_rfl) (by kernel_rfl) (fun _ _ _ h => h) (by rfl) ?y203 (by assumption) ?_
      case y203 => (intro w hSw; unfold HeldV10 at hSw; go_simp; (try with_reducible rfl); (try omega))
      simp only [List.setIfInBounds_toArray, List.set_cons_zero, List.set_cons_succ]
      refine held_take (v := ?v206) 13 rfl (by kernel_rfl) (by kernel_rfl) (by kernel_rfl) (fun _ _ _ h => h) (by rfl) ?y206 (by assumption) ?_
      case y206 => (intro w hSw; unfold HeldV10 at hSw; go_simp; (try with_reducible rfl); (try omega))
      simp only [List.setIfInBounds_toArray, List.set_cons_zero, List.set_cons_succ]
      refine held_take (v := ?v209) 14 rfl (by kernel_rfl) (by kernel_rfl) (by kernel_rfl) (fun _ _ _ h => h) (by rfl) ?y209 (by assumption) ?_
      case y209 => (intro w hSw; unfold HeldV10 at hSw; go_simp; (try with_reducible rfl); (try omega))
      simp only [List.setIfInBounds_toArray, List.set_cons_zero, List.set_cons_succ]
      refine held_take (v := ?v212) 15 rfl (by kernel_rfl) (by kernel_rfl) (by kernel_rfl) (fun _ _ _ h => h) (by rfl) ?y212 (by assumption) ?_
      case y212 => (intro w hSw; unfold HeldV10 at hSw; go_simp; (try with_reducible rfl); (try omega))
      simp only [List.setIfInBounds_toArray, List.set_cons_zero, List.set_cons_succ]
      refine held_take (v := ?v215) 16 rfl (by kernel_rfl) (by kernel_rfl) (by kernel_rfl) (fun _ _ _ h => h) (by rfl) ?y215 (by assumption) ?_
      case y215 => (intro w hSw; unfold HeldV10 at hSw; go_simp; (try with_reducible rfl); (try omega))
      simp only [List.setIfInBounds_toArray, List.set_cons_zero, List.set_cons_succ]
      refine held_take (v := ?v218) 17 rfl (by kernel_rfl) (by kernel_rfl) (by kernel_rfl) (fun _ _ _ h => h) (by rfl) ?y218 (by assumption) ?_
      case y218 => (intro w hSw; unfold HeldV10 at hSw; go_simp; (try with_reducible rfl); (try omega))
      simp only [List.setIfInBounds_toArray, List.set_cons_zero, List.set_cons_succ]
      refine held_take (v := ?v221) 18 rfl (by kernel_rfl) (by kernel_rfl) (by kernel_rfl) (fun _ _ _ h => h) (by rfl) ?y221 (by assumption) ?_
      case y221 => (intro w hSw; unfold HeldV10 at hSw; go_simp; (try with_reducible rfl); (try omega))
      simp only [List.setIfInBounds_toArray, List.set_cons_zero, List.set_cons_succ]
      refine held_take (v := ?v224) 19 rfl (by kernel_rfl) (by kernel_rfl) (by kernel_rfl) (fun _ _ _ h => h) (by rfl) ?y224 (by assumption) ?_
      case y224 => (intro w hSw; unfold HeldV10 at hSw; go_simp; (try with_reducible rfl); (try omega))
      simp only [List.setIfInBounds_toArray, List.set_cons_zero, List.set_cons_succ]
      refine held_take (v := ?v227) 20 rfl (by kernel_rfl) (by kernel_rfl) (by kernel_rfl) (fun _ _ _ h => h) (by rfl) ?y227 (by assumption) ?_
      case y227 => (intro w hSw; unfold HeldV10 at hSw; go_simp; (try with_reducible rfl); (try omega))
      simp only [List.setIfInBounds_toArray, List.set_cons_zero, List.set_cons_succ]
      refine held_take (v := ?v230) 21 rfl (by kernel_rfl) (by kernel_rfl) (by kernel_rfl) (fun _ _ _ h => h) (by rfl) ?y230 (by assumption) ?_
      case y230 => (intro w hSw; unfold HeldV10 at hSw; go_simp; (try with_reducible rfl); (try omega))
      simp only [List.setIfInBounds_toArray, List.set_cons_zero, List.set_cons_succ]
      refine held_take (v := .bool false) 22 rfl (by kernel_rfl) (by kernel_rfl) (by kernel_rfl) (fun _ _ _ h => h) (by rfl) (fun W hSw => (by go_simp)) (by assumption) ?_
      simp only [List.setIfInBounds_toArray, List.set_cons_zero, List.set_cons_succ]
      refine held_take (v := ?v235) 23 rfl (by kernel_rfl) (by kernel_rfl) (by kernel_rfl) (fun _ _ _ h => h) (by rfl) ?y235 (by assumption) ?_
      case y235 => (intro w hSw; unfold HeldV10 at hSw; go_simp; (try with_reducible rfl); (try omega))
      simp only [List.setIfInBounds_toArray, List.set_cons_zero, List.set_cons_succ]
      refine wpAnyH_done (by kernel_rfl) ?_ _
      refine NoPanic.normal ?_
      clear hHeld hH
      go_wp2
      go_roundw
      case rel => exact ⟨i + 1, by omega, by go_num, HB.out.drew⟩
      case measure => simp [intOf]; omega
end Go.Proofs.Ytgimcapcnidjjaa
