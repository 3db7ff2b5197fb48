/- slices.Collect over the items below a node: All of package lpm. -/
import Derived.Test.YtgimcapcnidjjaaTabD
import Derived.Test.YtgimcapcnidjjaaT9l
import Derived.Maps.OwnIn
namespace Go.Proofs.Ytgimcapcnidjjaa
open Go Go.RowKit Go.Shelf
attribute [local go_sem] Oper.semAt_some

def itF (x : Pfx × Int) : List Value := itR x.1 x.2
theorem items_ok (l : List It) : ∀ x ∈ itemsT l, x.1.addr.length = 16 := by
  intro x hx
  obtain ⟨y, _, rfl⟩ := List.mem_map.1 hx
  exact y.2
theorem exec_one_it {ρ : Operand → Value} {o : Oper} {w : World} (x : Operand) (ho : o.op = .buildSlice 56 1 #[(0, x)]) (p : Pfx) (v : Int) (f : p.addr.length = 16) (hx : ρ x = itV p v) :
    (execOp ρ o).run Try.prog w = .ok (.value (.slice (some ⟨w.heap.size, 0, none⟩) 1 1)) (w.alloc (.cells (itR p v).toArray 44)) := by
  obtain ⟨i, hi, hz, hs, _⟩ := info_parts it_infoF
  have := run_buildSlice (P := Try.prog) w 56 44 1 #[(0, itV p v)] (itR p v).toArray i (itV ⟨false, List.replicate 16 0, 0⟩ 0) Try.underlying56 hi hz (by rw [hs]; decide) (by rw [hs]; decide) (by rw [hs]; exact fill_it p v f _ (by simp))
  unfold execOp
  simp only [ho, List.map_toArray, List.map_cons, List.map_nil, hx, Sem.run_bind, this, Result.andThen_ok, Sem.run_pure]
theorem own_type {w : World} {base : Nat} {e : TypeId} {size : Nat} {v : Value} {n : Nat} {xs : List Value} (h : w.ownsRow base e size v n xs) : ∀ k, v.ownBlock = some k → ∃ cur, w.heap[k]? = some (.cells cur e (0, 0)) := by
  intro k hk
  rcases h.2 with ⟨rfl, _⟩ | ⟨g, cap, cur, rfl, _, hg, _⟩
  · cases hk
  · cases hk; exact ⟨cur, hg⟩
/-- What has been gathered. -/
structure ColI (w : World) (items : List (Pfx × Int)) (W : World) : Prop where
  row : ∃ v, Bx W w.heap.size 56 [v] ∧ W.ownsRow w.heap.size 44 19 v items.length (items.flatMap itF)
  below : Below w.heap.size w W
theorem ColI.from {w : World} {items : List (Pfx × Int)} {B : Nat} (hB : w.heap.size ≤ B) {X Y : World} {row : Option Nat} (h : ColI w items X) (hg : X.grownBy Y row) (hr : ∀ r, row = some r → B ≤ r ∧ ∃ o : Obj, X.heap[r]? = some o ∧ o.isCells = false) : ColI w items Y := by
  obtain ⟨⟨v, h1, h2⟩, h3⟩ := h
  exact ⟨⟨v, bx_from h1 hg hr, own_from h2 hg hr⟩, ownFrom_below (β := Unit) (Nat.le_refl _) hB () X Y row h3 hg hr⟩
theorem ColI.up {w : World} {items : List (Pfx × Int)} {W W' : World} (h : ColI w items W) (hb : Below W.heap.size W W') : ColI w items W' := by
  obtain ⟨⟨v, h1, h2⟩, h3⟩ := h
  exact ⟨⟨v, h1.up hb, own_below h2 hb⟩, below_up h3 hb h3.size⟩
set_option maxRecDepth 100000 in
set_option maxHeartbeats 4000000 in
theorem appendSeq_in (m gf : Nat) (lb : Array Value) (eg : ∀ args w, (callFunc gf args).run Try.prog w = .ok (.enter gf args) w) (items : List (Pfx × Int)) (w : World) (hN : items.length ≤ 1000000)
    (hseq : ∀ k W, Below w.heap.size w W → SeqZ k gf lb KpI (fun ys => itemsT ys = items) (fun pre => itemsT pre <+: items) items.length W) :
    CallsIn Fence.wide m Try.prog 74 #[.slice none 0 0, .func (.func gf) #[] lb] w fun e w' => ∃ v, e = .returned v ∧ w'.ownsRow w.heap.size 44 19 v items.length (items.flatMap itF) ∧ Below w.heap.size w w' := by
  have hz : ColI w [] (w.alloc (.cells #[.slice none 0 0] 56)) := ⟨⟨.slice none 0 0, Bx.new w _ [.slice none 0 0], World.ownsRow_nil _ _ _ _⟩, (Below.refl _ _).alloc (Nat.le_refl _) _⟩
  have hsz : (w.alloc (.cells #[.slice none 0 0] 56)).heap.size = w.heap.size + 1 := by simp
  have HZ := Lib.hid hz
  refine callsIn_of_wp_marks Try.func74 rfl trivial ?_ rfl
  simp only [Try.ntmps74, List.size_toArray, List.length_cons, List.length_nil, Nat.reduceAdd, Nat.reduceSub, Array.replicate_succ, Array.replicate_zero, List.push_toArray, List.append_toArray, List.nil_append, List.cons_append]
  clear hz
  gi_wp2
  have hs := hseq (m - 1) _ HZ.out.below
  have hz := HZ.out
  clear HZ
  generalize w.alloc (.cells #[.slice none 0 0] 56) = W0 at *
  refine wp_range (gf := gf) (lb := lb) rfl eg hs (fun h k => h.trans k) (fun W l o o' h1 h2 => KpI.put W l o o' h1 h2) (by rfl)
    (fun pre V => ColI w (itemsT pre) V) (fun _ _ _ => False)
    (fun s X Y row h1 h2 h3 => ColI.from (by omega) h1 h2 h3) (fun c s X Y row h1 h2 h3 => h1.elim) hz
    (fun x a' V => ∃ B5, w.heap.size < B5 ∧ B5 < V.heap.size ∧ Bx V B5 44 (itR x.1.1 x.1.2) ∧ a' = { tmps := #[.slice none 0 0, .func (.func gf) #[] lb, .pointer (some ⟨w.heap.size, 0, none⟩), undef, .slice none 0 0, .pointer (some ⟨B5, 0, none⟩), .func (.func gf) #[] lb, itV x.1.1 x.1.2, undef, undef, undef, undef, undef], defers := [] })
    (fun x a' s X Y row h1 h2 h3 => by obtain ⟨B5, e0, e1, e2, e3⟩ := h1; exact ⟨B5, e0, Nat.lt_of_lt_of_le e1 h2.size, bx_from e2 h2 h3, e3⟩)
    ?_ ?_ ?_ ?_
  · rintro l pre x V K hi hK
    have hbb : Below V.heap.size V (V.alloc (.cells (itR x.1.1 x.1.2).toArray 44)) := (Below.refl _ _).alloc (Nat.le_refl _) _
    obtain ⟨v, hv, _⟩ := hi.row
    gi_wp2_with (refine inS rfl (by intro c h; cases h) rfl (exec_store_fresh _ (.tmp 5) (.tmp 7) rfl (itR x.1.1 x.1.2) _ V.heap.size rfl rfl rfl (it_infoC x.2 _) (by rw [it_len x.2]; rfl) (it_one _ _)) ?_; refine Hid.out ?_)
    refine Lib.hid ?_
    gi_wp2
    exact hK _ _ ((KeepsOthers.alloc _ _).from _) (KpI.below hbb) (hi.up hbb) ⟨V.heap.size, hv.lt, by simp, Bx.new V _ _, rfl⟩
  · rintro l pre x a' V hl hi ⟨B5, hB5, hB6, hx5, rfl⟩ hlt
    have RX := Lib.hid (rangeAll hx5)
    obtain ⟨v, hv, hrow⟩ := hi.row
    have cv : V.cell? ⟨w.heap.size, 0, none⟩ = some v := by rw [hv.cell]; rfl
    have hbb : Below V.heap.size V (V.alloc (.cells (itR x.1.1 x.1.2).toArray 44)) := (Below.refl _ _).alloc (Nat.le_refl _) _
    have HROW := Lib.hid (own_below hrow hbb)
    have HBN := Lib.hid (Bx.new V 44 (itR x.1.1 x.1.2))
    have HV := Lib.hid (hv.up hbb)
    have hbase := hi.below.size
    have hVsz : (V.alloc (.cells (itR x.1.1 x.1.2).toArray 44)).heap.size = V.heap.size + 1 := by simp
    have hlen : (itemsT pre).length = pre.length := by simp [itemsT]
    have HI := Lib.hid hi
    obtain ⟨ti, hti, htz, hts, htb⟩ := info_parts it_infoF
    clear hx5 hrow hv hi
    gi_wp2_with (first
      | (refine inV rfl (by intro c h; cases h) rfl (itV x.1.1 x.1.2) (exec_load_any _ (.tmp 5) rfl B5 0 (itR x.1.1 x.1.2) _ rfl RX.out Try.underlying44 rfl (it_infoC x.2 _)) ?_)
      | (refine inV rfl (by intro c h; cases h) rfl (.slice (some ⟨V.heap.size, 0, none⟩) 1 1) (exec_one_it (.tmp 9) rfl x.1.1 x.1.2 x.2 rfl) ?_)
      | (gi_at_builtin; refine wpListIn_append_own _ rfl _ _ 56 rfl w.heap.size 44 ti (itV ⟨false, List.replicate 16 0, 0⟩ 0) 19 40 Try.underlying56 hti htz hts htb rfl (by decide) _ _ _ rfl HROW.out ⟨V.heap.size, 0, none⟩ 1 1 (itR x.1.1 x.1.2) rfl (by rw [it_len x.2]) (fun j u hj => World.news_of_block HBN.out j u (by simpa using hj)) (it_one _ _) (by unfold maxLen; omega) (by omega) (by omega) ?_; intro v' w1 hown hgr _; refine Hid.out ?_))
    refine Lib.hid ?_
    have hnR : ∀ k c t z, (V.alloc (.cells (itR x.1.1 x.1.2).toArray 44)).heap[k]? = some (.cells c t z) → t ≠ 44 → some k ≠ v.ownBlock := fun k c t z hk ht e => by
      obtain ⟨cur, hc⟩ := own_type HROW.out k e.symm
      rw [hk] at hc
      cases hc
      exact ht rfl
    have hnO : ∀ k o, (V.alloc (.cells (itR x.1.1 x.1.2).toArray 44)).heap[k]? = some o → o.isCells = false → some k ≠ v.ownBlock := fun k o hk ho e => by
      obtain ⟨cur, hc⟩ := own_type HROW.out k e.symm
      rw [hk] at hc
      cases hc
      cases ho
    have hv1 : Bx w1 w.heap.size 56 [v] := (hgr.block _ HV.out.lt (hnR _ _ _ _ HV.out (by decide))).trans HV.out
    have c1 : w1.cell? ⟨w.heap.size, 0, none⟩ = some v := by rw [hv1.cell]; rfl
    have y1 := hv1.frozen 0
    obtain ⟨g', cap', rfl⟩ := ownsRow_succ hown
    have hkeep : KeepsFrom W0.heap.size V (w1.setCell ⟨w.heap.size, 0, none⟩ (.slice (some ⟨g', 0, none⟩) ((itemsT pre).length + 1) cap')) := by
      refine ⟨by have := hgr.size; simp at this ⊢; omega, fun k o hB hk ho => ?_⟩
      have hk2 := (Below.heap_alloc V (.cells (itR x.1.1 x.1.2).toArray 44) k (Array.getElem?_eq_some_iff.1 hk).1).trans hk
      have hk3 := (hgr.block k (Array.getElem?_eq_some_iff.1 hk2).1 (hnO k o hk2 ho)).trans hk2
      refine (Below.heap_setCell w1 _ _ k (fun e => ?_)).trans hk3
      simp only at e
      omega
    have hkp : KpI V (w1.setCell ⟨w.heap.size, 0, none⟩ (.slice (some ⟨g', 0, none⟩) ((itemsT pre).length + 1) cap')) := by
      refine ⟨hkeep.size, fun k c t z h1 h2 hk => ?_⟩
      have hk2 := (Below.heap_alloc V (.cells (itR x.1.1 x.1.2).toArray 44) k (Array.getElem?_eq_some_iff.1 hk).1).trans hk
      have hk3 := (hgr.block k (Array.getElem?_eq_some_iff.1 hk2).1 (hnR k c t z hk2 h1)).trans hk2
      refine (Below.heap_setCell w1 _ _ k (fun e => ?_)).trans hk3
      simp only at e
      rw [e, show w1.heap[w.heap.size]? = _ from hv1] at hk3
      cases hk3
      exact h2 rfl
    have hrow2 : (w1.setCell ⟨w.heap.size, 0, none⟩ (.slice (some ⟨g', 0, none⟩) ((itemsT pre).length + 1) cap')).ownsRow w.heap.size 44 19 (.slice (some ⟨g', 0, none⟩) ((itemsT pre).length + 1) cap') ((itemsT pre).length + 1) ((itemsT pre).flatMap itF ++ itR x.1.1 x.1.2) := own_keep hown (fun k e => Below.heap_setCell w1 _ _ k (fun e2 => by
      obtain ⟨cur, hc⟩ := own_type hown k e
      simp only at e2
      rw [e2, show w1.heap[w.heap.size]? = _ from hv1] at hc
      cases hc))
    have hB1 : Below w.heap.size w w1 := (below_up HI.out.below ((Below.refl V.heap.size V).alloc (Nat.le_refl _) _) HI.out.below.size).grown hgr (by omega) (fun k e => by
      have := owned_low HROW.out k e
      exact this)
    have hfin : ColI w (itemsT (pre ++ [x])) (w1.setCell ⟨w.heap.size, 0, none⟩ (.slice (some ⟨g', 0, none⟩) ((itemsT pre).length + 1) cap')) := by
      refine ⟨⟨_, hv1.set 0 _, ?_⟩, hB1.setCell (p := ⟨w.heap.size, 0, none⟩) (Nat.le_refl _) _⟩
      have e1 : (itemsT (pre ++ [x])).length = (itemsT pre).length + 1 := by simp [itemsT]
      have e2 : (itemsT (pre ++ [x])).flatMap itF = (itemsT pre).flatMap itF ++ itR x.1.1 x.1.2 := by simp [itemsT, itF]
      rw [e1, e2]
      exact hrow2
    have HF := Lib.hid (⟨hkeep, hkp, hfin⟩ : _ ∧ _ ∧ _)
    clear hkeep hkp hfin hrow2 hB1 hv1 hnO hnR hown hgr HROW HBN HV HI RX cv hlen
    gi_wp2
    exact HF.out
  · rintro D ys V hD hS hi hK
    obtain ⟨v, hv, hrow⟩ := hi.row
    have cv : V.cell? ⟨w.heap.size, 0, none⟩ = some v := by rw [hv.cell]; rfl
    have HB := Lib.hid hi.below
    rw [hS] at hrow
    have HR := Lib.hid hrow
    clear hi hv hrow
    gi_wp2
    refine ⟨by simp, .inl ⟨_, _, rfl, run_takeDeferred hK, ?_⟩⟩
    exact ⟨_, results_tmp rfl _ _ _, v, rfl, ownsRow_putObj HR.out _ hK rfl, HB.out.trans (belowK_b (w := w) (Nat.le_refl _) V D _ _ (by omega) hK rfl rfl)⟩
  · rintro D c pre V _ _ h _
    exact h.elim
set_option maxHeartbeats 1000000 in
theorem collect_in (m gf : Nat) (lb : Array Value) (eg : ∀ args w, (callFunc gf args).run Try.prog w = .ok (.enter gf args) w) (items : List (Pfx × Int)) (w : World) (hN : items.length ≤ 1000000)
    (hseq : ∀ k W, Below w.heap.size w W → SeqZ k gf lb KpI (fun ys => itemsT ys = items) (fun pre => itemsT pre <+: items) items.length W) :
    CallsIn Fence.wide m Try.prog 60 #[.func (.func gf) #[] lb] w fun e w' => ∃ v, e = .returned v ∧ w'.ownsRow w.heap.size 44 19 v items.length (items.flatMap itF) ∧ Below w.heap.size w w' := by
  have HA := Lib.hid (fun k => appendSeq_in k gf lb eg items w hN hseq)
  refine callsIn_of_wp Try.func60 rfl trivial ?_ rfl
  simp only [Try.ntmps60, List.size_toArray, List.length_cons, List.length_nil, Nat.reduceAdd, Nat.reduceSub, Array.replicate_succ, Array.replicate_zero, List.push_toArray, List.append_toArray, List.nil_append, List.cons_append]
  gi_wp2_with (refine ⟨trivial, fun h => (by cases h), ?_⟩; refine (HA.out _).mono ?_; rintro e w1 ⟨v, rfl, h1, h2⟩; refine Hid.out ?_)
  refine Lib.hid ?_
  gi_wp2
  go_ret
  exact ⟨v, rfl, h1, h2⟩
theorem all_any (T : Tb) (w : World) (X : Nat → Prop) (g : Nat) (h : TabM w X g T) (f : Nat) (items : List (Pfx × Int)) (hI : belowN f T.nds T.root = some items) (hN : items.length ≤ 1000000) :
    Calls Try.prog 44 #[.pointer (some ⟨g, 0, none⟩)] w fun e w' => ∃ v, e = .returned v ∧ w'.ownsRow w.heap.size 44 19 v items.length (items.flatMap itF) ∧ Below w.heap.size w w' := by
  obtain ⟨gn, cap, vf, hG⟩ := h
  have c3 := hG.c3
  have HB := Lib.hid (fun k W => below_in k T.root g W)
  have hbb : Below w.heap.size w ((w.alloc (.cells #[.pointer (some ⟨g, 0, none⟩)] 66)).alloc (.cells #[.int .i64 (T.root : Int)] 3)) := ((Below.refl _ _).alloc (Nat.le_refl _) _).alloc (by simp) _
  have hab := twoB_new w 66 3 [.pointer (some ⟨g, 0, none⟩)] [.int .i64 (T.root : Int)]
  have HC := Lib.hid (fun k => collect_in k 75 #[.pointer (some ⟨w.heap.size + 1, 0, none⟩), .pointer (some ⟨w.heap.size, 0, none⟩)] (enters_of Try.func75 (by kernel_rfl) rfl) items
    ((w.alloc (.cells #[.pointer (some ⟨g, 0, none⟩)] 66)).alloc (.cells #[.int .i64 (T.root : Int)] 3)) hN (fun j W hW => below_seq X g T f T.root items hI j W (w.heap.size + 1) w.heap.size ⟨_, _, _, (hG.up hbb).up hW⟩ (hab.2.1.up hW) (hab.1.up hW)))
  have HBB := Lib.hid hbb
  have hsz : ((w.alloc (.cells #[.pointer (some ⟨g, 0, none⟩)] 66)).alloc (.cells #[.int .i64 (T.root : Int)] 3)).heap.size = w.heap.size + 2 := by simp
  clear hab hbb hG
  refine (callsIn_wide (n := 5)).1 ?_
  refine callsIn_of_wp Try.func44 rfl trivial ?_ rfl
  simp only [Try.ntmps44, List.size_toArray, List.length_cons, List.length_nil, Nat.reduceAdd, Nat.reduceSub, Array.replicate_succ, Array.replicate_zero, List.push_toArray, List.append_toArray, List.nil_append, List.cons_append]
  gi_wp2_with (first
    | (refine ⟨trivial, ?_⟩; gi_at_call 61; refine (HB.out _ _).mono ?_; rintro e w' ⟨rfl, rfl⟩)
    | (refine ⟨trivial, ?_⟩; gi_at_call 60; refine (HC.out _).mono ?_; rintro e w1 ⟨v, rfl, h1, h2⟩; refine Hid.out ?_))
  refine Lib.hid ?_
  have h1 := own_mono h1 (show w.heap.size ≤ _ by omega)
  have h2 := below_up HBB.out h2 HBB.out.size
  clear HC HB HBB
  gi_wp2
  go_ret
  exact ⟨v, rfl, h1, h2⟩
end Go.Proofs.Ytgimcapcnidjjaa
