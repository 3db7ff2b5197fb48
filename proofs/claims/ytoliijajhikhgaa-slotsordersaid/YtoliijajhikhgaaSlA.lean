/- Package slots: All: gathered, and sorted by the kit's contract of slices.SortFunc at this dump. -/
import Derived.Shelf.SlSortCmp.WholeK
import Derived.Shelf.SlSortCmp.NoneTotal
import Derived.Shelf.SlicesG.Cmp
import Derived.Test.YtoliijajhikhgaaShelf
import Derived.Test.YtoliijajhikhgaaSl4
namespace Go.Proofs.Ytoliijajhikhgaa
open Go Go.RowKit Go.Shelf Go.Lib Go.Sort

def iR (x : Int × Int) : List Value := [.int .i64 x.1, .int .i64 x.2]
def iV (x : Int × Int) : Value := .agg (iR x).toArray
theorem iR_all (l : List (Int × Int)) : ∀ x ∈ l, (iR x).length = 2 := fun _ _ => rfl
theorem iR_one (s : Int × Int) : ∀ v ∈ iR s, v.oneCell' = true := by
  intro v h
  simp only [iR, List.mem_cons, List.not_mem_nil, or_false] at h
  rcases h with rfl | rfl <;> rfl
theorem it_info13 : (Try.prog.info? 45).map (·.size) = some 2 := by kernel_rfl
theorem it_infoF13 : (Try.prog.info? 45).map (fun i => (i.zero, i.size, i.bytes)) = some (some (iV (0, 0)), 2, 16) := by kernel_rfl
abbrev IsI13 (w : World) (v : Value) (l : List (Int × Int)) : Prop := IsC iR 2 w v l
def cfI (x y : Int × Int) : Int := Lib.compareInt x.1 y.1
theorem ltI (x y : Int × Int) : ltOf cfI x y = decide (x.1 < y.1) := by
  unfold ltOf cfI Lib.compareInt
  by_cases h1 : x.1 < y.1
  · simp [h1]
  · by_cases h2 : y.1 < x.1 <;> simp [h1, h2]
theorem swoI : SWO (ltOf cfI) where
  irrefl x := by rw [ltI]; simp
  trans x y z h1 h2 := by rw [ltI] at *; simp at *; omega
  ntrans x y z h1 h2 := by rw [ltI] at *; simp at *; omega
set_option maxRecDepth 100000 in
set_option maxHeartbeats 1000000 in
theorem cmp13_any (x y : Int × Int) (W : World) : Calls Try.prog 23 #[.agg (iR x).toArray, .agg (iR y).toArray] W fun e w' => e = .returned (.int .i64 (cfI x y)) ∧ ∃ q os', w' = grow (W.drewN q) os' := by
  have hcon := fun W' => AnyG.cmp_Compare_int Try.cmpInt x.1 y.1 W'
  change ∀ W', Calls Try.prog 24 _ _ _ at hcon
  show Calls Try.prog 23 #[.agg #[.int .i64 x.1, .int .i64 x.2], .agg #[.int .i64 y.1, .int .i64 y.2]] W _
  unfold cfI
  generalize Lib.compareInt x.1 y.1 = r at hcon ⊢
  go_enter Try.func23, Try.ntmps23
  go_wp2_with (go_at_call 24; refine (hcon _).mono ?_; rintro e w' ⟨rfl, rfl⟩)
  go_ret
  exact ⟨rfl, 0, _, by rw [alloc_eq_grow, alloc_eq_grow, grow_grow]; rfl⟩
theorem flatI_get [Inhabited (Int × Int)] (d : List (Int × Int)) (j : Nat) (v : Value) (h : (d.flatMap iR)[j]? = some v) : j < d.length * 2 ∧ (flatK iR 2 d.toArray)[j]! = v := by
  have hl := cflat_length d (iR_all d)
  have hj : j < d.length * 2 := by rw [← hl]; exact (List.getElem?_eq_some_iff.1 h).1
  refine ⟨hj, ?_⟩
  rw [get_flatK iR 2 d.toArray j (by simpa using hj)]
  have h1 : j / 2 < d.length := by omega
  have h2 : d[j / 2]? = some d[j / 2] := List.getElem?_eq_getElem h1
  have h3 := flat_get d (iR_all d) (j / 2) (j % 2) _ h2 (by omega)
  rw [show j / 2 * 2 + j % 2 = j by omega, h] at h3
  have h4 : d.toArray[j / 2]! = d[j / 2] := by simp [h1]
  rw [h4]
  rw [List.getElem!_eq_getElem?_getD, ← h3]
  rfl
theorem putRow_other13 (enc : Value → Value) (w : World) (blk off : Nat) (F : Array Value) (k : Nat) (hk : k ≠ blk) : (putRow enc w blk off F).heap[k]? = w.heap[k]? := by
  unfold putRow mapBlock
  simp only
  rw [Array.getElem?_modify, if_neg (fun e => hk e.symm)]
theorem sort_other13 [Inhabited (Int × Int)] (w : World) (blk off m : Nat) (d : Array (Int × Int)) (os : Array Obj) (k : Nat) (hk : k ≠ blk) (hl : k < w.heap.size) : (sortWorldK iR 2 w blk off m d os).heap[k]? = w.heap[k]? := by
  unfold sortWorldK
  have h1 : (putRowK iR 2 (Sort.ahead w m) blk off d).heap[k]? = w.heap[k]? := putRow_other13 id _ blk off _ k hk
  have h2 : k < (putRowK iR 2 (Sort.ahead w m) blk off d).heap.size := by
    rcases Nat.lt_or_ge k (putRowK iR 2 (Sort.ahead w m) blk off d).heap.size with h | h
    · exact h
    · rw [Array.getElem?_eq_none h, Array.getElem?_eq_getElem hl] at h1
      cases h1
  show ((putRowK iR 2 (Sort.ahead w m) blk off d).heap ++ os)[k]? = _
  rw [Array.getElem?_append_left h2]
  exact h1
set_option maxRecDepth 100000 in
/-- A row of its own is sorted: labels that rise, a permutation; all other blocks as they were. -/
theorem sort13_any (base : Nat) (v : Value) (l : List (Int × Int)) (w : World) (h : w.ownsRow base 45 2 v l.length (l.flatMap iR)) (hs : l.length ≤ 1000000) :
    Calls Try.prog 22 #[v, .func (.func 23) #[] #[]] w fun e w' => e = .returned (.tuple #[]) ∧ ∃ k, k.Perm l ∧ k.Pairwise (fun x y => x.1 ≤ y.1) ∧ IsI13 w' v k ∧ w.heap.size ≤ w'.heap.size ∧ w'.os = w.os ∧ w'.tape = w.tape ∧ w'.output = w.output ∧ (∀ i, i < w.heap.size → v.ownBlock ≠ some i → w'.heap[i]? = w.heap[i]?) := by
  haveI : Inhabited (Int × Int) := ⟨(0, 0)⟩
  rcases h.2 with ⟨rfl, h0⟩ | ⟨g, cap, cur, rfl, h2, hg, h3, h4, h5, h6⟩
  · obtain rfl : l = [] := List.eq_nil_of_length_eq_zero h0
    have hcon := AnyF.slices_SortFunc_none Try.sortIt none 0 (.func (.func 23) #[] #[]) w
    change Calls Try.prog 22 _ _ _ at hcon
    refine hcon.mono ?_
    rintro e w' ⟨rfl, rfl⟩
    exact ⟨rfl, [], List.Perm.refl _, List.Pairwise.nil, IsC.nil _, Nat.le_refl _, rfl, rfl, rfl, fun _ _ _ => rfl⟩
  · have eg : ∀ args w, (callFunc 23 args).run Try.prog w = .ok (.enter 23 args) w := enters_of Try.func23 (by kernel_rfl) rfl
    have hglt : g < w.heap.size := (Array.getElem?_eq_some_iff.1 hg).1
    have hH : HoldsK iR 2 w g 0 l.toArray := by
      intro j hj
      rw [size_flatK] at hj
      have hj2 : j < (l.flatMap iR).length := by rw [cflat_length l (iR_all l)]; simpa using hj
      have hv : (l.flatMap iR)[j]? = some (l.flatMap iR)[j] := List.getElem?_eq_getElem hj2
      have e1 := (flatI_get l j _ hv).2
      refine ⟨?_, frozen_of_row w g _ _ _ hg⟩
      obtain ⟨u, hu⟩ : ∃ u, (l.flatMap iR)[j] = u := ⟨_, rfl⟩
      rw [hu] at hv e1
      rw [e1, cell_of_row w g (0 + j) _ _ _ hg, Nat.zero_add]
      show cur[j]? = some u
      rw [← h6, List.getElem?_take] at hv
      split at hv
      · rw [← hv]; simp
      · cases hv
    have hcon := AnyQ.slices_SortFunc Try.sortIt 2 Try.isAgg45 Try.sizeOf45 iR (fun _ => rfl) iR_one cfI swoI 23 #[] g 0 cap l.toArray w eg (fun _ _ _ _ x y => cmp13_any x y _) hH hglt (by simp; omega)
    change Calls Try.prog 22 _ _ _ at hcon
    rw [List.size_toArray] at hcon
    refine hcon.mono ?_
    rintro e w' ⟨rfl, d', n, os, hp, hsrt, rfl⟩
    obtain ⟨hps, _, hpp⟩ := hp
    have hps : d'.size = l.length := by simpa using hps
    have hd : d'.toList.Perm l := by
      have e1 : (d'.extract 0 l.length).toList = d'.toList := by
        rw [← hps]; simp
      have e2 : (l.toArray.extract 0 l.length).toList = l := by simp
      rw [e1, e2] at hpp
      exact hpp
    have hdl : d'.toList.length = l.length := by simpa using hps
    have hsz : (sortWorldK iR 2 w g 0 n d' os).heap.size = w.heap.size + os.size := by
      simp [sortWorldK, putRowK, putRow, mapBlock, Sort.ahead]
    have hho := SWK.holds (W := sortWorldK iR 2 w g 0 n d' os) ⟨n, os, rfl⟩ hglt hH (by simpa using hps)
    refine ⟨rfl, d'.toList, hd, ?_, ⟨iR_all _, some ⟨g, 0, none⟩, cap, by rw [hdl], by rw [hdl]; exact h3, h4, fun _ => ⟨g, 0, rfl, by omega, fun j v hj => ?_⟩⟩, by omega, rfl, rfl, rfl, fun i hi hne => ?_⟩
    · refine List.pairwise_iff_getElem.2 (fun i j hi hj hij => ?_)
      have h7 := hsrt i j (Nat.zero_le _) hij (by omega)
      rw [ltI] at h7
      have h8 := of_decide_eq_false h7
      have i2 : i < d'.size := by simpa using hi
      have j2 : j < d'.size := by simpa using hj
      rw [getElem!_pos d' i i2, getElem!_pos d' j j2] at h8
      simp only [Array.getElem_toList]
      omega
    · have h7 := flatI_get d'.toList j v hj
      rw [Array.toArray_toList] at h7
      have h8 := hho j (by rw [size_flatK]; omega)
      rw [h7.2] at h8
      exact h8.1
    · exact sort_other13 w g 0 n d' os i (fun e => hne (by rw [e]; rfl)) hi
theorem srt_of {k L : List (Int × Int)} (hp : k.Perm L) (hr : k.Pairwise (fun x y => x.1 ≤ y.1)) (hs : SrtL L) : k = L := by
  have h1 : (L.map (·.1)).Nodup := by
    rw [List.Nodup, List.pairwise_map]
    exact hs.imp (fun h => by omega)
  have h2 : (k.map (·.1)).Nodup := (hp.map _).nodup_iff.2 h1
  rw [List.Nodup, List.pairwise_map] at h2
  have h3 : SrtL k := (hr.and h2).imp (fun h => by omega)
  exact srt_ext h3 hs hp
theorem fill_it1 (s : Int × Int) (z : Array Value) (hz : z.size = 2) : Instr.fill (fun i => some (i * 2, 2)) z [(0, iV s)] = some (iR s).toArray := fill_one 2 (iR s) rfl z hz
theorem exec_one_it {ρ : Operand → Value} {o : Oper} {w : World} (x : Operand) (ho : o.op = .buildSlice 42 1 #[(0, x)]) (s : Int × Int) (hx : ρ x = iV s) (b : Nat) (hb : w.heap.size = b) :
    (execOp ρ o).run Try.prog w = .ok (.value (.slice (some ⟨b, 0, none⟩) 1 1)) (w.alloc (.cells (iR s).toArray 45)) := by
  subst hb
  obtain ⟨i, hi, hz, hs, _⟩ := info_parts it_infoF13
  have := run_buildSlice (P := Try.prog) w 42 45 1 #[(0, iV s)] (iR s).toArray i (iV (0, 0)) Try.underlying42 hi hz (by rw [hs]; decide) (by rw [hs]; decide) (by rw [hs]; exact fill_it1 s _ (by simp))
  unfold execOp
  simp only [ho, List.map_toArray, List.map_cons, List.map_nil, hx, Sem.run_bind, this, Result.andThen_ok, Sem.run_pure]
end Go.Proofs.Ytoliijajhikhgaa
