/- slices.SortFunc over spans by their first label: a permutation that rises (the kit's contract at this dump). -/
import Derived.Shelf.SlSortCmp.WholeK
import Derived.Shelf.SlSortCmp.NoneTotal
import Derived.Shelf.SlicesG.Cmp
import Derived.Test.YtgelbeglffjdaaaShelf
import Derived.Test.YtgelbeglffjdaaaSp1
import Derived.Test.YtgelbeglffjdaaaPM11
namespace Go.Proofs.Ytgelbeglffjdaaa
open Go Go.RowKit Go.Shelf Go.Lib Go.Sort

def cfS (x y : Spn) : Int := Lib.compareInt x.f y.f
theorem ltS (x y : Spn) : ltOf cfS x y = decide (x.f < y.f) := by
  unfold ltOf cfS Lib.compareInt
  by_cases h1 : x.f < y.f
  · simp [h1]
  · by_cases h2 : y.f < x.f <;> simp [h1, h2]
theorem swoS : SWO (ltOf cfS) where
  irrefl x := by rw [ltS]; simp
  trans x y z h1 h2 := by rw [ltS] at *; simp at *; omega
  ntrans x y z h1 h2 := by rw [ltS] at *; simp at *; omega
set_option maxRecDepth 100000 in
set_option maxHeartbeats 1000000 in
theorem cmp1_any (x y : Spn) (W : World) : Calls Try.prog 103 #[.agg (sR x).toArray, .agg (sR y).toArray] W fun e w' => e = .returned (.int .i64 (cfS x y)) ∧ ∃ q os', w' = grow (W.drewN q) os' := by
  have hcon := fun W' => AnyG.cmp_Compare_int Try.cmpInt x.f y.f W'
  change ∀ W', Calls Try.prog 70 _ _ _ at hcon
  show Calls Try.prog 103 #[.agg #[.int .i64 x.f, .int .i64 x.l], .agg #[.int .i64 y.f, .int .i64 y.l]] W _
  unfold cfS
  generalize Lib.compareInt x.f y.f = r at hcon ⊢
  go_enter Try.func103, Try.ntmps103
  go_wp2_with (go_at_call 70; refine (hcon _).mono ?_; rintro e w' ⟨rfl, rfl⟩)
  go_ret
  exact ⟨rfl, 0, _, by rw [alloc_eq_grow, alloc_eq_grow, grow_grow]; rfl⟩
theorem flatK_get [Inhabited Spn] (d : List Spn) (j : Nat) (v : Value) (h : (d.flatMap sR)[j]? = some v) : j < d.length * 2 ∧ (flatK sR 2 d.toArray)[j]! = v := by
  have hl := cflat_length d (sR_all d)
  have hj : j < d.length * 2 := by rw [← hl]; exact (List.getElem?_eq_some_iff.1 h).1
  refine ⟨hj, ?_⟩
  rw [get_flatK sR 2 d.toArray j (by simpa using hj)]
  have h1 : j / 2 < d.length := by omega
  have h2 : d[j / 2]? = some d[j / 2] := List.getElem?_eq_getElem h1
  have h3 := flat_get d (sR_all d) (j / 2) (j % 2) _ h2 (by omega)
  rw [show j / 2 * 2 + j % 2 = j by omega, h] at h3
  have h4 : d.toArray[j / 2]! = d[j / 2] := by simp [h1]
  rw [h4]
  rw [List.getElem!_eq_getElem?_getD, ← h3]
  rfl
theorem putRow_other (enc : Value → Value) (w : World) (blk off : Nat) (F : Array Value) (k : Nat) (hk : k ≠ blk) : (putRow enc w blk off F).heap[k]? = w.heap[k]? := by
  unfold putRow mapBlock
  simp only
  rw [Array.getElem?_modify, if_neg (fun e => hk e.symm)]
theorem sort_other [Inhabited Spn] (w : World) (blk off m : Nat) (d : Array Spn) (os : Array Obj) (k : Nat) (hk : k ≠ blk) (hl : k < w.heap.size) : (sortWorldK sR 2 w blk off m d os).heap[k]? = w.heap[k]? := by
  unfold sortWorldK
  have h1 : (putRowK sR 2 (Sort.ahead w m) blk off d).heap[k]? = w.heap[k]? := putRow_other id _ blk off _ k hk
  have h2 : k < (putRowK sR 2 (Sort.ahead w m) blk off d).heap.size := by
    rcases Nat.lt_or_ge k (putRowK sR 2 (Sort.ahead w m) blk off d).heap.size with h | h
    · exact h
    · rw [Array.getElem?_eq_none h, Array.getElem?_eq_getElem hl] at h1
      cases h1
  show ((putRowK sR 2 (Sort.ahead w m) blk off d).heap ++ os)[k]? = _
  rw [Array.getElem?_append_left h2]
  exact h1
set_option maxRecDepth 100000 in
/-- A row of its own is sorted: spans that rise, a permutation; all other blocks as they were. -/
theorem sort_any (base : Nat) (v : Value) (l : List Spn) (w : World) (h : w.ownsRow base 27 2 v l.length (l.flatMap sR)) (hs : l.length ≤ 1000000) :
    Calls Try.prog 102 #[v, .func (.func 103) #[] #[]] w fun e w' => e = .returned (.tuple #[]) ∧ ∃ k, k.Perm l ∧ RiseS k ∧ IsS w' v k ∧ w.heap.size ≤ w'.heap.size ∧ w'.os = w.os ∧ w'.tape = w.tape ∧ w'.output = w.output ∧ ∀ i, i < w.heap.size → some i ≠ v.ownBlock → w'.heap[i]? = w.heap[i]? := by
  haveI : Inhabited Spn := ⟨⟨0, 0⟩⟩
  rcases h.2 with ⟨rfl, h0⟩ | ⟨g, cap, cur, rfl, h2, hg, h3, h4, h5, h6⟩
  · obtain rfl : l = [] := List.eq_nil_of_length_eq_zero h0
    have hcon := AnyF.slices_SortFunc_none Try.sortSp none 0 (.func (.func 103) #[] #[]) w
    change Calls Try.prog 102 _ _ _ at hcon
    refine hcon.mono ?_
    rintro e w' ⟨rfl, rfl⟩
    exact ⟨rfl, [], List.Perm.refl _, List.Pairwise.nil, IsC.nil _, Nat.le_refl _, rfl, rfl, rfl, fun _ _ _ => rfl⟩
  · have eg : ∀ args w, (callFunc 103 args).run Try.prog w = .ok (.enter 103 args) w := enters_of Try.func103 (by kernel_rfl) rfl
    have hglt : g < w.heap.size := (Array.getElem?_eq_some_iff.1 hg).1
    have hH : HoldsK sR 2 w g 0 l.toArray := by
      intro j hj
      rw [size_flatK] at hj
      have hj2 : j < (l.flatMap sR).length := by rw [cflat_length l (sR_all l)]; simpa using hj
      have hv : (l.flatMap sR)[j]? = some (l.flatMap sR)[j] := List.getElem?_eq_getElem hj2
      have e1 := (flatK_get l j _ hv).2
      refine ⟨?_, frozen_of_row w g _ _ _ hg⟩
      obtain ⟨u, hu⟩ : ∃ u, (l.flatMap sR)[j] = u := ⟨_, rfl⟩
      rw [hu] at hv e1
      rw [e1, cell_of_row w g (0 + j) _ _ _ hg, Nat.zero_add]
      show cur[j]? = some u
      rw [← h6, List.getElem?_take] at hv
      split at hv
      · rw [← hv]; simp
      · cases hv
    have hcon := AnyQ.slices_SortFunc Try.sortSp 2 Try.isAgg27 Try.sizeOf27 sR (fun _ => rfl) sR_one cfS swoS 103 #[] g 0 cap l.toArray w eg (fun _ _ _ _ x y => cmp1_any x y _) hH hglt (by simp; omega)
    change Calls Try.prog 102 _ _ _ at hcon
    rw [List.size_toArray] at hcon
    refine hcon.mono ?_
    rintro e w' ⟨rfl, d', n, os, hp, hsrt, rfl⟩
    obtain ⟨hps, _, hpp⟩ := hp
    have hps : d'.size = l.length := by simpa using hps
    have hd : d'.toList.Perm l := by
      have e1 : (d'.extract 0 l.length).toList = d'.toList := by
        rw [← hps]; simp
      have e2 : (l.toArray.extract 0 l.length).toList = l := by simp
      rw [e1, e2] at hpp
      exact hpp
    have hdl : d'.toList.length = l.length := by simpa using hps
    have hsz : (sortWorldK sR 2 w g 0 n d' os).heap.size = w.heap.size + os.size := by
      simp [sortWorldK, putRowK, putRow, mapBlock, Sort.ahead]
    have hho := SWK.holds (W := sortWorldK sR 2 w g 0 n d' os) ⟨n, os, rfl⟩ hglt hH (by simpa using hps)
    refine ⟨rfl, d'.toList, hd, ?_, ⟨sR_all _, some ⟨g, 0, none⟩, cap, by rw [hdl], by rw [hdl]; exact h3, h4, fun _ => ⟨g, 0, rfl, by omega, fun j v hj => ?_⟩⟩, by omega, rfl, rfl, rfl, fun i hi hne => ?_⟩
    · refine List.pairwise_iff_getElem.2 (fun i j hi hj hij => ?_)
      have h7 := hsrt i j (Nat.zero_le _) hij (by omega)
      rw [ltS] at h7
      have h8 := of_decide_eq_false h7
      have i2 : i < d'.size := by simpa using hi
      have j2 : j < d'.size := by simpa using hj
      rw [getElem!_pos d' i i2, getElem!_pos d' j j2] at h8
      simp only [Array.getElem_toList]
      omega
    · have h7 := flatK_get d'.toList j v hj
      rw [Array.toArray_toList] at h7
      have h8 := hho j (by rw [size_flatK]; omega)
      rw [h7.2] at h8
      exact h8.1
    · exact sort_other w g 0 n d' os i (fun e => hne (by rw [e]; rfl)) hi
end Go.Proofs.Ytgelbeglffjdaaa
