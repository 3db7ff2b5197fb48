/- DottedNumbers returns true, whatever it is given, and turns no old memory. -/
import Derived.Test.YtjnejnoojpaifaaDoorAw6
import Derived.BigQuiet
namespace Go.Proofs.YtjnejnoojpaifaaDoor
open Go Go.RowKit

/-- Four numbers by value; with points between, as far as k. -/
def numsV (l : List Int) : Array Value := (l.map (Value.int .i64)).toArray
def numsS (l : List Int) (k : Nat) : List UInt8 := joinB 46 ((l.take k).map Lib.itoa)
def numsB (l : List Int) (k : Nat) : Bool := (l.take k).all (fun n => decide (0 ≤ n) && decide (n ≤ 255))
theorem numsS_more (l : List Int) (k : Nat) (hk : k < l.length) (h0 : 0 < k) : numsS l (k + 1) = numsS l k ++ 46 :: Lib.itoa (l.getD k 0) := by
  have e : l.take (k + 1) = l.take k ++ [l.getD k 0] := by
    rw [List.take_add_one]
    simp [List.getD, hk]
  unfold numsS
  rw [e, List.map_append, List.map_cons, List.map_nil, joinB_snoc _ _ _ (by
    intro h
    have := congrArg List.length h
    simp only [List.length_map, List.length_take, List.length_nil] at this
    omega)]
theorem numsB_more (l : List Int) (k : Nat) (hk : k < l.length) : numsB l (k + 1) = (numsB l k && decide (0 ≤ l.getD k 0) && decide (l.getD k 0 ≤ 255)) := by
  have e : l.take (k + 1) = l.take k ++ [l.getD k 0] := by
    rw [List.take_add_one]
    simp [List.getD, hk]
  unfold numsB
  rw [e, List.all_append]
  simp [Bool.and_assoc]
theorem numsS_len (l : List Int) (k : Nat) (h : ∀ n ∈ l, -9223372036854775808 ≤ n ∧ n ≤ 9223372036854775807) (hl : l.length = 4) : (numsS l k).length ≤ 88 := by
  have := joinB_len 46 21 ((l.take k).map Lib.itoa) (fun p hp => by
    obtain ⟨b, hb, rfl⟩ := List.mem_map.1 hp
    have hm := h b (List.mem_of_mem_take hb)
    exact Lib.itoa_length_le b hm.1 hm.2)
  rw [List.length_map, List.length_take] at this
  unfold numsS
  omega
theorem valB_itoa (n : Int) (h0 : 0 ≤ n) (h1 : n ≤ 255) : ((valB (Lib.itoa n)).toNat : Int) = n := by
  unfold valB
  rw [numV_itoa255 n h0 h1, UInt8.toNat_ofNat_of_lt' (show n.toNat < 256 by omega)]
  omega
theorem nums_told (l : List Int) (hl : l.length = 4) : dotB (numsS l 4) = numsB l 4 ∧ (numsB l 4 = true → ∀ k, k < 4 → byteAt (dotL (numsS l 4)) k = l.getD k 0) := by
  match l, hl with
  | [a, b, c, d], _ =>
    have e1 : dotB (numsS [a, b, c, d] 4) = numsB [a, b, c, d] 4 := by
      have := dotB_numbers a b c d
      unfold numsS numsB
      simp only [List.take_succ_cons, List.take_zero, List.map_cons, List.map_nil]
      rw [this]
      simp
    refine ⟨e1, fun hB k hk => ?_⟩
    have hd : dotL (numsS [a, b, c, d] 4) = [valB (Lib.itoa a), valB (Lib.itoa b), valB (Lib.itoa c), valB (Lib.itoa d)] := by
      unfold dotL
      rw [e1, hB, if_pos rfl]
      unfold numsS
      simp only [List.take_succ_cons, List.take_zero, List.map_cons, List.map_nil]
      rw [dot_numbers]
      rfl
    rw [hd]
    unfold numsB at hB
    simp at hB
    obtain ⟨⟨a0, a1⟩, ⟨b0, b1⟩, ⟨c0, c1⟩, d0, d1⟩ := hB
    match k, hk with
    | 0, _ => exact valB_itoa a a0 a1
    | 1, _ => exact valB_itoa b b0 b1
    | 2, _ => exact valB_itoa c c0 c1
    | 3, _ => exact valB_itoa d d0 d1
theorem nums_cell {w : World} {g : Nat} {t : TypeId} {l : List Int} (h : w.heap[g]? = some (.cells (numsV l) t (0, 0))) (k : Nat) (hk : k < l.length) : w.cell? ⟨g, k, none⟩ = some (.int .i64 (l.getD k 0)) := by
  rw [cell_of_row w g k _ _ _ h]
  simp [numsV, List.getD, hk]
set_option maxRecDepth 100000 in
set_option maxHeartbeats 4000000 in
theorem dnumbers_list (l : List Int) (w : World) (hl : l.length = 4) (hb : ∀ n ∈ l, -9223372036854775808 ≤ n ∧ n ≤ 9223372036854775807) (htab : Lib.TabIs Tryd.prog w "internal/strconv.uint64pow10" .u64 Lib.pow10Tab) :
    Calls Tryd.prog 6 #[.agg (numsV l)] w fun e w' => e = .returned (.bool true) ∧ Below w.heap.size w w' := by
  have zb : Below w.heap.size w (w.alloc (.cells (numsV l) 30)) := (Below.refl _ _).alloc (Nat.le_refl _) _
  have HZ : Hid ((w.alloc (.cells (numsV l) 30)).heap[w.heap.size]? = some (.cells (numsV l) 30 (0, 0)) ∧ Below w.heap.size w (w.alloc (.cells (numsV l) 30))) := ⟨heap_alloc_new w _, zb⟩
  have HA := Lib.hid (awake6_any _ (tab_below htab zb))
  have hget : ∀ k, k < 4 → -9223372036854775808 ≤ l.getD k 0 ∧ l.getD k 0 ≤ 9223372036854775807 := fun k hk => by
    rw [List.getD, List.getElem?_eq_getElem (by omega)]
    exact hb _ (List.getElem_mem _)
  have HG := Lib.hid hget
  have HSL := Lib.hid (fun k => numsS_len l k hb hl)
  clear htab zb hget hb
  go_enter Tryd.func6, Tryd.ntmps6
  go_wp2_with (go_at_call 7; refine HA.out.mono ?_; rintro e w1 ⟨rfl, b1⟩; refine Hid.out ?_)
  refine Lib.hid ?_
  have HW : Hid (w1.heap[w.heap.size]? = some (.cells (numsV l) 30 (0, 0)) ∧ Below w.heap.size w w1) := ⟨(b1.block _ (by simp)).trans HZ.out.1, below_up HZ.out.2 b1 HZ.out.2.size⟩
  clear b1 HZ HA
  go_wp2
  go_loopw [4, 5, 6] (fun s b i wr => ∃ k : Nat, k ≤ 4 ∧ i = .int .i64 (k : Int) ∧ s = .string ⟨(numsS l k).toArray⟩ ∧ b = .bool (numsB l k) ∧ wr = w1) (fun _ _ i _ => 4 - (intOf i).toNat)
  case atStart => exact ⟨0, by omega, rfl, rfl, rfl, rfl⟩
  case round =>
    obtain ⟨k, hk, rfl, rfl, rfl, rfl⟩ := hrel
    by_cases hlt : k < 4
    · have hcell := nums_cell HW.out.1 k (by omega)
      have hr := HG.out k hlt
      have hr0 := hr.1
      have hr1 := hr.2
      have hsl := HSL.out k
      have hil := Lib.itoa_length_le _ hr0 hr1
      have hbm := numsB_more l k (by omega)
      have HD := Lib.hid (fun W => rdigits_any (l.getD k 0) W hr0 hr1)
      by_cases hk0 : 0 < k
      · have hsm := numsS_more l k (by omega) hk0
        generalize l.getD k 0 = y at *
        have HS : Hid ((⟨(numsS l k).toArray⟩ : ByteArray) ++ (⟨[46].toArray⟩ : ByteArray) ++ ⟨(Lib.itoa y).toArray⟩ = ⟨(numsS l (k + 1)).toArray⟩) := by
          show (⟨(numsS l k).toArray⟩ : ByteArray) ++ (⟨[46].toArray⟩ : ByteArray) ++ ⟨(Lib.itoa y).toArray⟩ = ⟨(numsS l (k + 1)).toArray⟩
          rw [str_append, str_append, hsm, List.append_assoc]
          rfl
        have HBM := Lib.hid hbm
        clear hsm hbm hr hr0 hr1
        generalize numsB l k = bb at *
        cases bb
        · have hv : numsB l (k + 1) = false := by rw [HBM.out]; simp
          have HV := Lib.hid hv
          clear hv HBM
          go_wp2_with (go_at_call 16; refine (HD.out _).mono ?_; rintro e w2 ⟨rfl, rfl⟩)
          go_roundw
          case rel => exact ⟨k + 1, by omega, by go_num, congrArg Value.string HS.out, by rw [HV.out], trivial⟩
          case measure => simp [intOf]; omega
        · by_cases hy0 : 0 ≤ y
          · by_cases hy1 : y ≤ 255
            · have hv : numsB l (k + 1) = true := by rw [HBM.out]; simp [hy0, hy1]
              have HV := Lib.hid hv
              clear hv HBM
              go_wp2_with (go_at_call 16; refine (HD.out _).mono ?_; rintro e w2 ⟨rfl, rfl⟩)
              go_roundw
              case rel => exact ⟨k + 1, by omega, by go_num, congrArg Value.string HS.out, by rw [HV.out], trivial⟩
              case measure => simp [intOf]; omega
            · have hv : numsB l (k + 1) = false := by rw [HBM.out]; simp [hy1]
              have HV := Lib.hid hv
              clear hv HBM
              go_wp2_with (go_at_call 16; refine (HD.out _).mono ?_; rintro e w2 ⟨rfl, rfl⟩)
              go_roundw
              case rel => exact ⟨k + 1, by omega, by go_num, congrArg Value.string HS.out, by rw [HV.out, decide_eq_false (Int.not_le.2 hy1)], trivial⟩
              case measure => simp [intOf]; omega
          · have hv : numsB l (k + 1) = false := by rw [HBM.out]; simp [hy0]
            have HV := Lib.hid hv
            clear hv HBM
            go_wp2_with (go_at_call 16; refine (HD.out _).mono ?_; rintro e w2 ⟨rfl, rfl⟩)
            go_roundw
            case rel => exact ⟨k + 1, by omega, by go_num, congrArg Value.string HS.out, by rw [HV.out], trivial⟩
            case measure => simp [intOf]; omega
      · have hsm : numsS l (k + 1) = numsS l k ++ Lib.itoa (l.getD k 0) := by
          obtain rfl : k = 0 := by omega
          match l, hl with
          | [a, b, c, d], _ => rfl
        generalize l.getD k 0 = y at *
        have HS : Hid ((⟨(numsS l k).toArray⟩ : ByteArray) ++ ⟨(Lib.itoa y).toArray⟩ = ⟨(numsS l (k + 1)).toArray⟩) := by
          show (⟨(numsS l k).toArray⟩ : ByteArray) ++ ⟨(Lib.itoa y).toArray⟩ = ⟨(numsS l (k + 1)).toArray⟩
          rw [str_append, hsm]
        have HBM := Lib.hid hbm
        clear hsm hbm hr hr0 hr1
        generalize numsB l k = bb at *
        cases bb
        · have hv : numsB l (k + 1) = false := by rw [HBM.out]; simp
          have HV := Lib.hid hv
          clear hv HBM
          go_wp2_with (go_at_call 16; refine (HD.out _).mono ?_; rintro e w2 ⟨rfl, rfl⟩)
          go_roundw
          case rel => exact ⟨k + 1, by omega, by go_num, congrArg Value.string HS.out, by rw [HV.out], trivial⟩
          case measure => simp [intOf]; omega
        · by_cases hy0 : 0 ≤ y
          · by_cases hy1 : y ≤ 255
            · have hv : numsB l (k + 1) = true := by rw [HBM.out]; simp [hy0, hy1]
              have HV := Lib.hid hv
              clear hv HBM
              go_wp2_with (go_at_call 16; refine (HD.out _).mono ?_; rintro e w2 ⟨rfl, rfl⟩)
              go_roundw
              case rel => exact ⟨k + 1, by omega, by go_num, congrArg Value.string HS.out, by rw [HV.out], trivial⟩
              case measure => simp [intOf]; omega
            · have hv : numsB l (k + 1) = false := by rw [HBM.out]; simp [hy1]
              have HV := Lib.hid hv
              clear hv HBM
              go_wp2_with (go_at_call 16; refine (HD.out _).mono ?_; rintro e w2 ⟨rfl, rfl⟩)
              go_roundw
              case rel => exact ⟨k + 1, by omega, by go_num, congrArg Value.string HS.out, by rw [HV.out, decide_eq_false (Int.not_le.2 hy1)], trivial⟩
              case measure => simp [intOf]; omega
          · have hv : numsB l (k + 1) = false := by rw [HBM.out]; simp [hy0]
            have HV := Lib.hid hv
            clear hv HBM
            go_wp2_with (go_at_call 16; refine (HD.out _).mono ?_; rintro e w2 ⟨rfl, rfl⟩)
            go_roundw
            case rel => exact ⟨k + 1, by omega, by go_num, congrArg Value.string HS.out, by rw [HV.out], trivial⟩
            case measure => simp [intOf]; omega
    · have hk4 : k = 4 := by omega
      subst hk4
      have hsl := HSL.out 4
      have hP := fun W => dparse_any ⟨(numsS l 4).toArray⟩ W (by simp [ByteArray.size]; omega)
      rw [show (⟨(numsS l 4).toArray⟩ : ByteArray).data.toList = numsS l 4 by simp, (nums_told l hl).1] at hP
      have HP := Lib.hid hP
      have HTD := Lib.hid (nums_told l hl).2
      have HDL := Lib.hid (dotL_length (numsS l 4))
      generalize dotL (numsS l 4) = D at *
      generalize numsS l 4 = X at *
      clear hP hsl
      go_wp2_with (go_at_call 14; refine (HP.out _).mono ?_; rintro e w2 ⟨rfl, b2⟩; refine Hid.out ?_)
      refine Lib.hid ?_
      have hb2 := below_up HW.out.2 b2 HW.out.2.size
      have hr2 : w2.heap[w.heap.size]? = some (.cells (numsV l) 30 (0, 0)) := (b2.block _ (Array.getElem?_eq_some_iff.1 HW.out.1).1).trans HW.out.1
      have HX : Hid (∀ o, (w2.alloc o).heap[w.heap.size]? = some (.cells (numsV l) 30 (0, 0)) ∧ Below w.heap.size w (w2.alloc o)) := fun o => ⟨(Below.heap_alloc _ _ _ (Array.getElem?_eq_some_iff.1 hr2).1).trans hr2, hb2.alloc hb2.size _⟩
      have HN2 := Lib.hid (arrT_new (t := 22) w2 D)
      clear b2 hb2 hr2 HW
      cases hB : numsB l 4
      · clear HTD
        go_wp2_with (refine wpList_store_newT rfl (.tmp 7) (.tmp 43) rfl D (by rw [HDL.out]; exact arr4) _ rfl rfl HDL.out.symm ?_)
        go_loopw [9] (fun i wr => i = .int .i64 0 ∧ Below w.heap.size w wr) (fun _ _ => 0)
        case atStart => exact ⟨rfl, (HX.out _).2⟩
        case round =>
          obtain ⟨rfl, hbb⟩ := hrel
          have HBB := Lib.hid hbb
          clear hbb
          go_wp2
          go_ret
          exact ⟨rfl, HBB.out⟩
      · have htd := HTD.out hB
        have HT2 := Lib.hid htd
        clear htd HTD
        go_wp2_with (refine wpList_store_newT rfl (.tmp 7) (.tmp 43) rfl D (by rw [HDL.out]; exact arr4) _ rfl rfl HDL.out.symm ?_)
        go_loopw [9] (fun i wr => ∃ k : Nat, k ≤ 4 ∧ i = .int .i64 (k : Int) ∧ ArrT 22 wr w2.heap.size D ∧ wr.heap[w.heap.size]? = some (.cells (numsV l) 30 (0, 0)) ∧ Below w.heap.size w wr) (fun i _ => 4 - (intOf i).toNat)
        case atStart => exact ⟨0, by omega, rfl, HN2.out, (HX.out _).1, (HX.out _).2⟩
        case round =>
          obtain ⟨k, hk, rfl, hA, hN, hbb⟩ := hrel
          by_cases hlt : k < 4
          · have hc1 := hA.cell k (by rw [HDL.out]; exact hlt)
            have hc2 := nums_cell hN k (by omega)
            rw [HT2.out k hlt] at hc1
            have c0 := byteAt_nonneg D k
            have c1 := byteAt_le D k
            rw [HT2.out k hlt] at c0 c1
            have HA := Lib.hid hA
            have HN := Lib.hid hN
            have HBB := Lib.hid hbb
            clear hA hN hbb
            generalize l.getD k 0 = y at *
            go_wp2
            go_quiet (fail)
            go_wp2
            go_roundw
            case rel => exact ⟨k + 1, by omega, by go_num, HA.out, HN.out, HBB.out.trans ⟨rfl, rfl, rfl, Nat.le_refl _, fun _ _ => rfl⟩⟩
            case measure => simp [intOf]; omega
          · have hk4 : k = 4 := by omega
            subst hk4
            have HBB := Lib.hid hbb
            clear hA hN hbb
            go_wp2
            go_ret
            exact ⟨rfl, HBB.out⟩
theorem dnumbers_walk (n0 n1 n2 n3 : Int) (w : World) (g0 : -9223372036854775808 ≤ n0) (h0 : n0 ≤ 9223372036854775807) (g1 : -9223372036854775808 ≤ n1) (h1 : n1 ≤ 9223372036854775807) (g2 : -9223372036854775808 ≤ n2) (h2 : n2 ≤ 9223372036854775807) (g3 : -9223372036854775808 ≤ n3) (h3 : n3 ≤ 9223372036854775807)
    (htab : Lib.TabIs Tryd.prog w "internal/strconv.uint64pow10" .u64 Lib.pow10Tab) :
    Calls Tryd.prog 6 #[.agg #[.int .i64 n0, .int .i64 n1, .int .i64 n2, .int .i64 n3]] w fun e w' => e = .returned (.bool true) ∧ Below w.heap.size w w' :=
  dnumbers_list [n0, n1, n2, n3] w rfl (fun n hn => by
    simp only [List.mem_cons, List.not_mem_nil, or_false] at hn
    rcases hn with rfl | rfl | rfl | rfl
    · exact ⟨g0, h0⟩
    · exact ⟨g1, h1⟩
    · exact ⟨g2, h2⟩
    · exact ⟨g3, h3⟩) htab
end Go.Proofs.YtjnejnoojpaifaaDoor
