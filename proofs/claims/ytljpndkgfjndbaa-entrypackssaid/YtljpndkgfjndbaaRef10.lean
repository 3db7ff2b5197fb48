/- The document's Stack (layer 3). Proved: what it returns, for every text. -/
import Derived.Test.YtljpndkgfjndbaaEnt5
import Derived.Test.YtljpndkgfjndbaaRef6
import Derived.Test.YtljpndkgfjndbaaCat1
namespace Go.Proofs.Ytljpndkgfjndbaa
open Go Go.RowKit

set_option maxHeartbeats 1000000 in
theorem rstack_any (bs : List UInt8) (w : World) (hl : bs.length ≤ 1000000) :
    Calls Try.prog 14 #[.string ⟨bs.toArray⟩] w fun x w' => (∃ a' n' c', x = .returned (.tuple #[.slice a' n' c', .int .i64 (4 * (stk 16 bs).1.length : Nat), .int .i64 (stk 16 bs).2]) ∧ IsE w' (.slice a' n' c') (stk 16 bs).1) ∧ Below w.heap.size w w' := by
  obtain ⟨i0, hi, hz0, hz1, hz2⟩ := info_parts info23
  have HU := Lib.hid (fun l W (h : l.length ≤ 1000000) => runpack_any l W h)
  go_enter Try.func14, Try.ntmps14
  go_wp2
  go_loopw [6, 5] (fun i v wr => ∃ k : Nat, k ≤ 16 ∧ i = .int .i64 k ∧ 4 * k ≤ bs.length ∧ wr.ownsRow w.heap.size 23 4 v k (entVals ((uptoE bs k).map (·.1))) ∧ (∀ x ∈ uptoE bs k, x.2 = 0 ∧ x.1.B = false) ∧ Below w.heap.size w wr) (fun i _ _ => 16 - (intOf i).toNat)
  case atStart => exact ⟨0, Nat.zero_le _, rfl, by omega, World.ownsRow_nil _ _ _ _, fun x hx => by simp [uptoE] at hx, Below.refl _ _⟩
  case round =>
    obtain ⟨k, hk, rfl, hkl, hown, hall, hb⟩ := hrel
    have hpre := stk_pre bs k (16 - k) hall
    rw [show k + (16 - k) = 16 by omega] at hpre
    by_cases hlt : k < 16
    · rw [show 16 - k = (15 - k) + 1 by omega] at hpre
      have hbd : (bs.drop (4 * k)).length ≤ 1000000 := by simp; omega
      have HUK := Lib.hid (fun W => HU.out (bs.drop (4 * k)) W hbd)
      have HO := Lib.hid hown
      have HALL := Lib.hid hall
      have HPRE := Lib.hid hpre
      have hmin : min (4 * (k : Int)) (bs.length : Int) = 4 * k := by omega
      have hext : (⟨bs.toArray⟩ : ByteArray).extract (4 * k) bs.length = ⟨(bs.drop (4 * k)).toArray⟩ := by
        rw [extract_mk, List.take_of_length_le (by simp)]
      have HX := Lib.hid hext
      have hC : unpC (bs.drop (4 * k)) = if 4 ≤ bs.length - 4 * k then 0 else 10 := by unfold unpC; simp
      have hitem : itemE bs k = (unpE (bs.drop (4 * k)), unpC (bs.drop (4 * k))) := rfl
      have hsk : stk (15 - k + 1) (bs.drop (4 * k)) = if unpC (bs.drop (4 * k)) = 0 then (if (unpE (bs.drop (4 * k))).B then ([unpE (bs.drop (4 * k))], 0) else consE (unpE (bs.drop (4 * k))) (stk (15 - k) ((bs.drop (4 * k)).drop 4))) else ([], unpC (bs.drop (4 * k))) := rfl
      have HEOK := Lib.hid (unpE_ok (bs.drop (4 * k)))
      have hok : ∀ e ∈ (uptoE bs k).map (·.1), e.ok := by
        intro e he
        obtain ⟨y, hy, rfl⟩ := List.mem_map.1 he
        obtain ⟨j, _, rfl⟩ := List.mem_map.1 hy
        exact unpE_ok _
      have HOKS := Lib.hid hok
      rw [hsk] at HPRE
      generalize unpC (bs.drop (4 * k)) = c at *
      generalize unpE (bs.drop (4 * k)) = x at *
      have HI := Lib.hid hitem
      clear hown hall hpre hbd hext hitem hsk hok
      by_cases h4 : 4 ≤ bs.length - 4 * k
      · rw [if_pos h4] at hC
        subst hC
        rw [if_pos rfl] at HPRE
        obtain ⟨L, C, B, T⟩ := x
        unfold Ent.val at HUK
        cases B
        · rw [if_neg (by simp)] at HPRE
          go_wp2_with (go_at_call 12; rw [HX.out]; refine (HUK.out _).mono ?_; rintro e w1 ⟨rfl, hb1⟩; refine Hid.out ?_)
          refine Lib.hid ?_
          have ho1 := own_below HO.out hb1
          have HO1 := Lib.hid ho1
          have hB1 := below_up hb hb1 hb.size
          have HB1 := Lib.hid hB1
          have HZ := Lib.hid hB1.size
          clear ho1 hb1 hB1 HUK
          go_wp2_with (at_builtin; refine wpList_append_own _ rfl _ _ 34 rfl w.heap.size 23 i0 (.agg #[.int .i64 0, .int .u8 0, .bool false, .int .u8 0]) 4 16 Try.underlying34 hi hz0 hz1 hz2 rfl (by decide) _ _ _ rfl ((HO1.out.alloc _).alloc _) ⟨w1.heap.size + 1, 0, none⟩ 1 1 (Ent.four ⟨L, C, false, T⟩) rfl rfl (by have := four_new (w1.alloc (.cells #[.int .i64 L, .int .u8 C, .bool false, .int .u8 T] 23)) ⟨L, C, false, T⟩ 23; rw [World.size_alloc] at this; exact this) (four_one _) (by unfold maxLen; omega) (by omega) (by have := HZ.out; simp; omega) ?_; intro v' w3 hown' hgrow _; refine Hid.out ?_)
          refine Lib.hid ?_
          obtain ⟨g', cap', rfl⟩ := ownsRow_succ hown'
          have hbx : ((w1.alloc (.cells #[.int .i64 L, .int .u8 C, .bool false, .int .u8 T] 23)).alloc (.cells #[.int .i64 L, .int .u8 C, .bool false, .int .u8 T] 23)).heap[w1.heap.size]? = some (.cells #[.int .i64 L, .int .u8 C, .bool false, .int .u8 T] 23 (0, 0)) :=
            (Below.heap_alloc _ _ _ (by simp)).trans (World.alloc_heap_new w1 _)
          have kB := (four_cells (box_block hbx hgrow (own_lt HO1.out))).2.2.1
          have HOWN := Lib.hid hown'
          have hb3 : Below w.heap.size w w3 := ((HB1.out.alloc HZ.out _).alloc (by have := HZ.out; simp; omega) _).grown hgrow (by have := HZ.out; simp; omega) (owned_low HO1.out)
          clear hbx hown' hgrow
          go_wp2
          go_roundw
          case rel =>
            refine ⟨k + 1, by omega, by go_num, by omega, ?_, ?_, hb3⟩
            · rw [uptoE_succ, HI.out, List.map_append, List.map_singleton, entVals_snoc]; exact HOWN.out
            · intro y hy
              rw [uptoE_succ, HI.out] at hy
              rcases List.mem_append.1 hy with hy | hy
              · exact HALL.out y hy
              · simp at hy; subst hy; exact ⟨rfl, rfl⟩
          case measure => simp [intOf]; omega
        · rw [if_pos rfl] at HPRE
          go_wp2_with (go_at_call 12; rw [HX.out]; refine (HUK.out _).mono ?_; rintro e w1 ⟨rfl, hb1⟩; refine Hid.out ?_)
          refine Lib.hid ?_
          have ho1 := own_below HO.out hb1
          have HO1 := Lib.hid ho1
          have hB1 := below_up hb hb1 hb.size
          have HB1 := Lib.hid hB1
          have HZ := Lib.hid hB1.size
          clear ho1 hb1 hB1 HUK
          go_wp2_with (at_builtin; refine wpList_append_own _ rfl _ _ 34 rfl w.heap.size 23 i0 (.agg #[.int .i64 0, .int .u8 0, .bool false, .int .u8 0]) 4 16 Try.underlying34 hi hz0 hz1 hz2 rfl (by decide) _ _ _ rfl ((HO1.out.alloc _).alloc _) ⟨w1.heap.size + 1, 0, none⟩ 1 1 (Ent.four ⟨L, C, true, T⟩) rfl rfl (by have := four_new (w1.alloc (.cells #[.int .i64 L, .int .u8 C, .bool true, .int .u8 T] 23)) ⟨L, C, true, T⟩ 23; rw [World.size_alloc] at this; exact this) (four_one _) (by unfold maxLen; omega) (by omega) (by have := HZ.out; simp; omega) ?_; intro v' w3 hown' hgrow _; refine Hid.out ?_)
          refine Lib.hid ?_
          obtain ⟨g', cap', rfl⟩ := ownsRow_succ hown'
          have hbx : ((w1.alloc (.cells #[.int .i64 L, .int .u8 C, .bool true, .int .u8 T] 23)).alloc (.cells #[.int .i64 L, .int .u8 C, .bool true, .int .u8 T] 23)).heap[w1.heap.size]? = some (.cells #[.int .i64 L, .int .u8 C, .bool true, .int .u8 T] 23 (0, 0)) :=
            (Below.heap_alloc _ _ _ (by simp)).trans (World.alloc_heap_new w1 _)
          have kB := (four_cells (box_block hbx hgrow (own_lt HO1.out))).2.2.1
          have HOWN := Lib.hid hown'
          have hb3 : Below w.heap.size w w3 := ((HB1.out.alloc HZ.out _).alloc (by have := HZ.out; simp; omega) _).grown hgrow (by have := HZ.out; simp; omega) (owned_low HO1.out)
          clear hbx hown' hgrow
          go_wp2
          go_ret3
          have hs : stk 16 bs = ((uptoE bs k).map (·.1) ++ [⟨L, C, true, T⟩], 0) := HPRE.out
          rw [hs]
          refine ⟨⟨some ⟨g', 0, none⟩, k + 1, cap', ?_, ?_⟩, hb3⟩
          · have e5 : (4 * ((k : Int) + 1)) = ((4 * ((uptoE bs k).map (·.1) ++ [(⟨L, C, true, T⟩ : Ent)]).length : Nat) : Int) := by simp [uptoE_length]
            rw [← e5]
            rfl
          · refine IsE.of_owned (by rw [entVals_snoc]; exact HOWN.out) (fun e he => ?_)
            rcases List.mem_append.1 he with he | he
            · exact HOKS.out e he
            · simp at he; subst he; exact HEOK.out
      · rw [if_neg h4] at hC
        subst hC
        rw [if_neg (by decide)] at HPRE
        obtain ⟨L, C, B, T⟩ := x
        unfold Ent.val at HUK
        go_wp2_with (go_at_call 12; rw [HX.out]; refine (HUK.out _).mono ?_; rintro e w1 ⟨rfl, hb1⟩)
        go_ret3
        have hs : stk 16 bs = ([], 10) := HPRE.out
        rw [hs]
        exact ⟨⟨_, _, _, rfl, IsE.nil _⟩, below_up hb (hb1.alloc hb1.size _) hb.size⟩
    · have hk16 : k = 16 := by omega
      subst hk16
      have HPRE := Lib.hid hpre
      clear hpre hown hall
      go_wp2
      go_ret3
      have hs : stk 16 bs = ([], 11) := HPRE.out
      rw [hs]
      exact ⟨⟨_, _, _, rfl, IsE.nil _⟩, hb⟩
end Go.Proofs.Ytljpndkgfjndbaa
