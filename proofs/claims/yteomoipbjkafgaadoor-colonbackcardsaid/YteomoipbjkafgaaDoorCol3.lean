/- longest and join of package colon. Proved: what each returns. -/
import Derived.Test.YteomoipbjkafgaaDoorCol2
namespace Go.Proofs.YteomoipbjkafgaaDoor
open Go Go.RowKit

/-- v is a slice whose elements are the ints l, in the world w. -/
def IsI (w : World) (v : Value) (l : List Int) : Prop :=
  ∃ a cap, v = .slice a l.length cap ∧ l.length ≤ cap ∧ cap ≤ maxLen ∧
    (0 < l.length → ∃ b off, a = some ⟨b, off, none⟩ ∧ b < w.heap.size ∧ ∀ i, i < l.length → w.cell? ⟨b, off + i, none⟩ = some (.int .i64 (intAt l i)))
theorem IsI.below {w w' : World} {v : Value} {l : List Int} (h : IsI w v l) (hb : Below w.heap.size w w') : IsI w' v l := by
  obtain ⟨a, cap, rfl, h1, h2, h3⟩ := h
  refine ⟨a, cap, rfl, h1, h2, fun hp => ?_⟩
  obtain ⟨b, off, rfl, hlt, hc⟩ := h3 hp
  exact ⟨b, off, rfl, Nat.lt_of_lt_of_le hlt hb.size, fun i hi => (hb.cell (p := ⟨b, off + i, none⟩) hlt).trans (hc i hi)⟩
theorem intAt_drop (l : List Int) (k i : Nat) : intAt (l.drop k) i = intAt l (k + i) := by simp [intAt, List.getD]
theorem intAt_take (l : List Int) (k i : Nat) (h : i < k) : intAt (l.take k) i = intAt l i := by simp [intAt, List.getD, h]
variable {t : TypeId}
theorem IntT.tailI {w : World} {g : Nat} {c : List Int} {n : Nat} (h : IntT t w g c) (hn : c.length = n) (k : Nat) (hk : k ≤ n) (hc : n ≤ 1000) : IsI w (.slice (some (if n = k then ⟨g, 0, none⟩ else ⟨g, k, none⟩)) (n - k) (n - k)) (c.drop k) := by
  subst hn
  refine ⟨_, c.length - k, by rw [List.length_drop], by rw [List.length_drop]; exact Nat.le_refl _, by unfold maxLen; omega, fun hp => ?_⟩
  rw [List.length_drop] at hp
  refine ⟨g, k, by rw [if_neg (by omega)], h.lt, fun i hi => ?_⟩
  rw [List.length_drop] at hi
  rw [intAt_drop]
  exact h.cell (k + i) (by omega)
theorem IntT.headI {w : World} {g : Nat} {c : List Int} {n : Nat} (h : IntT t w g c) (hn : n ≤ c.length) (k : Nat) (hk : k ≤ n) (hc : n ≤ 1000) : IsI w (.slice (some ⟨g, 0, none⟩) k n) (c.take k) := by
  have e : (c.take k).length = k := by simp; omega
  refine ⟨_, n, by rw [e], by omega, by unfold maxLen; omega, fun _ => ⟨g, 0, rfl, h.lt, fun i hi => ?_⟩⟩
  rw [e] at hi
  rw [intAt_take _ _ _ hi, Nat.zero_add]
  exact h.cell i (by omega)
theorem natsI_take (g : List Nat) (k : Nat) : (natsI g).take k = natsI (g.take k) := by simp [natsI]
theorem natsI_drop (g : List Nat) (k : Nat) : (natsI g).drop k = natsI (g.drop k) := by simp [natsI]
theorem natsI_at (g : List Nat) (k : Nat) : intAt (natsI g) k = (g.getD k 0 : Nat) := by
  unfold intAt natsI
  by_cases h : k < g.length
  · simp [List.getD, h]
  · simp [List.getD, h]
theorem zOf_at (g : List Nat) (k : Nat) (hk : k < g.length) : (zOf g).getD k false = decide (g.getD k 0 = 0) := by
  simp [zOf, List.getD, hk]
set_option maxRecDepth 100000 in
set_option maxHeartbeats 4000000 in
theorem longest_any (g : List Nat) (w : World) (hg : g.length = 8) :
    Calls Tryd.prog 23 #[intV (natsI g)] w fun r w' => r = .returned (.tuple #[.int .i64 ((lgF (zOf g) 8).at' : Int), .int .i64 ((lgF (zOf g) 8).size : Int)]) ∧ Below w.heap.size w w' := by
  have hnl : (natsI g).length = 8 := by rw [natsI_length, hg]
  have z0 : IntT 25 (w.alloc (.cells (intVals (natsI g)).toArray 25)) w.heap.size (natsI g) := intT_new w _
  have zb : Below w.heap.size w (w.alloc (.cells (intVals (natsI g)).toArray 25)) := (Below.refl _ _).alloc (Nat.le_refl _) _
  have Z := Lib.hid (And.intro z0 zb)
  have HL := Lib.hid hnl
  have HIX := Lib.hid (fun (W : World) (k : Nat) (hk : k < 8) => index_intV ints8.row W (natsI g) k (by rw [hnl]; exact hk) hnl)
  have HAT := Lib.hid (natsI_at g)
  have HZ := Lib.hid (fun k (hk : k < 8) => zOf_at g k (by omega))
  have HLE := Lib.hid (lgF_le (zOf g))
  have HST : Hid (∀ k, lgF (zOf g) (k + 1) = lgStep k (lgF (zOf g) k) ((zOf g).getD k false)) := fun k => rfl
  rw [show intV (natsI g) = .agg (intVals (natsI g)).toArray from rfl]
  clear z0 zb hnl
  go_enter Tryd.func23, Tryd.ntmps23
  go_wp2_with (refine wpList_load_intT rfl (.tmp 1) rfl w.heap.size (natsI g) (by rw [HL.out]; exact ints8.isRow) rfl Z.out.1 ?_)
  go_loop [4, 5, 6, 10] (fun a s r i => ∃ k : Nat, k ≤ 8 ∧ i = .int .i64 (k : Int) ∧ a = .int .i64 ((lgF (zOf g) k).at' : Int) ∧ s = .int .i64 ((lgF (zOf g) k).size : Int) ∧ r = .int .i64 ((lgF (zOf g) k).run : Int)) (fun _ _ _ i => 8 - (intOf i).toNat)
  case atStart => exact ⟨0, by omega, rfl, rfl, rfl, rfl⟩
  case round =>
    obtain ⟨k, hk, rfl, rfl, rfl, rfl⟩ := hrel
    by_cases hlt : k < 8
    · have hix := fun W => HIX.out W k hlt
      rw [HAT.out k] at hix
      have hle := HLE.out k
      have hst := HST.out k
      rw [HZ.out k hlt] at hst
      generalize lgF (zOf g) k = S at *
      obtain ⟨A, Z', R⟩ := S
      simp only at hle hst
      generalize g.getD k 0 = N at *
      by_cases hN : N = 0
      · subst hN
        by_cases hs : Z' < R + 1
        · have e : lgF (zOf g) (k + 1) = ⟨k + 1 - (R + 1), R + 1, R + 1⟩ := by rw [hst]; simp [lgStep, hs]
          have HE := Lib.hid e
          clear e hst
          go_wp2
          go_round
          case rel => exact ⟨k + 1, by omega, by go_num, by rw [HE.out]; go_num, by rw [HE.out]; go_num, by rw [HE.out]; go_num⟩
          case measure => simp [intOf]; omega
        · have e : lgF (zOf g) (k + 1) = ⟨A, Z', R + 1⟩ := by rw [hst]; simp [lgStep, hs]
          have HE := Lib.hid e
          clear e hst
          go_wp2
          go_round
          case rel => exact ⟨k + 1, by omega, by go_num, by rw [HE.out], by rw [HE.out], by rw [HE.out]; go_num⟩
          case measure => simp [intOf]; omega
      · have e : lgF (zOf g) (k + 1) = ⟨A, Z', 0⟩ := by rw [hst]; simp [lgStep, hN]
        have HE := Lib.hid e
        have hN2 : ¬ (N : Int) = 0 := by omega
        clear e hst
        go_wp2
        go_round
        case rel => exact ⟨k + 1, by omega, by go_num, by rw [HE.out], by rw [HE.out], by rw [HE.out]; rfl⟩
        case measure => simp [intOf]; omega
    · have hk8 : k = 8 := by omega
      subst hk8
      go_wp2
      go_ret2
      exact ⟨rfl, Z.out.2⟩
theorem colJ_one (g : List Nat) (h : 0 < g.length) : colJ (g.take 1) = hexG (g.getD 0 0) := by
  rcases g with _ | ⟨n, g⟩
  · simp at h
  · rfl
theorem colJ_more (g : List Nat) (k : Nat) (hk : k < g.length) (h0 : 0 < k) : colJ (g.take (k + 1)) = colJ (g.take k) ++ 58 :: hexG (g.getD k 0) := by
  have e : g.take (k + 1) = g.take k ++ [g.getD k 0] := by
    rw [List.take_add_one]
    simp [List.getD, hk]
  unfold colJ
  rw [e, List.map_append, List.map_cons, List.map_nil, joinB_snoc _ _ _ (by
    intro h
    have := congrArg List.length h
    simp only [List.length_map, List.length_take, List.length_nil] at this
    omega)]
theorem colJ_len (g : List Nat) (h : g.length ≤ 8) : (colJ g).length ≤ 40 := by
  have := (colJ_length g).1
  omega
theorem IsI.cells {w : World} {a : Option Addr} {l : List Int} {n cap : Nat} (h : IsI w (.slice a n cap) l) :
    n = l.length ∧ l.length ≤ cap ∧ cap ≤ maxLen ∧ ∀ k, k < l.length → ∃ b off, a = some ⟨b, off, none⟩ ∧ b < w.heap.size ∧ w.cell? ⟨b, off + k, none⟩ = some (.int .i64 (intAt l k)) := by
  obtain ⟨a2, cap2, he, h1, h2, h3⟩ := h
  simp only [Value.slice.injEq] at he
  obtain ⟨rfl, rfl, rfl⟩ := he
  refine ⟨rfl, h1, h2, fun k hk => ?_⟩
  obtain ⟨b, off, rfl, hlt, hc⟩ := h3 (by omega)
  exact ⟨b, off, rfl, hlt, hc k hk⟩
set_option maxRecDepth 100000 in
set_option maxHeartbeats 4000000 in
theorem join_any (a : Option Addr) (n cap : Nat) (g : List Nat) (w : World) (hE : Env w) (hI : IsI w (.slice a n cap) (natsI g)) (hg : g.length ≤ 8) (hle : ∀ n ∈ g, n ≤ 65535) :
    Calls Tryd.prog 24 #[.slice a n cap] w fun r w' => r = .returned (.string ⟨(colJ g).toArray⟩) ∧ Below w.heap.size w w' := by
  obtain ⟨rfl, h1, h2, h3⟩ := hI.cells
  rw [natsI_length] at *
  have HC := Lib.hid h3
  have HLE : Hid (∀ k, k < g.length → g.getD k 0 ≤ 65535) := fun k hk => hle _ (by simp [List.getD, hk])
  have HLN : Hid (∀ k, (colJ (g.take k)).length ≤ 40) := fun k => colJ_len _ (by simp; omega)
  have HGN : Hid (∀ k, (hexG k).length ≤ 4) := hexG_length
  have HE := Lib.hid hE
  have H1 := Lib.hid (colJ_one g)
  have HM := Lib.hid (colJ_more g)
  clear h3 hI hle hE
  go_enter Tryd.func24, Tryd.ntmps24
  go_wp2
  go_loopw [3, 8] (fun s i wr => ∃ k : Nat, k ≤ g.length ∧ i = .int .i64 (k : Int) ∧ s = .string ⟨(colJ (g.take k)).toArray⟩ ∧ Below w.heap.size w wr) (fun _ i _ => g.length - (intOf i).toNat)
  case atStart => exact ⟨0, by omega, rfl, rfl, Below.refl _ _⟩
  case round =>
    obtain ⟨k, hk, rfl, rfl, hb⟩ := hrel
    by_cases hlt : k < g.length
    · obtain ⟨b, off, rfl, hal, hcell⟩ := HC.out k hlt
      have hcell2 : wr.cell? ⟨b, off + k, none⟩ = some (.int .i64 ((g.getD k 0 : Nat) : Int)) := by
        rw [hb.cell (p := ⟨b, off + k, none⟩) hal, hcell, natsI_at]
      have HF := Lib.hid (fmt16_any (g.getD k 0) (HLE.out k hlt) wr (HE.out.below hb (Nat.le_refl _)))
      have l1 := HLN.out k
      have l2 := HGN.out (g.getD k 0)
      have HB := Lib.hid hb
      by_cases h0 : k = 0
      · have hT0 : colJ (g.take k) = [] := by rw [h0]; rfl
        have e : colJ (g.take (k + 1)) = hexG (g.getD k 0) := by rw [h0]; exact H1.out (by omega)
        have HX := Lib.hid e
        have hk0 : ¬ (0 : Int) < (k : Int) := by omega
        clear e hb hcell
        generalize g.getD k 0 = N at *
        rw [hT0] at l1 ⊢
        clear hT0 h0
        go_wp2_with (go_at_call 33; refine HF.out.mono ?_; rintro e w1 ⟨rfl, bb⟩)
        go_roundw
        case rel => exact ⟨k + 1, by omega, by go_num, congrArg Value.string (by rw [HX.out]; exact str_append [] (hexG N)), below_up HB.out bb HB.out.size⟩
        case measure => simp [intOf]; omega
      · have e := HM.out k hlt (by omega)
        have HX := Lib.hid e
        have hk0 : (0 : Int) < (k : Int) := by omega
        clear e hb hcell
        generalize g.getD k 0 = N at *
        generalize hT : colJ (g.take k) = T at *
        clear hT
        go_wp2_with (go_at_call 33; refine HF.out.mono ?_; rintro e w1 ⟨rfl, bb⟩)
        go_roundw
        case rel => exact ⟨k + 1, by omega, by go_num, congrArg Value.string (by rw [HX.out, show (⟨#[58]⟩ : ByteArray) = ⟨[58].toArray⟩ from rfl, str_append, str_append]; simp), below_up HB.out bb HB.out.size⟩
        case measure => simp [intOf]; omega
    · have hkn : k = g.length := by omega
      subst hkn
      rw [List.take_of_length_le (Nat.le_refl _)]
      have HB := Lib.hid hb
      clear hb
      go_wp2
      go_ret
      exact ⟨rfl, HB.out⟩
end Go.Proofs.YteomoipbjkafgaaDoor
