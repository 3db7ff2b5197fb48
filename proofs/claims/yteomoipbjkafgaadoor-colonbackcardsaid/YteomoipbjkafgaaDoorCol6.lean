/- group of package colon. Proved: what it returns. -/
import Derived.Test.YteomoipbjkafgaaDoorCol5
import Derived.Test.YteomoipbjkafgaaDoorOct8
namespace Go.Proofs.YteomoipbjkafgaaDoor
open Go Go.RowKit

/-- Digits, with as many 0s ahead as lack. -/
def pad4 (l : List UInt8) : List UInt8 := List.replicate (4 - l.length) 48 ++ l
theorem pad4_length (l : List UInt8) (h : l.length ≤ 4) : (pad4 l).length = 4 := by simp [pad4]; omega
theorem hexN_pad : ∀ (n : Nat) (l : List UInt8), hexN (List.replicate n 48 ++ l) = hexN l
  | 0, l => rfl
  | n + 1, l => by rw [List.replicate_succ, List.cons_append, hexN_zero, hexN_pad n l]
theorem pad4_hex (l : List UInt8) : (pad4 l).all isHex = l.all isHex := by
  unfold pad4
  rw [List.all_append]
  have : (List.replicate (4 - l.length) (48 : UInt8)).all isHex = true := List.all_eq_true.2 fun x hx => by
    rw [List.eq_of_mem_replicate hx]; decide
  rw [this, Bool.true_and]
theorem four_pair (P : List UInt8) (h : P.length = 4) : ∃ x y, pairs P = [x, y] ∧ x.toNat * 256 + y.toNat = hexN P := by
  match P, h with
  | [a, b, c, d], _ =>
    have ha := hexV_lt a
    have hb := hexV_lt b
    have hc := hexV_lt c
    have hd := hexV_lt d
    refine ⟨_, _, rfl, ?_⟩
    rw [UInt8.toNat_ofNat_of_lt' (show 16 * hexV a + hexV b < 256 by omega), UInt8.toNat_ofNat_of_lt' (show 16 * hexV c + hexV d < 256 by omega)]
    show _ = 16 * (16 * (16 * (16 * 0 + hexV a) + hexV b) + hexV c) + hexV d
    omega
theorem pad4_unhex (l : List UInt8) (h0 : l.length ≠ 0) (h4 : l.length ≤ 4) : unhexB (pad4 l) = (grpOf l).isSome ∧ (unhexB (pad4 l) = true → ∃ x y, unhexL (pad4 l) = [x, y] ∧ x.toNat * 256 + y.toNat = grpV l) := by
  have hl := pad4_length l h4
  have hB : unhexB (pad4 l) = l.all isHex := by
    unfold unhexB
    rw [hl, pad4_hex]
    rfl
  cases ha : l.all isHex with
  | true =>
    have hg : grpOf l = some (hexN l) := by
      unfold grpOf
      rw [if_neg (fun hc => by rcases hc with h | h | h; exact h0 h; omega; rw [ha] at h; cases h)]
    rw [hB, ha, hg]
    refine ⟨rfl, fun _ => ?_⟩
    obtain ⟨x, y, hp, he⟩ := four_pair (pad4 l) hl
    refine ⟨x, y, ?_, ?_⟩
    · unfold unhexL; rw [hB, ha, if_pos rfl, hp]
    · rw [he]
      unfold grpV
      rw [hg]
      exact hexN_pad _ l
  | false =>
    have hg : grpOf l = none := by
      unfold grpOf
      rw [if_pos (.inr (.inr ha))]
    rw [hB, ha, hg]
    exact ⟨rfl, fun h => by cases h⟩
theorem zeros4_extract : ∀ n : Fin 5, (⟨#[48, 48, 48, 48]⟩ : ByteArray).extract n.val 4 = ⟨(List.replicate (4 - n.val) 48).toArray⟩ := by decide +kernel
theorem pad4_text (s : ByteArray) (h : s.size ≤ 4) : ((⟨#[48, 48, 48, 48]⟩ : ByteArray).extract s.size 4 ++ s).data.toList = pad4 s.data.toList ∧ ((⟨#[48, 48, 48, 48]⟩ : ByteArray).extract s.size 4 ++ s).size = 4 := by
  have e := zeros4_extract ⟨s.size, by omega⟩
  simp only at e
  rw [e]
  have hl : s.data.toList.length = s.size := rfl
  have e1 : ((⟨(List.replicate (4 - s.size) 48).toArray⟩ : ByteArray) ++ s).data.toList = pad4 s.data.toList := by
    unfold pad4
    rw [hl]
    simp
  refine ⟨e1, ?_⟩
  have := congrArg List.length e1
  rw [pad4_length _ (by rw [hl]; exact h)] at this
  exact this
theorem grp_none {l : List UInt8} (h : l.length = 0 ∨ 4 < l.length) : grpOf l = none := by
  unfold grpOf
  rw [if_pos (h.elim .inl (fun h => .inr (.inl h)))]
set_option maxRecDepth 100000 in
set_option maxHeartbeats 2000000 in
theorem group_any (s : ByteArray) (w : World) (hs : s.size ≤ 1000000) :
    Calls Tryd.prog 43 #[.string s] w fun r w' => r = .returned (.tuple #[.int .i64 ((grpV s.data.toList : Nat) : Int), .bool (grpOf s.data.toList).isSome]) ∧ Below w.heap.size w w' := by
  have hl : s.data.toList.length = s.size := rfl
  by_cases h0 : s.size = 0
  · have hg := grp_none (l := s.data.toList) (.inl h0)
    have he : s = ⟨#[]⟩ := by
      rcases s with ⟨⟨d⟩⟩
      have : d.length = 0 := h0
      rw [List.eq_nil_of_length_eq_zero this]
    unfold grpV
    rw [hg]
    subst he
    go_enter Tryd.func43, Tryd.ntmps43
    go_wp2
    go_ret2
    exact ⟨rfl, Below.refl _ _⟩
  · have e1 : ¬ s.toList = [] := by
      rw [ByteArray.toList_eq]
      intro e
      exact h0 (by rw [← hl, e]; rfl)
    have e2 : s.toList.isEmpty = false := by rw [List.isEmpty_eq_false_iff]; exact e1
    have HE := Lib.hid (And.intro e1 e2)
    by_cases h4 : 4 < s.size
    · have hg := grp_none (l := s.data.toList) (.inr h4)
      have h4' : (4 : Int) < (s.size : Int) := by omega
      unfold grpV
      rw [hg]
      go_enter Tryd.func43, Tryd.ntmps43
      go_wp2
      go_ret2
      exact ⟨rfl, Below.refl _ _⟩
    · have h5 : s.size ≤ 4 := by omega
      obtain ⟨p1, p2⟩ := pad4_text s h5
      obtain ⟨u1, u2⟩ := pad4_unhex s.data.toList (by rw [hl]; exact h0) (by rw [hl]; exact h5)
      have hU := fun W => unhex_any ((⟨#[48, 48, 48, 48]⟩ : ByteArray).extract s.size 4 ++ s) W (by rw [p2]; omega)
      rw [p1] at hU
      have hsz : ((⟨#[48, 48, 48, 48]⟩ : ByteArray).extract s.size 4).size = 4 - s.size := by rw [ByteArray.size_extract]; rfl
      have h4' : ¬ (4 : Int) < (s.size : Int) := by omega
      by_cases hB : unhexB (pad4 s.data.toList) = true
      · obtain ⟨x, y, q1, q2⟩ := u2 hB
        rw [hB] at u1
        rw [hB, q1] at hU
        rw [← u1, ← q2]
        have HU := Lib.hid hU
        have HP := Lib.hid (fun W => pair_any x y W)
        clear u1 u2 p1 p2 hU q1 q2 hB hl h0 h4
        generalize x.toNat * 256 + y.toNat = N at *
        go_enter Tryd.func43, Tryd.ntmps43
        go_wp2_with (first | (go_at_call 55; refine (HU.out _).mono ?_; rintro e w1 ⟨⟨a1, n1, c1, rfl, i1⟩, b1⟩; refine Hid.out ?_))
        refine Lib.hid ?_
        obtain ⟨a2, cap2, he, l1, l2, l3⟩ := i1
        simp only [Value.slice.injEq] at he
        obtain ⟨rfl, rfl, rfl⟩ := he
        obtain ⟨b, off, rfl, hlt, hc⟩ := l3 (by simp)
        have d0 := hc 0 (by simp)
        have d1 := hc 1 (by simp)
        rw [Nat.add_zero, show byteAt [x, y] 0 = (x.toNat : Int) from rfl] at d0
        rw [show byteAt [x, y] 1 = (y.toNat : Int) from rfl] at d1
        simp only [List.length_cons, List.length_nil] at l1 hc ⊢
        have HB1 := Lib.hid b1
        clear hc l3 hlt HU b1
        go_wp2_with fail
        refine wp_region_noPanic ?_
        refine wp_region_held_drew (S := PairS b off x y) (by kernel_rfl) ⟨d0, d1⟩ (fun hHeld => ?_)
        refine held_take (v := ?v138) 0 rfl (by kernel_rfl) (by kernel_rfl) (by kernel_rfl) (fun _ _ _ h => h) (by rfl) ?y138 (by assumption) ?_
        case y138 => (intro w hSw; unfold PairS at hSw; go_simp; (try with_reducible rfl); (try omega))
        simp only [List.setIfInBounds_toArray, List.set_cons_zero, List.set_cons_succ]
        refine held_take (v := ?v141) 1 rfl (by kernel_rfl) (by kernel_rfl) (by kernel_rfl) (fun _ _ _ h => h) (by rfl) ?y141 (by assumption) ?_
        case y141 => (intro w hSw; unfold PairS at hSw; go_simp; (try with_reducible rfl); (try omega))
        simp only [List.setIfInBounds_toArray, List.set_cons_zero, List.set_cons_succ]
        refine held_take (v := ?v144) 2 rfl (by kernel_rfl) (by kernel_rfl) (by kernel_rfl) (fun _ _ _ h => h) (by rfl) ?y144 (by assumption) ?_
        case y144 => (intro w hSw; unfold PairS at hSw; go_simp; (try with_reducible rfl); (try omega))
        simp only [List.setIfInBounds_toArray, List.set_cons_zero, List.set_cons_succ]
        refine held_take (v := ?v147) 3 rfl (by kernel_rfl) (by kernel_rfl) (by kernel_rfl) (fun _ _ _ h => h) (by rfl) ?y147 (by assumption) ?_
        case y147 => (intro w hSw; unfold PairS at hSw; go_simp; (try with_reducible rfl); (try omega))
        simp only [List.setIfInBounds_toArray, List.set_cons_zero, List.set_cons_succ]
        refine held_take (v := ?v150) 4 rfl (by kernel_rfl) (by kernel_rfl) (by kernel_rfl) (fun _ _ _ h => h) (by rfl) ?y150 (by assumption) ?_
        case y150 => (intro w hSw; unfold PairS at hSw; go_simp; (try with_reducible rfl); (try omega))
        simp only [List.setIfInBounds_toArray, List.set_cons_zero, List.set_cons_succ]
        refine held_take (v := ?v153) 5 rfl (by kernel_rfl) (by kernel_rfl) (by kernel_rfl) (fun _ _ _ h => h) (by rfl) ?y153 (by assumption) ?_
        case y153 => (intro w hSw; unfold PairS at hSw; go_simp; (try with_reducible rfl); (try omega))
        simp only [List.setIfInBounds_toArray, List.set_cons_zero, List.set_cons_succ]
        refine held_one 6 rfl (by kernel_rfl) (by rfl) (fun K hK => ?_)
        go_simp
        refine (HP.out _).mono ?_
        rintro e w' ⟨rfl, rfl⟩
        refine hK.out _ _ hHeld (fun hHeld => ?_)
        clear hK K
        refine held_take (v := ?v162) 7 rfl (by kernel_rfl) (by kernel_rfl) (by kernel_rfl) (fun _ _ _ h => h) (by rfl) ?y162 (by assumption) ?_
        case y162 => (intro w hSw; unfold PairS at hSw; go_simp; (try with_reducible rfl); (try omega))
        simp only [List.setIfInBounds_toArray, List.set_cons_zero, List.set_cons_succ]
        refine held_take (v := ?v165) 8 rfl (by kernel_rfl) (by kernel_rfl) (by kernel_rfl) (fun _ _ _ h => h) (by rfl) ?y165 (by assumption) ?_
        case y165 => (intro w hSw; unfold PairS at hSw; go_simp; (try with_reducible rfl); (try omega))
        simp only [List.setIfInBounds_toArray, List.set_cons_zero, List.set_cons_succ]
        refine wpAnyH_done (by kernel_rfl) ?_ _
        refine NoPanic.normal ?_
        go_wp2
        go_ret2
        exact ⟨rfl, HB1.out.drew⟩
      · have hB' : unhexB (pad4 s.data.toList) = false := by simpa using hB
        rw [hB'] at u1
        have hg : grpOf s.data.toList = none := by
          cases h : grpOf s.data.toList with
          | none => rfl
          | some n => rw [h] at u1; cases u1
        have hv : grpV s.data.toList = 0 := by unfold grpV; rw [hg]; rfl
        rw [hB', unhexL_no hB'] at hU
        rw [← u1, hv]
        have HU := Lib.hid hU
        clear u1 u2 p1 p2 hU hB hB' hl h0 h4 hg hv
        go_enter Tryd.func43, Tryd.ntmps43
        go_wp2_with (first | (go_at_call 55; refine (HU.out _).mono ?_; rintro e w1 ⟨⟨a1, n1, c1, rfl, i1⟩, b1⟩))
        go_ret2
        exact ⟨rfl, b1⟩
end Go.Proofs.YteomoipbjkafgaaDoor
