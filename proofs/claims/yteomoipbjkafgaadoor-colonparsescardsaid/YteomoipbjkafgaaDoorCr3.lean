/- The document's group and row of layer 7. Proved: what each returns. -/
import Derived.Test.YteomoipbjkafgaaDoorCr1
import Derived.Test.YteomoipbjkafgaaDoorDot4
namespace Go.Proofs.YteomoipbjkafgaaDoor
open Go Go.RowKit

def grpI (p : List UInt8) : Int := match grpOf p with | some n => (n : Int) | none => -1
theorem grpI_some {p : List UInt8} {n : Nat} (h : grpOf p = some n) : grpI p = n := by unfold grpI; rw [h]
theorem grpI_none {p : List UInt8} (h : grpOf p = none) : grpI p = -1 := by unfold grpI; rw [h]
theorem hexN_snoc (l : List UInt8) (k : Nat) (hk : k < l.length) : hexN (l.take (k + 1)) = 16 * hexN (l.take k) + hexV (l.getD k 0) := by
  have e : l.take (k + 1) = l.take k ++ [l.getD k 0] := by
    rw [List.take_add_one]
    simp [List.getD, hk]
  rw [e]
  simp [hexN, List.foldl_append]
theorem all_snoc (l : List UInt8) (k : Nat) (hk : k < l.length) : (l.take (k + 1)).all isHex = ((l.take k).all isHex && isHex (l.getD k 0)) := by
  have e : l.take (k + 1) = l.take k ++ [l.getD k 0] := by
    rw [List.take_add_one]
    simp [List.getD, hk]
  rw [e]
  simp
set_option maxRecDepth 100000 in
set_option maxHeartbeats 2000000 in
theorem rgroup_any (p : List UInt8) (w : World) (hp : p.length ≤ 1000000) :
    Calls Tryd.prog 39 #[.string ⟨p.toArray⟩] w fun e w' => e = .returned (.int .i64 (grpI p)) ∧ w = w' := by
  have hsz := str_len p
  by_cases h0 : p.length = 0
  · have hg := grpI_none (grp_none (l := p) (.inl h0))
    have he : p = [] := List.eq_nil_of_length_eq_zero h0
    rw [hg]
    subst he
    go_enter Tryd.func39, Tryd.ntmps39
    go_wp2
    go_ret
    exact ⟨rfl, rfl⟩
  · have e1 : ¬ (⟨p.toArray⟩ : ByteArray).toList = [] := by
      rw [ByteArray.toList_eq]
      intro e
      exact h0 (by rw [show p = [] from e]; rfl)
    have e2 : (⟨p.toArray⟩ : ByteArray).toList.isEmpty = false := by rw [List.isEmpty_eq_false_iff]; exact e1
    have e3 : ¬ p = [] := fun e => h0 (by rw [e]; rfl)
    have e4 : p.isEmpty = false := by rw [List.isEmpty_eq_false_iff]; exact e3
    by_cases h4 : 4 < p.length
    · have hg := grpI_none (grp_none (l := p) (.inr h4))
      have h4' : (4 : Int) < (p.length : Int) := by omega
      rw [hg]
      go_enter Tryd.func39, Tryd.ntmps39
      go_wp2
      go_ret
      exact ⟨rfl, rfl⟩
    · have h4' : ¬ (4 : Int) < (p.length : Int) := by omega
      have h5 : p.length ≤ 4 := by omega
      have HG : Hid (grpI p = if p.all isHex = false then -1 else (hexN p : Int)) := by
        show _ = _
        cases ha : p.all isHex with
        | false => rw [grpI_none (by unfold grpOf; rw [if_pos (.inr (.inr ha))])]; rfl
        | true =>
          rw [grpI_some (n := hexN p) (by unfold grpOf; rw [if_neg (fun hc => by rcases hc with h | h | h; exact h0 h; omega; rw [ha] at h; cases h)])]
          rfl
      have HSN := Lib.hid (hexN_snoc p)
      have HAS := Lib.hid (all_snoc p)
      have HLT : Hid (∀ k, hexN (p.take k) < 16 ^ 4) := fun k => by
        have h1 := hexN_lt (p.take k) 0
        have h2 : 16 ^ (p.take k).length ≤ 16 ^ 4 := Nat.pow_le_pow_right (by omega) (by rw [List.length_take]; omega)
        unfold hexN
        omega
      clear hp h0 h4
      go_enter Tryd.func39, Tryd.ntmps39
      go_wp2
      go_loop [3, 4] (fun n i => ∃ k : Nat, k ≤ p.length ∧ i = .int .i64 (k : Int) ∧ n = .int .i64 (hexN (p.take k) : Int) ∧ (p.take k).all isHex = true) (fun _ i => p.length - (intOf i).toNat)
      case atStart => exact ⟨0, by omega, rfl, rfl, rfl⟩
      case round =>
        obtain ⟨k, hk, rfl, rfl, hall⟩ := hrel
        by_cases hlt : k < p.length
        · have hix := fun W => index_str W p k hlt
          have hsn := HSN.out k hlt
          have hast := HAS.out k hlt
          have hlk := HLT.out k
          have hb0 := byteAt_nonneg p k
          have hb1 := byteAt_le p k
          have HD := Lib.hid (fun W => rdigit_any (byteAt p k) W hb0 hb1)
          rw [hall, Bool.true_and] at hast
          have hbd := digV16_bd (byteAt p k)
          cases hd : digB (byteAt p k) 16 with
          | true =>
            rw [rdig_ok hd] at HD
            have hh : isHex (p.getD k 0) = true := hd
            have hv : (hexV (p.getD k 0) : Int) = digV (byteAt p k) 16 := by
              unfold hexV
              exact Int.toNat_of_nonneg hbd.1
            rw [hh] at hast
            have HAST := Lib.hid hast
            have HV : Hid ((hexN (p.take (k + 1)) : Int) = 16 * (hexN (p.take k) : Int) + digV (byteAt p k) 16) := by
              show _ = _
              rw [← hv, hsn]
              omega
            clear hd hh hv hast hsn hall
            generalize digV (byteAt p k) 16 = d at *
            generalize byteAt p k = c at *
            generalize hexN (p.take k) = N at *
            have hd0 : ¬ d < 0 := by omega
            go_wp2_with (go_at_call 45; refine (HD.out _).mono ?_; rintro e w' ⟨rfl, rfl⟩)
            go_round
            case rel => exact ⟨k + 1, by omega, by go_num, by rw [HV.out], HAST.out⟩
            case measure => simp [intOf]; omega
          | false =>
            rw [rdig_no hd] at HD
            have hno : p.all isHex = false := by
              rw [Bool.eq_false_iff]
              intro ha
              have := List.all_eq_true.1 ha (p.getD k 0) (by simp [List.getD, hlt])
              have h2 : isHex (p.getD k 0) = false := hd
              rw [h2] at this
              cases this
            have hgo := HG.out
            rw [if_pos hno] at hgo
            have HGO := Lib.hid hgo
            clear hd hast hsn hall hno hgo
            generalize byteAt p k = c at *
            generalize hexN (p.take k) = N at *
            go_wp2_with (go_at_call 45; refine (HD.out _).mono ?_; rintro e w' ⟨rfl, rfl⟩)
            go_ret
            exact ⟨by rw [HGO.out]; rfl, rfl⟩
        · have hkn : k = p.length := by omega
          subst hkn
          rw [List.take_of_length_le (Nat.le_refl _)] at hall ⊢
          have hgo := HG.out
          rw [if_neg (by rw [hall]; simp)] at hgo
          have HGO := Lib.hid hgo
          clear hgo
          go_wp2
          go_ret
          exact ⟨by rw [HGO.out]; rfl, rfl⟩
/-- How far the document's row is read. -/
structure ColR (l : List UInt8) (last : Bool) (G : List Nat) (cur : List UInt8) (i : Nat) : Prop where
  le : i ≤ l.length + 1
  short : cur.length ≤ i
  small : G.length ≤ 2 * i
  parts : i ≤ l.length → ∃ ps, (∀ p ∈ ps, (grpOf p).isSome = true) ∧ G = grpsV ps ∧ splitF 58 [] l = ps ++ splitF 58 cur (l.drop i)
  done : i = l.length + 1 → rowP last (splitF 58 [] l) = some G
theorem colR_zero (l : List UInt8) (last : Bool) : ColR l last [] [] 0 := ⟨by omega, by simp, by simp, fun _ => ⟨[], fun p hp => by simp at hp, rfl, by simp⟩, fun h => by omega⟩
theorem ColR.byte {l : List UInt8} {last : Bool} {G : List Nat} {cur : List UInt8} {i : Nat} (h : ColR l last G cur i) (hi : i < l.length) (hb : byteAt l i ≠ 58) : ColR l last G (cur ++ [l.getD i 0]) (i + 1) := by
  refine ⟨by omega, by have := h.short; simp; omega, by have := h.small; omega, fun _ => ?_, fun e => by omega⟩
  obtain ⟨ps, h1, h2, h3⟩ := h.parts (by omega)
  refine ⟨ps, h1, h2, ?_⟩
  rw [h3, List.drop_eq_getElem_cons hi]
  have e : l[i] = l.getD i 0 := by simp [List.getD, hi]
  rw [e, splitF_byte]
  intro e2
  refine hb ?_
  unfold byteAt
  rw [e2]
  rfl
theorem ColR.sign {l : List UInt8} {last : Bool} {G : List Nat} {cur : List UInt8} {i : Nat} (h : ColR l last G cur i) (hi : i < l.length) (hb : byteAt l i = 58) {n : Nat} (hg : grpOf cur = some n) : ColR l last (G ++ [n]) [] (i + 1) := by
  refine ⟨by omega, by simp, by have := h.small; simp; omega, fun _ => ?_, fun e => by omega⟩
  obtain ⟨ps, h1, h2, h3⟩ := h.parts (by omega)
  refine ⟨ps ++ [cur], fun p hp => ?_, ?_, ?_⟩
  · rcases List.mem_append.1 hp with hp | hp
    · exact h1 p hp
    · simp at hp; subst hp; rw [hg]; rfl
  · rw [h2]
    have : grpV cur = n := by unfold grpV; rw [hg]; rfl
    simp [grpsV, this]
  · rw [h3, drop_sign58 hi hb, splitF_sign]
    simp
theorem ColR.signNo {l : List UInt8} {last : Bool} {G : List Nat} {cur : List UInt8} {i : Nat} (h : ColR l last G cur i) (hi : i < l.length) (hb : byteAt l i = 58) (hg : grpOf cur = none) : rowP last (splitF 58 [] l) = none := by
  obtain ⟨ps, h1, h2, h3⟩ := h.parts (by omega)
  rw [h3, drop_sign58 hi hb, splitF_sign, rowP_front last _ _ _ h1]
  cases hs : splitF 58 [] (l.drop (i + 1)) with
  | nil => exact absurd hs (splitF_ne 58 _ [])
  | cons x xs => rw [rowP, hg]; rfl
theorem ColR.last {l : List UInt8} {last : Bool} {G : List Nat} {cur : List UInt8} (h : ColR l last G cur l.length) : rowP last (splitF 58 [] l) = (rowP last [cur]).map (G ++ ·) := by
  obtain ⟨ps, h1, h2, h3⟩ := h.parts (Nat.le_refl _)
  rw [h3, List.drop_length, splitF, rowP_front last _ _ _ h1, h2]
theorem ColR.endG {l : List UInt8} {last : Bool} {G : List Nat} {cur : List UInt8} (h : ColR l last G cur l.length) {n : Nat} (hg : grpOf cur = some n) : ColR l last (G ++ [n]) [] (l.length + 1) := by
  refine ⟨by omega, by simp, by have := h.small; simp; omega, fun e => by omega, fun _ => ?_⟩
  rw [h.last, rowP, hg]
  rfl
theorem ColR.endD {l : List UInt8} {last : Bool} {G : List Nat} {cur : List UInt8} (h : ColR l last G cur l.length) (hl : last = true) (hd : dotB cur = true) (x0 x1 x2 x3 : UInt8) (hx : dotL cur = [x0, x1, x2, x3]) : ColR l last (G ++ [x0.toNat * 256 + x1.toNat, x2.toNat * 256 + x3.toNat]) [] (l.length + 1) := by
  refine ⟨by omega, by simp, by have := h.small; simp; omega, fun e => by omega, fun _ => ?_⟩
  rw [h.last, rowP, dotB_grp hd]
  simp only [hl, hd, Bool.and_self, if_true, Option.map_some]
  rw [dotV_L hd 0 (by omega), dotV_L hd 1 (by omega), dotV_L hd 2 (by omega), dotV_L hd 3 (by omega), hx, Nat.mul_comm 256, Nat.mul_comm 256]
  rfl
theorem ColR.endNo {l : List UInt8} {last : Bool} {G : List Nat} {cur : List UInt8} (h : ColR l last G cur l.length) (hg : grpOf cur = none) (hd : (last && dotB cur) = false) : rowP last (splitF 58 [] l) = none := by
  rw [h.last, rowP, hg]
  simp only [hd]
  rfl
theorem ownI_below {w w' : World} {base : Nat} {e : TypeId} {size : Nat} {v : Value} {n : Nat} {xs : List Value} (h : w.ownsRow base e size v n xs) (hb : Below w.heap.size w w') : w'.ownsRow base e size v n xs := by
  refine ⟨h.1, ?_⟩
  rcases h.2 with h0 | ⟨g, cap, cur, h1, h2, hg, h3⟩
  · exact .inl h0
  · exact .inr ⟨g, cap, cur, h1, h2, (hb.block g (Array.getElem?_eq_some_iff.1 hg).1).trans hg, h3⟩
theorem ownI_low {w : World} {base : Nat} {e : TypeId} {size : Nat} {v : Value} {n : Nat} {xs : List Value} (h : w.ownsRow base e size v n xs) : ∀ k, v.ownBlock = some k → base ≤ k := by
  rcases h.2 with ⟨rfl, rfl⟩ | ⟨g, cap, cur, rfl, hg, _⟩
  · intro k hk; cases hk
  · intro k hk; cases hk; exact hg
theorem IsI.nil (w : World) : IsI w (.slice none 0 0) [] := ⟨none, 0, rfl, by simp, by simp [maxLen], fun h => by simp at h⟩
theorem ownI_shape {w : World} {base : Nat} {v : Value} {n : Nat} {l : List Int} (h : w.ownsRow base 3 1 v n (intVals l)) : ∃ a n cap, v = .slice a n cap ∧ IsI w (.slice a n cap) l := by
  have h1 := h.1
  rw [intVals_length] at h1
  rcases h.2 with ⟨rfl, rfl⟩ | ⟨g, cap, cur, rfl, _, hg, h3, h4, hc, hx⟩
  · have : l = [] := List.eq_nil_of_length_eq_zero (by omega)
    subst this
    exact ⟨_, _, _, rfl, IsI.nil _⟩
  · have hn : n = l.length := by omega
    subst hn
    refine ⟨_, _, _, rfl, some ⟨g, 0, none⟩, cap, rfl, h3, h4, fun _ => ⟨g, 0, rfl, (Array.getElem?_eq_some_iff.1 hg).1, fun i hi => ?_⟩⟩
    have := h.cellAt i (by omega)
    rw [Nat.zero_add, this, intVals_getElem? l i hi]
end Go.Proofs.YteomoipbjkafgaaDoor
