/- slices.Grow of nothing, and slices.Concat, at slices of bytes. Proved: what each returns (rows of at most a million bytes together). -/
import Derived.Test.YtemocbcibnccpaaSum1
import Derived.Laws.OwnMore
import Derived.Laws.AppendOwnNone
import Derived.Lib.AppendZerosOnto
import Derived.Lib.Walk
import Derived.Lib.SliceRun
namespace Go.Proofs.Ytemocbcibnccpaa
open Go Go.RowKit

/-- 'append(s, x...)', x an empty slice of no array, s the call's own. -/
theorem wpList_append_none_any {P : Program} {w : World} {ops : Array Oper} {rest : List Oper} {o : Oper} {a : Act} {Q : Exit → Act → World → Prop} (hgd : o.guard = none) (s x : Operand) (t : TypeId)
    (ho : o.op = .call { callee := .builtin .append, args := #[s, x], argTypes := #[t, t] })
    (base : Nat) (e : TypeId) (i : TypeInfo) (size : Nat) (ht : P.underlying t = some (.slice e)) (hi : P.info? e = some i)
    (v : Value) (n : Nat) (xs : List Value) (hs : a.eval s = v) (hown : w.ownsRow base e size v n xs) (c : Nat) (hx : a.eval x = .slice none 0 c)
    (h : wpList P ops Q rest (a.put o.dst v) w) : wpList P ops Q (o :: rest) a w := by
  refine wpList_plain hgd fun K hK => ?_
  have hrun : ∀ ty, (Builtin.append_ #[t, t] ty #[v, .slice none 0 c]).run P w = .ok v w := by
    intro ty
    rcases hown.2 with ⟨rfl, rfl⟩ | ⟨g, cap, cur, rfl, _, _, hnc, _⟩
    · simp [Builtin.append_, run_underlying ht, sizeOf, typeInfo, hi, Builtin.lenOf, Builtin.firstCells]
    · simp [Builtin.append_, run_underlying ht, sizeOf, typeInfo, hi, Builtin.lenOf, Builtin.firstCells, hnc, storeCells]
  unfold Oper.wp
  simp [execOp, ho, resolve, invoke, builtin, hs, hx, hrun, Result.andThen]
  exact hK _ _ h

set_option maxHeartbeats 400000 in
theorem grow_nil (n : Nat) (w : World) (hn : n ≤ 1000000) :
    Calls Try.prog 32 #[.slice none 0 0, .int .i64 n] w fun e w' => ∃ v, e = .returned v ∧ w'.ownsRow w.heap.size 5 1 v 0 [] ∧ Below w.heap.size w w' := by
  rcases n with _ | n
  · go_enter Try.func32, Try.ntmps32
    go_wp2
    go_ret
    exact ⟨_, rfl, World.ownsRow_nil _ _ _ _, Below.refl _ _⟩
  · obtain ⟨i0, hi, hz0, hz1, hz2⟩ := info_parts info5
    have hold : (Builtin.firstCells i0.size 0 (.slice none 0 0)).run Try.prog w.drew = .ok ([] : List Value).toArray w.drew := run_firstCells_none w.drew i0.size 0 0 0
    have hrz := fun ty => Lib.run_append_grow_zeros (P := Try.prog) w 22 3 ty 5 i0 (.int .u8 0) .i64 .i64 Try.underlying22 Try.underlying3 hi hz0 none 0 0 [] hold (n + 1) (by omega) (by omega) (by omega) (by omega) (by rw [hz2]; omega) (growslice_fits (by omega) (by rw [hz2]; omega))
    have hGn : n + 1 ≤ grownCap w (n + 1) 0 5 := grownCap_ge w _ _ _
    have hG63 := grownCap_le_maxLen w (n + 1) 0 5 (by unfold maxLen; omega)
    simp only [Nat.zero_add] at hrz
    generalize grownCap w (n + 1) 0 5 = G at *
    have HR := Lib.hid hrz
    have HM := Lib.hid hG63
    unfold maxLen at hG63
    clear hrz hold
    go_enter Try.func32, Try.ntmps32
    go_wp2_with (at_builtin; refine Lib.wpList_append_run _ rfl _ _ _ _ rfl _ _ rfl rfl _ _ (HR.out _) ?_)
    all_goals
      go_ret
      refine ⟨.slice (some ⟨w.heap.size, 0, none⟩) 0 G, rfl, ?_, (Below.refl _ _).drew.alloc (Nat.le_refl _) _⟩
      exact ⟨rfl, .inr ⟨w.heap.size, G, _, rfl, Nat.le_refl _, heap_alloc_new w.drew _, Nat.zero_le _, HM.out, by simp [size_zeroCells]; omega, by simp⟩⟩

theorem owned_shape {w : World} {base : Nat} {e : TypeId} {v : Value} {n : Nat} {l : List UInt8} (h : w.ownsRow base e 1 v n (byteVals l)) : ∃ a n cap, v = .slice a n cap ∧ IsB w (.slice a n cap) l := by
  rcases h.2 with ⟨rfl, rfl⟩ | ⟨g, cap, cur, rfl, _⟩
  · have h1 := h.1
    rw [byteVals_length] at h1
    have : l = [] := List.eq_nil_of_length_eq_zero (by omega)
    subst this
    exact ⟨_, _, _, rfl, IsB.nil _⟩
  · exact ⟨_, _, _, rfl, IsB.of_owned h⟩
theorem owned_low {w : World} {base : Nat} {e : TypeId} {size : Nat} {v : Value} {n : Nat} {xs : List Value} (h : w.ownsRow base e size v n xs) : ∀ k, v.ownBlock = some k → base ≤ k := by
  rcases h.2 with ⟨rfl, rfl⟩ | ⟨g, cap, cur, rfl, hg, _⟩
  · intro k hk; cases hk
  · intro k hk; cases hk; exact hg
theorem byteVals_append (a b : List UInt8) : byteVals (a ++ b) = byteVals a ++ byteVals b := by simp [byteVals]

set_option maxHeartbeats 2000000 in
theorem concat_any (v : Value) (ls : List (List UInt8)) (w : World) (hr : IsRows w v ls) (hlim : ls.flatten.length ≤ 1000000) :
    Calls Try.prog 21 #[v] w fun e w' => (∃ a n cap, e = .returned (.slice a n cap) ∧ IsB w' (.slice a n cap) ls.flatten) ∧ Below w.heap.size w w' := by
  obtain ⟨a, cap, rfl, h1, h2, h3⟩ := hr
  obtain ⟨i0, hi, hz0, hz1, hz2⟩ := info_parts info5
  have hlen : ls.length ≤ maxLen := Nat.le_trans h1 h2
  unfold maxLen at hlen
  have HR := Lib.hid h3
  have HLim := Lib.hid hlim
  clear h3 hlim
  go_enter Try.func21, Try.ntmps21
  go_wp2
  go_loop [3, 5, 11] (fun s _ i => ∃ k : Nat, k ≤ ls.length ∧ i = .int .i64 k ∧ s = .int .i64 ((ls.take k).flatten.length : Nat)) (fun _ _ i => ls.length - (intOf i).toNat)
  case atStart => exact ⟨0, Nat.zero_le _, rfl, rfl⟩
  case round =>
    obtain ⟨k, hk, rfl, rfl⟩ := hrel
    by_cases hlt : k < ls.length
    · obtain ⟨b, off, rfl, hbl, hc⟩ := HR.out (by omega)
      obtain ⟨ai, ci, hck, hB⟩ := hc k hlt
      have HF := Lib.hid (flat_take_succ ls k hlt)
      have HG := Lib.hid (flat_len_get ls k hlt)
      have hml : (ls[k]).length ≤ 1000000 := by have := HG.out; have := HLim.out; omega
      have hpl : (ls.take k).flatten.length ≤ 1000000 := by have := HG.out; have := HLim.out; omega
      clear hc hB
      generalize (ls.take k).flatten = pre at *
      generalize ls[k] = row at *
      go_wp2
      go_round
      case rel => exact ⟨k + 1, by omega, by go_num, by rw [HF.out, List.length_append]; go_num⟩
      case measure => simp [intOf]; omega
    · have hkl : k = ls.length := by omega
      subst hkl
      rw [List.take_length]
      have HGr := Lib.hid (grow_nil ls.flatten.length w HLim.out)
      generalize hFl : ls.flatten.length = F at *
      have HFl := Lib.hid hFl
      clear hFl
      go_wp2_with (go_at_call 32; refine HGr.out.mono ?_; rintro e w1 ⟨v1, rfl, hown, hb1⟩; refine Hid.out ?_)
      refine Lib.hid ?_
      go_wp2
      go_loopw [6, 8, 27] (fun s _ i wr => ∃ k : Nat, k ≤ ls.length ∧ i = .int .i64 k ∧ wr.ownsRow w.heap.size 5 1 s (ls.take k).flatten.length (byteVals (ls.take k).flatten) ∧ Below w.heap.size w wr) (fun _ _ i _ => ls.length - (intOf i).toNat)
      case atStart => exact ⟨0, Nat.zero_le _, rfl, hown, hb1⟩
      case round =>
        obtain ⟨k, hk, rfl, hownk, hbk⟩ := hrel
        by_cases hlt : k < ls.length
        · obtain ⟨b, off, rfl, hbl, hc⟩ := HR.out (by omega)
          obtain ⟨ai, ci, hci, hB⟩ := hc k hlt
          have hck : wr.cell? ⟨b, off + k, none⟩ = some (.slice ai (ls[k]).length ci) := (hbk.cell (p := ⟨b, off + k, none⟩) hbl).trans hci
          have HF := Lib.hid (flat_take_succ ls k hlt)
          have HG := Lib.hid (flat_len_get ls k hlt)
          have hml : (ls[k]).length ≤ 1000000 := by have := HG.out; have := HLim.out; have := HFl.out; omega
          have hpl : (ls.take k).flatten.length ≤ 1000000 := by have := HG.out; have := HLim.out; have := HFl.out; omega
          have hcells := (hB.below hbk).cells.2.2.2
          have HBK := Lib.hid hbk
          clear hci hc hB hbk
          generalize hpre : (ls.take k).flatten = pre at *
          generalize hrow : ls[k] = row at *
          clear hpre hrow
          rcases ai with _ | ad
          · have hr0 : row = [] := by
              rcases row with _ | ⟨x, row⟩
              · rfl
              · obtain ⟨ad, h4, _⟩ := hcells (by simp); cases h4
            subst hr0
            have HO := Lib.hid hownk
            clear hcells hownk
            go_wp2_with (at_builtin; refine wpList_append_none_any rfl (.tmp 31) (.tmp 32) 22 rfl w.heap.size 5 i0 1 Try.underlying22 hi _ _ _ rfl HO.out ci rfl ?_)
            go_roundw
            case rel => exact ⟨k + 1, by omega, by go_num, by rw [HF.out, List.append_nil]; exact HO.out, HBK.out⟩
            case measure => simp [intOf]; omega
          · have HC : Hid (∀ j u, (byteVals row)[j]? = some u → wr.cell? (ad.add j) = some u) := by
              intro j u hj
              have hp : 0 < row.length := by
                rcases row with _ | ⟨x, row⟩
                · simp [byteVals] at hj
                · simp
              obtain ⟨ad2, h4, _, h5⟩ := hcells hp
              cases h4
              exact h5 j u hj
            have HO := Lib.hid hownk
            have HZ := Lib.hid HBK.out.size
            clear hcells hownk
            go_wp2_with (at_builtin; refine wpList_append_own _ rfl (.tmp 31) (.tmp 32) 22 rfl w.heap.size 5 i0 (.int .u8 0) 1 1 Try.underlying22 hi hz0 hz1 hz2 rfl (by decide) _ _ _ rfl HO.out ad _ _ (byteVals row) rfl (by rw [byteVals_length, Nat.mul_one]) HC.out (byteVals_oneCell row) (by unfold maxLen; omega) (by omega) HZ.out ?_; intro v' w2 hown' hgrow _)
            go_roundw
            case rel => exact ⟨k + 1, by omega, by go_num, by rw [HF.out, List.length_append, byteVals_append]; exact hown', HBK.out.grown hgrow HZ.out (owned_low HO.out)⟩
            case measure => simp [intOf]; omega
        · have hkl : k = ls.length := by omega
          subst hkl
          rw [List.take_length] at hownk
          obtain ⟨a3, n3, c3, rfl, hi3⟩ := owned_shape hownk
          go_wp2
          go_ret
          exact ⟨⟨_, _, _, rfl, hi3⟩, hbk⟩
theorem own_set {w : World} {base : Nat} {g n cap : Nat} {l : List UInt8} (h : w.ownsRow base 5 1 (.slice (some ⟨g, 0, none⟩) n cap) n (byteVals l)) (j : Nat) (x : Int) (b : UInt8) (hx : x = (b.toNat : Int)) :
    (w.setCell ⟨g, j, none⟩ (.int .u8 x)).ownsRow base 5 1 (.slice (some ⟨g, 0, none⟩) n cap) n (byteVals (l.set j b)) := by
  subst hx
  have := (h.stored j (.int .u8 (b.toNat : Int))).1
  rw [byteVals_set] at this
  exact this
theorem own_cell {w : World} {base : Nat} {g n cap : Nat} {l : List UInt8} (h : w.ownsRow base 5 1 (.slice (some ⟨g, 0, none⟩) n cap) n (byteVals l)) (j : Nat) (hj : j < l.length) :
    w.cell? ⟨g, j, none⟩ = some (.int .u8 (byteAt l j)) := by
  have hn := h.1
  rw [byteVals_length] at hn
  rw [h.cellAt j (by omega), byteVals_getElem? l j hj]
theorem own_below {w w' : World} {base : Nat} {e : TypeId} {size : Nat} {v : Value} {n : Nat} {xs : List Value} (h : w.ownsRow base e size v n xs) (hb : Below w.heap.size w w') : w'.ownsRow base e size v n xs := by
  refine ⟨h.1, ?_⟩
  rcases h.2 with h0 | ⟨g, cap, cur, h1, h2, hg, h3⟩
  · exact .inl h0
  · exact .inr ⟨g, cap, cur, h1, h2, (hb.block g (Array.getElem?_eq_some_iff.1 hg).1).trans hg, h3⟩

end Go.Proofs.Ytemocbcibnccpaa
