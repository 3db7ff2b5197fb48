/- slices.Concat of bytes: what it returns is a row of the call's own; 'append(s, x...)' to such a row. -/
import Derived.Test.YtemocbcibnccpaaCat1
namespace Go.Proofs.Ytemocbcibnccpaa
open Go Go.RowKit

theorem append_bytes {w : World} {ops : Array Oper} {rest : List Oper} {o : Oper} {a : Act} {Q : Exit → Act → World → Prop} (hgd : o.guard = none) (s x : Operand)
    (ho : o.op = .call { callee := .builtin .append, args := #[s, x], argTypes := #[22, 22] })
    (base : Nat) (v : Value) (n : Nat) (l0 : List UInt8) (hs : a.eval s = v) (hown : w.ownsRow base 5 1 v n (byteVals l0))
    (b : Option Addr) (m c : Nat) (l : List UInt8) (hx : a.eval x = .slice b m c) (hl : IsB w (.slice b m c) l) (h1 : n + l.length ≤ 1000000) (hbase : base ≤ w.heap.size)
    (h : ∀ v' w', w'.ownsRow base 5 1 v' (n + l.length) (byteVals (l0 ++ l)) → w.grownBy w' v.ownBlock → wpList Try.prog ops Q rest (a.put o.dst v') w') : wpList Try.prog ops Q (o :: rest) a w := by
  obtain ⟨i0, hi, hz0, hz1, hz2⟩ := info_parts info5
  obtain ⟨rfl, -, -, hcs⟩ := hl.cells
  rcases b with _ | ad
  · have he : l = [] := by
      rcases l with _ | ⟨e, l⟩
      · rfl
      · obtain ⟨_, h4, _⟩ := hcs (by simp); cases h4
    subst he
    refine wpList_append_none_any hgd s x _ ho base _ i0 1 Try.underlying22 hi v n _ hs hown c hx ?_
    exact h v w (by simpa using hown) ⟨rfl, rfl, rfl, Nat.le_refl _, fun _ _ _ => rfl⟩
  · refine wpList_append_own _ hgd s x _ ho base _ i0 _ 1 1 Try.underlying22 hi hz0 hz1 hz2 rfl (by decide) v n _ hs hown ad l.length c (byteVals l) hx (by rw [byteVals_length, Nat.mul_one]) ?_ (byteVals_oneCell l) (by unfold maxLen; omega) (by omega) hbase (fun v' w' h1 h2 _ => h v' w' (by rw [byteVals_append]; exact h1) h2)
    intro j u hj
    have hjl : j < (byteVals l).length := (List.getElem?_eq_some_iff.1 hj).1
    rw [byteVals_length] at hjl
    obtain ⟨ad2, h4, _, h5⟩ := hcs (by omega)
    cases h4
    exact h5 j u hj

set_option maxHeartbeats 2000000 in
theorem concat_own (v : Value) (ls : List (List UInt8)) (w : World) (hr : IsRows w v ls) (hlim : ls.flatten.length ≤ 1000000) :
    Calls Try.prog 21 #[v] w fun e w' => (∃ v, e = .returned v ∧ w'.ownsRow w.heap.size 5 1 v ls.flatten.length (byteVals ls.flatten)) ∧ Below w.heap.size w w' := by
  obtain ⟨a, cap, rfl, h1, h2, h3⟩ := hr
  obtain ⟨i0, hi, hz0, hz1, hz2⟩ := info_parts info5
  have hlen : ls.length ≤ maxLen := Nat.le_trans h1 h2
  unfold maxLen at hlen
  have HR := Lib.hid h3
  have HLim := Lib.hid hlim
  clear h3 hlim
  go_enter Try.func21, Try.ntmps21
  go_wp2
  go_loop [3, 5, 11] (fun s _ i => ∃ k : Nat, k ≤ ls.length ∧ i = .int .i64 k ∧ s = .int .i64 ((ls.take k).flatten.length : Nat)) (fun _ _ i => ls.length - (intOf i).toNat)
  case atStart => exact ⟨0, Nat.zero_le _, rfl, rfl⟩
  case round =>
    obtain ⟨k, hk, rfl, rfl⟩ := hrel
    by_cases hlt : k < ls.length
    · obtain ⟨b, off, rfl, hbl, hc⟩ := HR.out (by omega)
      obtain ⟨ai, ci, hck, hB⟩ := hc k hlt
      have HF := Lib.hid (flat_take_succ ls k hlt)
      have HG := Lib.hid (flat_len_get ls k hlt)
      have hml : (ls[k]).length ≤ 1000000 := by have := HG.out; have := HLim.out; omega
      have hpl : (ls.take k).flatten.length ≤ 1000000 := by have := HG.out; have := HLim.out; omega
      clear hc hB
      generalize (ls.take k).flatten = pre at *
      generalize ls[k] = row at *
      go_wp2
      go_round
      case rel => exact ⟨k + 1, by omega, by go_num, by rw [HF.out, List.length_append]; go_num⟩
      case measure => simp [intOf]; omega
    · have hkl : k = ls.length := by omega
      subst hkl
      rw [List.take_length]
      have HGr := Lib.hid (grow_nil ls.flatten.length w HLim.out)
      generalize hFl : ls.flatten.length = F at *
      have HFl := Lib.hid hFl
      clear hFl
      go_wp2_with (go_at_call 32; refine HGr.out.mono ?_; rintro e w1 ⟨v1, rfl, hown, hb1⟩; refine Hid.out ?_)
      refine Lib.hid ?_
      go_wp2
      go_loopw [6, 8, 27] (fun s _ i wr => ∃ k : Nat, k ≤ ls.length ∧ i = .int .i64 k ∧ wr.ownsRow w.heap.size 5 1 s (ls.take k).flatten.length (byteVals (ls.take k).flatten) ∧ Below w.heap.size w wr) (fun _ _ i _ => ls.length - (intOf i).toNat)
      case atStart => exact ⟨0, Nat.zero_le _, rfl, hown, hb1⟩
      case round =>
        obtain ⟨k, hk, rfl, hownk, hbk⟩ := hrel
        by_cases hlt : k < ls.length
        · obtain ⟨b, off, rfl, hbl, hc⟩ := HR.out (by omega)
          obtain ⟨ai, ci, hci, hB⟩ := hc k hlt
          have hck : wr.cell? ⟨b, off + k, none⟩ = some (.slice ai (ls[k]).length ci) := (hbk.cell (p := ⟨b, off + k, none⟩) hbl).trans hci
          have HF := Lib.hid (flat_take_succ ls k hlt)
          have HG := Lib.hid (flat_len_get ls k hlt)
          have hml : (ls[k]).length ≤ 1000000 := by have := HG.out; have := HLim.out; have := HFl.out; omega
          have hpl : (ls.take k).flatten.length ≤ 1000000 := by have := HG.out; have := HLim.out; have := HFl.out; omega
          have hcells := (hB.below hbk).cells.2.2.2
          have HBK := Lib.hid hbk
          clear hci hc hB hbk
          generalize hpre : (ls.take k).flatten = pre at *
          generalize hrow : ls[k] = row at *
          clear hpre hrow
          rcases ai with _ | ad
          · have hr0 : row = [] := by
              rcases row with _ | ⟨x, row⟩
              · rfl
              · obtain ⟨ad, h4, _⟩ := hcells (by simp); cases h4
            subst hr0
            have HO := Lib.hid hownk
            clear hcells hownk
            go_wp2_with (at_builtin; refine wpList_append_none_any rfl (.tmp 31) (.tmp 32) 22 rfl w.heap.size 5 i0 1 Try.underlying22 hi _ _ _ rfl HO.out ci rfl ?_)
            go_roundw
            case rel => exact ⟨k + 1, by omega, by go_num, by rw [HF.out, List.append_nil]; exact HO.out, HBK.out⟩
            case measure => simp [intOf]; omega
          · have HC : Hid (∀ j u, (byteVals row)[j]? = some u → wr.cell? (ad.add j) = some u) := by
              intro j u hj
              have hp : 0 < row.length := by
                rcases row with _ | ⟨x, row⟩
                · simp [byteVals] at hj
                · simp
              obtain ⟨ad2, h4, _, h5⟩ := hcells hp
              cases h4
              exact h5 j u hj
            have HO := Lib.hid hownk
            have HZ := Lib.hid HBK.out.size
            clear hcells hownk
            go_wp2_with (at_builtin; refine wpList_append_own _ rfl (.tmp 31) (.tmp 32) 22 rfl w.heap.size 5 i0 (.int .u8 0) 1 1 Try.underlying22 hi hz0 hz1 hz2 rfl (by decide) _ _ _ rfl HO.out ad _ _ (byteVals row) rfl (by rw [byteVals_length, Nat.mul_one]) HC.out (byteVals_oneCell row) (by unfold maxLen; omega) (by omega) HZ.out ?_; intro v' w2 hown' hgrow _)
            go_roundw
            case rel => exact ⟨k + 1, by omega, by go_num, by rw [HF.out, List.length_append, byteVals_append]; exact hown', HBK.out.grown hgrow HZ.out (owned_low HO.out)⟩
            case measure => simp [intOf]; omega
        · have hkl : k = ls.length := by omega
          subst hkl
          rw [List.take_length] at hownk
          have HOK := Lib.hid hownk
          clear hownk
          go_wp2
          go_ret
          exact ⟨⟨_, rfl, HOK.out⟩, hbk⟩
theorem own_mono {w : World} {base base' : Nat} {e : TypeId} {size : Nat} {v : Value} {n : Nat} {xs : List Value} (h : w.ownsRow base e size v n xs) (hb : base' ≤ base) : w.ownsRow base' e size v n xs := by
  refine ⟨h.1, ?_⟩
  rcases h.2 with h0 | ⟨g, cap, cur, h1, h2, h3⟩
  · exact .inl h0
  · exact .inr ⟨g, cap, cur, h1, Nat.le_trans hb h2, h3⟩
theorem own_form {w : World} {base : Nat} {e : TypeId} {size : Nat} {v : Value} {n : Nat} {xs : List Value} (h : w.ownsRow base e size v n xs) (hn : 0 < n) : ∃ g cap, v = .slice (some ⟨g, 0, none⟩) n cap ∧ base ≤ g ∧ g < w.heap.size := by
  rcases h.2 with ⟨_, h0⟩ | ⟨g, cap, cur, h1, h2, h3, _⟩
  · omega
  · exact ⟨g, cap, h1, h2, (Array.getElem?_eq_some_iff.1 h3).1⟩
/-- It is as it was where its own block is. -/
theorem own_other {w w' : World} {base : Nat} {e : TypeId} {size : Nat} {v : Value} {n : Nat} {xs : List Value} (h : w.ownsRow base e size v n xs) (hb : ∀ k, k < w.heap.size → base ≤ k → w'.heap[k]? = w.heap[k]?) : w'.ownsRow base e size v n xs := by
  refine ⟨h.1, ?_⟩
  rcases h.2 with h0 | ⟨g, cap, cur, h1, h2, hg, h3⟩
  · exact .inl h0
  · exact .inr ⟨g, cap, cur, h1, h2, (hb g (Array.getElem?_eq_some_iff.1 hg).1 h2).trans hg, h3⟩
end Go.Proofs.Ytemocbcibnccpaa
