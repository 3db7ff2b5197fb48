/- The document's Same (layer 3). Proved: what it returns, for every two stacks. -/
import Derived.Test.YtljpndkgfjndbaaEntB
import Derived.Deep.QuietTactic
import Derived.BigQuiet
namespace Go.Proofs.Ytljpndkgfjndbaa
open Go Go.RowKit

set_option maxHeartbeats 3000000 in
theorem rsame_any (a b : Option Addr) (n m ca cb : Nat) (l k : List Ent) (w : World) (hl : IsE w (.slice a n ca) l) (hk : IsE w (.slice b m cb) k) (hlen : l.length ≤ 1000000) :
    Calls Try.prog 19 #[.slice a n ca, .slice b m cb] w fun r w' => r = .returned (.bool (allE alikeE l k)) ∧ Below w.heap.size w w' := by
  obtain ⟨rfl, l1, l2, -, lc⟩ := hl.cells
  obtain ⟨rfl, k1, k2, -, kc⟩ := hk.cells
  by_cases hne : l.length = k.length
  · have HK := Lib.hid kc
    have HL := Lib.hid lc
    clear kc lc hl hk
    obtain ⟨N, hN⟩ : ∃ N, l.length = N := ⟨_, rfl⟩
    have hM : k.length = N := by omega
    clear hne
    rw [hN] at HL l1 hlen
    rw [hM] at HK k1
    rw [hN, hM]
    have HN := Lib.hid hN
    have HM := Lib.hid hM
    clear hN hM
    go_enter Try.func19, Try.ntmps19
    go_wp2
    go_loopw [5] (fun i wr => ∃ j : Nat, j ≤ N ∧ i = .int .i64 j ∧ allE alikeE l k = allE alikeE (l.drop j) (k.drop j) ∧ Below w.heap.size w wr) (fun i _ => N - (intOf i).toNat)
    case atStart => exact ⟨0, Nat.zero_le _, rfl, by simp, Below.refl _ _⟩
    case round =>
      obtain ⟨j, hj, rfl, hall, hb⟩ := hrel
      by_cases hlt : j < N
      · obtain ⟨x, hx⟩ : ∃ x, l[j]? = some x := ⟨l[j]'(by rw [HN.out]; exact hlt), by simp [HN.out, hlt]⟩
        obtain ⟨y, hy⟩ : ∃ y, k[j]? = some y := ⟨k[j]'(by rw [HM.out]; exact hlt), by simp [HM.out, hlt]⟩
        obtain ⟨bl, ol, rfl, hbl, hcl⟩ := HL.out (by omega)
        obtain ⟨bk, ok, rfl, hbk, hck⟩ := HK.out (by omega)
        obtain ⟨x0, x1, x2, x3⟩ := hcl j x hx
        obtain ⟨y0, y1, y2, y3⟩ := hck j y hy
        have e1 := allE_drop (p := alikeE) j hx hy
        obtain ⟨L, C, B, T⟩ := x
        obtain ⟨L', C', B', T'⟩ := y
        simp only at x0 x1 x2 x3 y0 y1 y2 y3
        have hx0 := (hb.cell (p := ⟨bl, ol + j * 4, none⟩) hbl).trans x0
        have hx1 := (hb.cell (p := ⟨bl, ol + j * 4 + 1, none⟩) hbl).trans x1
        have hx2 := (hb.cell (p := ⟨bl, ol + j * 4 + 2, none⟩) hbl).trans x2
        have hx3 := (hb.cell (p := ⟨bl, ol + j * 4 + 3, none⟩) hbl).trans x3
        have hy0 := (hb.cell (p := ⟨bk, ok + j * 4, none⟩) hbk).trans y0
        have hy1 := (hb.cell (p := ⟨bk, ok + j * 4 + 1, none⟩) hbk).trans y1
        have hy2 := (hb.cell (p := ⟨bk, ok + j * 4 + 2, none⟩) hbk).trans y2
        have hy3 := (hb.cell (p := ⟨bk, ok + j * 4 + 3, none⟩) hbk).trans y3
        clear hcl hck x0 x1 x2 x3 y0 y1 y2 y3
        have HE := Lib.hid (hall.trans e1)
        clear hall e1 hx hy
        by_cases hL : L = L'
        · subst hL
          by_cases hC : C = C'
          · subst hC
            by_cases hT : T = T'
            · subst hT
              rw [show alikeE ⟨L, C, B, T⟩ ⟨L, C, B', T⟩ = true by simp [alikeE], Bool.true_and] at HE
              go_wp2
              go_quiet (fail)
              go_wp2
              go_roundw
              case rel => exact ⟨j + 1, by omega, by go_num, HE.out, below_up hb ⟨rfl, rfl, rfl, Nat.le_refl _, fun _ _ => rfl⟩ hb.size⟩
              case measure => simp [intOf]; omega
            · have hd : decide (T = T') = false := decide_eq_false hT
              have hd2 : (T != T') = true := by simpa using hT
              go_wp2
              go_quiet (fail)
              go_wp2
              go_ret
              exact ⟨ret_bool (by rw [HE.out]; simp [alikeE, *]), below_up hb ⟨rfl, rfl, rfl, Nat.le_refl _, fun _ _ => rfl⟩ hb.size⟩
          · have hd : decide (C = C') = false := decide_eq_false hC
            have hd2 : (C != C') = true := by simpa using hC
            go_wp2
            go_quiet (fail)
            go_wp2
            go_ret
            exact ⟨ret_bool (by rw [HE.out]; simp [alikeE, *]), below_up hb ⟨rfl, rfl, rfl, Nat.le_refl _, fun _ _ => rfl⟩ hb.size⟩
        · have hd : decide (L = L') = false := decide_eq_false hL
          have hd2 : (L != L') = true := by simpa using hL
          go_wp2
          go_quiet (fail)
          go_wp2
          go_ret
          exact ⟨ret_bool (by rw [HE.out]; simp [alikeE, *]), below_up hb ⟨rfl, rfl, rfl, Nat.le_refl _, fun _ _ => rfl⟩ hb.size⟩
      · have e1 : allE alikeE l k = true := by
          rw [hall, List.drop_eq_nil_of_le (by rw [HN.out]; omega), List.drop_eq_nil_of_le (by rw [HM.out]; omega)]; rfl
        clear hall
        go_wp2
        go_ret
        exact ⟨ret_bool e1.symm, hb⟩
  · rw [allE_length hne]
    clear kc lc hl hk
    go_enter Try.func19, Try.ntmps19
    go_wp2
    go_ret
    exact ⟨rfl, Below.refl _ _⟩
end Go.Proofs.Ytljpndkgfjndbaa
