/- Same of package entry, and slices.EqualFunc as it calls it. Proved: what they return, for every two stacks. -/
import Derived.Test.YtljpndkgfjndbaaEntB
namespace Go.Proofs.Ytljpndkgfjndbaa
open Go Go.RowKit

set_option maxHeartbeats 1000000 in
theorem equalFunc_any (a b : Option Addr) (n m ca cb : Nat) (l k : List Ent) (w : World) (hl : IsE w (.slice a n ca) l) (hk : IsE w (.slice b m cb) k) (hlen : l.length ≤ 1000000) :
    Calls Try.prog 25 #[.slice a n ca, .slice b m cb, .func (.func 26) #[] #[]] w fun r w' => r = .returned (.bool (allE alikeE l k)) ∧ Below w.heap.size w w' := by
  obtain ⟨rfl, l1, l2, -, lc⟩ := hl.cells
  obtain ⟨rfl, k1, k2, -, kc⟩ := hk.cells
  have HA := Lib.hid alike_any
  by_cases hne : l.length = k.length
  · have HK := Lib.hid kc
    have HL := Lib.hid lc
    clear kc lc hl hk
    obtain ⟨N, hN⟩ : ∃ N, l.length = N := ⟨_, rfl⟩
    have hM : k.length = N := by omega
    clear hne
    rw [hN] at HL l1 hlen
    rw [hM] at HK k1
    rw [hN, hM]
    have HN := Lib.hid hN
    have HM := Lib.hid hM
    clear hN hM
    go_enter Try.func25, Try.ntmps25
    go_wp2
    go_loopw [17] (fun i wr => ∃ j : Nat, j ≤ N ∧ i = .int .i64 j ∧ allE alikeE l k = allE alikeE (l.drop j) (k.drop j) ∧ Below w.heap.size w wr) (fun i _ => N - (intOf i).toNat)
    case atStart => exact ⟨0, Nat.zero_le _, rfl, by simp, Below.refl _ _⟩
    case round =>
      obtain ⟨j, hj, rfl, hall, hb⟩ := hrel
      by_cases hlt : j < N
      · obtain ⟨x, hx⟩ : ∃ x, l[j]? = some x := ⟨l[j]'(by rw [HN.out]; exact hlt), by simp [HN.out, hlt]⟩
        obtain ⟨y, hy⟩ : ∃ y, k[j]? = some y := ⟨k[j]'(by rw [HM.out]; exact hlt), by simp [HM.out, hlt]⟩
        obtain ⟨bl, ol, rfl, hbl, hcl⟩ := HL.out (by omega)
        obtain ⟨bk, ok, rfl, hbk, hck⟩ := HK.out (by omega)
        obtain ⟨x0, x1, x2, x3⟩ := hcl j x hx
        obtain ⟨y0, y1, y2, y3⟩ := hck j y hy
        have hx0 := (hb.cell (p := ⟨bl, ol + j * 4, none⟩) hbl).trans x0
        have hx1 := (hb.cell (p := ⟨bl, ol + j * 4 + 1, none⟩) hbl).trans x1
        have hx2 := (hb.cell (p := ⟨bl, ol + j * 4 + 2, none⟩) hbl).trans x2
        have hx3 := (hb.cell (p := ⟨bl, ol + j * 4 + 3, none⟩) hbl).trans x3
        have hy0 : ∀ o, (wr.alloc o).cell? ⟨bk, ok + j * 4, none⟩ = some (.int .i64 y.L) := fun o => ((hb.alloc hb.size o).cell (p := ⟨bk, ok + j * 4, none⟩) hbk).trans y0
        have hy1 : ∀ o, (wr.alloc o).cell? ⟨bk, ok + j * 4 + 1, none⟩ = some (.int .u8 y.C) := fun o => ((hb.alloc hb.size o).cell (p := ⟨bk, ok + j * 4 + 1, none⟩) hbk).trans y1
        have hy2 : ∀ o, (wr.alloc o).cell? ⟨bk, ok + j * 4 + 2, none⟩ = some (.bool y.B) := fun o => ((hb.alloc hb.size o).cell (p := ⟨bk, ok + j * 4 + 2, none⟩) hbk).trans y2
        have hy3 : ∀ o, (wr.alloc o).cell? ⟨bk, ok + j * 4 + 3, none⟩ = some (.int .u8 y.T) := fun o => ((hb.alloc hb.size o).cell (p := ⟨bk, ok + j * 4 + 3, none⟩) hbk).trans y3
        clear hcl hck x0 x1 x2 x3 y0 y1 y2 y3
        have e1 := allE_drop (p := alikeE) j hx hy
        have HE := Lib.hid (hall.trans e1)
        clear hall e1 hx hy
        go_wp2_with (go_at_call 26; refine (HA.out x y _).mono ?_; rintro e w2 ⟨rfl, hb2⟩)
        · have hb3 := below_up ((hb.alloc hb.size _).alloc (by have := hb.size; simp; omega) _) hb2 (by have := hb.size; simp; omega)
          go_ret
          have ha : alikeE x y = false := by simpa using ‹(!alikeE x y) = true›
          exact ⟨ret_bool (by rw [HE.out, ha]; rfl), hb3⟩
        · have hb3 := below_up ((hb.alloc hb.size _).alloc (by have := hb.size; simp; omega) _) hb2 (by have := hb.size; simp; omega)
          have ha : alikeE x y = true := by simpa using ‹(!alikeE x y) = false›
          have he := HE.out
          rw [ha, Bool.true_and] at he
          go_roundw
          case rel => exact ⟨j + 1, by omega, by go_num, he, hb3⟩
          case measure => simp [intOf]; omega
      · have e1 : allE alikeE l k = true := by
          rw [hall, List.drop_eq_nil_of_le (by rw [HN.out]; omega), List.drop_eq_nil_of_le (by rw [HM.out]; omega)]; rfl
        clear hall
        go_wp2
        go_ret
        exact ⟨ret_bool e1.symm, hb⟩
  · rw [allE_length hne]
    clear kc lc hl hk HA
    go_enter Try.func25, Try.ntmps25
    go_wp2
    go_ret
    exact ⟨rfl, Below.refl _ _⟩

set_option maxHeartbeats 1000000 in
theorem same_any (a b : Option Addr) (n m ca cb : Nat) (l k : List Ent) (w : World) (hl : IsE w (.slice a n ca) l) (hk : IsE w (.slice b m cb) k) (hlen : l.length ≤ 1000000) :
    Calls Try.prog 18 #[.slice a n ca, .slice b m cb] w fun r w' => r = .returned (.bool (allE alikeE l k)) ∧ Below w.heap.size w w' := by
  have HE := Lib.hid (equalFunc_any a b n m ca cb l k w hl hk hlen)
  clear hl hk
  go_enter Try.func18, Try.ntmps18
  go_wp2_with (go_at_call 25; refine HE.out.mono ?_; rintro e w2 ⟨rfl, hb2⟩)
  go_ret
  exact ⟨rfl, hb2⟩
end Go.Proofs.Ytljpndkgfjndbaa
