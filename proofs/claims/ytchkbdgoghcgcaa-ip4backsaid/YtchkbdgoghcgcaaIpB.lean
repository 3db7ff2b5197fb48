/- Package ip4: Body. Proved: what it returns, for every row of bytes (of at most a million). -/
import Derived.Test.YtchkbdgoghcgcaaIp3
namespace Go.Proofs.Ytchkbdgoghcgcaa
open Go Go.RowKit

/-- What Body reads of the header in its box. -/
def BodyS (g : Nat) (h : Hdr) (L : Int) (W : World) : Prop := W.heap[g]? = some (.cells h.cells 27 (0, 0)) ∧ W.cell? ⟨g, 1, none⟩ = some (.int .i64 L)
theorem BodyS.of {g : Nat} {h : Hdr} {W : World} (hg : W.heap[g]? = some (.cells h.cells 27 (0, 0))) : BodyS g h h.len W := ⟨hg, hdr_cell hg 1⟩
theorem BodyS.below {g : Nat} {h : Hdr} {W W' : World} (hg : BodyS g h h.len W) (hb : Below W.heap.size W W') : BodyS g h h.len W' := BodyS.of ((hb.block g (Array.getElem?_eq_some_iff.1 hg.1).1).trans hg.1)

theorem ip4_ok {l : List UInt8} (h : ip4C l = 0) : ip4H l = ip4R l ∧ 20 ≤ hlenN l ∧ hlenN l ≤ 60 ∧ hlenN l ≤ l.length ∧ hlenN l ≤ wordAt l 2 ∧ wordAt l 2 ≤ l.length ∧ (ip4R l).size = hlenN l := by
  have h0 := h
  unfold ip4C at h
  split at h
  · simp at h
  · split at h
    · simp at h
    · split at h
      · simp at h
      · have h60 : hlenN l ≤ 60 := by unfold hlenN; omega
        refine ⟨by unfold ip4H; rw [if_pos h0], by omega, h60, by omega, by omega, by omega, ?_⟩
        unfold Hdr.size ip4R
        simp
        omega

set_option maxRecDepth 100000 in
set_option maxHeartbeats 2000000 in
theorem body_any (a : Option Addr) (n cap : Nat) (l : List UInt8) (w : World) (hv : IsB w (.slice a n cap) l) (hlim : l.length ≤ 1000000) :
    Calls Try.prog 12 #[.slice a n cap] w fun r w' => (∃ a' n' cap', r = .returned (.slice a' n' cap') ∧ IsB w' (.slice a' n' cap') (ip4B l)) ∧ Below w.heap.size w w' := by
  have HP := Lib.hid (parse_any a n cap l w hv hlim)
  have HV := Lib.hid hv
  by_cases h0 : ip4C l = 0
  · obtain ⟨e1, e2, e3, e4, e5, e6, e7⟩ := ip4_ok h0
    have HS := Lib.hid (fun W => size_any (ip4R l) W (by have := e7; unfold Hdr.size at this; omega))
    have HC := Lib.hid (fun W (hb : Below w.heap.size w W) => cut_any a n cap l (hlenN l : Int) ((wordAt l 2 : Int) - (hlenN l : Int)) W (hv.below hb) hlim)
    have eB : cutL l (hlenN l : Int) ((wordAt l 2 : Int) - (hlenN l : Int)) = ip4B l := by
      unfold cutL ip4B
      rw [if_pos h0, if_pos (show inC l (hlenN l : Int) ((wordAt l 2 : Int) - (hlenN l : Int)) = true from decide_eq_true ⟨by omega, by omega, by omega⟩), List.drop_take, Int.toNat_natCast]
      congr 1
      omega
    rw [eB] at HC
    have hL : (ip4R l).len = (wordAt l 2 : Int) := rfl
    rw [h0, e1] at HP
    rw [e7] at HS
    have HL := Lib.hid hL
    clear hv h0 hL e1 e7 eB
    generalize ip4R l = R at *
    generalize ip4B l = B at *
    generalize hlenN l = Z at *
    generalize wordAt l 2 = A at *
    go_enter Try.func12, Try.ntmps12
    go_wp2_with (go_at_call 10; refine HP.out.mono ?_; rintro e w2 ⟨rfl, b2⟩; refine Hid.out ?_)
    refine Lib.hid ?_
    go_wp2_with (refine wpList_store_new rfl (.tmp 3) (.tmp 10) rfl R _ rfl rfl rfl ?_)
    have hg := heap_alloc_new w2 (.cells R.cells 27)
    have HB3 := Lib.hid (b2.alloc b2.size (.cells R.cells 27))
    have hS := BodyS.of hg
    rw [HL.out] at hS
    have HSb : Hid (∀ W W', BodyS w2.heap.size R A W → Below W.heap.size W W' → BodyS w2.heap.size R A W') := fun W W' h hb => by
      have := HL.out
      rw [← this] at h ⊢
      exact h.below hb
    clear hg b2
    generalize (w2.alloc (.cells R.cells 27)) = w3 at *
    have hw : IntKind.i64.wrap ((A : Int) - (Z : Int)) = (A : Int) - (Z : Int) := by rw [IntKind.wrap_i64]; omega
    refine wp_region_noPanic ?_
    refine wp_region_held_drew (S := BodyS w2.heap.size R (A : Int)) (by kernel_rfl) hS (fun hHeld => ?_)
    refine held_take (v := ?v67) 0 rfl (by kernel_rfl) (by kernel_rfl) (by kernel_rfl) (fun _ _ _ h => h) (by rfl) ?y67 (by assumption) ?_
    case y67 => (intro w hSw; unfold BodyS at hSw; go_simp; try with_reducible rfl)
    simp only [List.setIfInBounds_toArray, List.set_cons_zero, List.set_cons_succ]
    refine held_take (v := R.val) 1 rfl (by kernel_rfl) (by kernel_rfl) (by kernel_rfl) (fun _ _ _ h => h) (by rfl) (fun W hSw => exec_load_hdr (.tmp 3) rfl w2.heap.size R rfl hSw.1) (by assumption) ?_
    simp only [List.setIfInBounds_toArray, List.set_cons_zero, List.set_cons_succ]
    refine held_take (v := ?v72) 3 rfl (by kernel_rfl) (by kernel_rfl) (by kernel_rfl) (fun _ _ _ h => h) (by rfl) ?y72 (by assumption) ?_
    case y72 => (intro w hSw; unfold BodyS at hSw; go_simp; try with_reducible rfl)
    simp only [List.setIfInBounds_toArray, List.set_cons_zero, List.set_cons_succ]
    refine held_take (v := ?v75) 4 rfl (by kernel_rfl) (by kernel_rfl) (by kernel_rfl) (fun _ _ _ h => h) (by rfl) ?y75 (by assumption) ?_
    case y75 => (intro w hSw; unfold BodyS at hSw; go_simp; try with_reducible rfl)
    simp only [List.setIfInBounds_toArray, List.set_cons_zero, List.set_cons_succ]
    refine held_take (v := R.val) 5 rfl (by kernel_rfl) (by kernel_rfl) (by kernel_rfl) (fun _ _ _ h => h) (by rfl) (fun W hSw => exec_load_hdr (.tmp 3) rfl w2.heap.size R rfl hSw.1) (by assumption) ?_
    simp only [List.setIfInBounds_toArray, List.set_cons_zero, List.set_cons_succ]
    refine held_one 2 rfl (by kernel_rfl) (by rfl) (fun K hK => ?_)
    go_simp
    refine (HS.out _).mono ?_
    rintro e w4 ⟨rfl, b4⟩
    have g4 : Below w.heap.size w w4 := below_up HB3.out.drew b4 HB3.out.size
    refine hK.out _ _ (HSb.out _ _ hHeld b4) (fun hHeld4 => ?_)
    clear hK K hHeld b4
    refine held_one 6 rfl (by kernel_rfl) (by rfl) (fun K hK => ?_)
    go_simp
    refine (HS.out _).mono ?_
    rintro e w5 ⟨rfl, b5⟩
    have g5 : Below w.heap.size w w5 := below_up g4 b5 g4.size
    refine hK.out _ _ (HSb.out _ _ hHeld4 b5) (fun hHeld5 => ?_)
    clear hK K hHeld4 b5 g4
    refine held_take (v := ?v94) 7 rfl (by kernel_rfl) (by kernel_rfl) (by kernel_rfl) (fun _ _ _ h => h) (by rfl) ?y94 (by assumption) ?_
    case y94 => (intro w hSw; unfold BodyS at hSw; go_simp; try with_reducible rfl)
    simp only [List.setIfInBounds_toArray, List.set_cons_zero, List.set_cons_succ]
    refine held_one 8 rfl (by kernel_rfl) (by rfl) (fun K hK => ?_)
    go_simp
    refine (HC.out _ g5).mono ?_
    rintro e w6 ⟨⟨a6, n6, c6, rfl, i6⟩, b6⟩
    have g6 : Below w.heap.size w w6 := below_up g5 b6 g5.size
    refine hK.out _ _ (HSb.out _ _ hHeld5 b6) (fun hHeld6 => ?_)
    clear hK K hHeld5 b6 g5
    refine held_take (v := ?v104) 9 rfl (by kernel_rfl) (by kernel_rfl) (by kernel_rfl) (fun _ _ _ h => h) (by rfl) ?y104 (by assumption) ?_
    case y104 => (intro w hSw; unfold BodyS at hSw; go_simp; try with_reducible rfl)
    simp only [List.setIfInBounds_toArray, List.set_cons_zero, List.set_cons_succ]
    refine held_take (v := ?v107) 10 rfl (by kernel_rfl) (by kernel_rfl) (by kernel_rfl) (fun _ _ _ h => h) (by rfl) ?y107 (by assumption) ?_
    case y107 => (intro w hSw; unfold BodyS at hSw; go_simp; try with_reducible rfl)
    simp only [List.setIfInBounds_toArray, List.set_cons_zero, List.set_cons_succ]
    refine held_take (v := ?v110) 11 rfl (by kernel_rfl) (by kernel_rfl) (by kernel_rfl) (fun _ _ _ h => h) (by rfl) ?y110 (by assumption) ?_
    case y110 => (intro w hSw; unfold BodyS at hSw; go_simp; try with_reducible rfl)
    simp only [List.setIfInBounds_toArray, List.set_cons_zero, List.set_cons_succ]
    refine held_take (v := ?v113) 12 rfl (by kernel_rfl) (by kernel_rfl) (by kernel_rfl) (fun _ _ _ h => h) (by rfl) ?y113 (by assumption) ?_
    case y113 => (intro w hSw; unfold BodyS at hSw; go_simp; try with_reducible rfl)
    simp only [List.setIfInBounds_toArray, List.set_cons_zero, List.set_cons_succ]
    refine held_take (v := ?v116) 13 rfl (by kernel_rfl) (by kernel_rfl) (by kernel_rfl) (fun _ _ _ h => h) (by rfl) ?y116 (by assumption) ?_
    case y116 => (intro w hSw; unfold BodyS at hSw; go_simp; try with_reducible rfl)
    simp only [List.setIfInBounds_toArray, List.set_cons_zero, List.set_cons_succ]
    refine wpAnyH_done (by kernel_rfl) ?_ _
    refine NoPanic.normal ?_
    clear hHeld6
    go_wp2
    go_ret
    exact ⟨⟨_, _, _, rfl, i6⟩, g6⟩
  · have eB : ip4B l = [] := by unfold ip4B; rw [if_neg h0]
    rw [eB]
    clear hv eB
    generalize ip4H l = R at *
    generalize ip4C l = C at *
    go_enter Try.func12, Try.ntmps12
    go_wp2_with (go_at_call 10; refine HP.out.mono ?_; rintro e w2 ⟨rfl, b2⟩; refine Hid.out ?_)
    refine Lib.hid ?_
    go_wp2_with (refine wpList_store_new rfl (.tmp 3) (.tmp 10) rfl R _ rfl rfl rfl ?_)
    go_ret
    exact ⟨⟨_, _, _, rfl, IsB.nil _⟩, b2.alloc b2.size _⟩
end Go.Proofs.Ytchkbdgoghcgcaa
