/- Package ip4: Parse. Proved: what it returns, for every row of bytes (of at most a million). -/
import Derived.Test.YtchkbdgoghcgcaaIp2
import Derived.Test.YtchkbdgoghcgcaaIpW
namespace Go.Proofs.Ytchkbdgoghcgcaa
open Go Go.RowKit

theorem read_take (l : List UInt8) (k : Nat) (hk : hlenN l = k) (h20 : 20 ≤ k) : readH (l.take k) = ip4R l := by
  have e : ∀ i, i < 20 → (l.take k).getD i 0 = l.getD i 0 := fun i hi => by rw [List.getD, List.getD, List.getElem?_take, if_pos (by omega)]
  unfold readH ip4R wordAt
  rw [hk, e 1 (by omega), e 2 (by omega), e (2 + 1) (by omega), e 4 (by omega), e (4 + 1) (by omega), e 6 (by omega), e (6 + 1) (by omega), e 8 (by omega), e 9 (by omega), e 12 (by omega), e 13 (by omega), e 14 (by omega), e 15 (by omega), e 16 (by omega), e 17 (by omega), e 18 (by omega), e 19 (by omega)]

/-- What Parse reads ahead of its calls. -/
def ParseS (b off : Nat) (x : Int) (W : World) : Prop := W.cell? ⟨b, off, none⟩ = some (.int .u8 x)

set_option maxHeartbeats 1000000 in
theorem parse_short (a : Option Addr) (n cap : Nat) (l : List UInt8) (w : World) (hv : IsB w (.slice a n cap) l) (h20 : l.length < 20) :
    Calls Try.prog 10 #[.slice a n cap] w fun r w' => r = .returned (.tuple #[hdrZero.val, .int .i64 10]) ∧ Below w.heap.size w w' := by
  obtain ⟨rfl, h1, h2, h3⟩ := hv.cells
  clear hv h3
  go_enter Try.func10, Try.ntmps10
  go_wp2_with (refine wpList_store_new rfl (.tmp 2) (.tmp 9) rfl hdrZero _ rfl rfl rfl ?_)
  exact bodyPost_ret (results_hdr2 Try.results10 _ _ w.heap.size hdrZero rfl (heap_alloc_new w _)) rfl ⟨rfl, (Below.refl _ _).alloc (Nat.le_refl _) _⟩

set_option maxHeartbeats 1000000 in
theorem parse_version (a : Option Addr) (n cap : Nat) (l : List UInt8) (w : World) (hv : IsB w (.slice a n cap) l) (h20 : 20 ≤ l.length) (hx : byteAt l 0 < 64 ∨ 79 < byteAt l 0) :
    Calls Try.prog 10 #[.slice a n cap] w fun r w' => r = .returned (.tuple #[hdrZero.val, .int .i64 12]) ∧ Below w.heap.size w w' := by
  obtain ⟨a2, cap2, he, h1, h2, h3⟩ := id hv
  simp only [Value.slice.injEq] at he
  obtain ⟨rfl, rfl, rfl⟩ := he
  obtain ⟨b, off, rfl, hlt, hc⟩ := h3 (by omega)
  have c0 : ∀ o, (w.alloc o).cell? ⟨b, off, none⟩ = some (.int .u8 (byteAt l 0)) := fun o => (((Below.refl _ _).alloc (Nat.le_refl _) o).cell (p := ⟨b, off, none⟩) hlt).trans (hc 0 (by omega))
  have x0 := byteAt_nonneg l 0
  have x1 := byteAt_le l 0
  generalize byteAt l 0 = x at *
  clear hc h3 hv
  rcases hx with hx | hx
  all_goals
    go_enter Try.func10, Try.ntmps10
    go_wp2_with (refine wpList_store_new rfl (.tmp 2) (.tmp 20) rfl hdrZero _ rfl rfl rfl ?_)
    exact bodyPost_ret (results_hdr2 Try.results10 _ _ w.heap.size hdrZero rfl (heap_alloc_new w _)) rfl ⟨rfl, (Below.refl _ _).alloc (Nat.le_refl _) _⟩

set_option maxRecDepth 100000 in
set_option maxHeartbeats 4000000 in
theorem parse_more (a : Option Addr) (n cap : Nat) (l : List UInt8) (w : World) (hv : IsB w (.slice a n cap) l) (h20 : 20 ≤ l.length) (hlim : l.length ≤ 1000000) (hx1 : 64 ≤ byteAt l 0) (hx2 : byteAt l 0 ≤ 79) :
    Calls Try.prog 10 #[.slice a n cap] w fun r w' => r = .returned (.tuple #[(ip4H l).val, .int .i64 (ip4C l)]) ∧ Below w.heap.size w w' := by
  obtain ⟨a2, cap2, he, h1, h2, h3⟩ := id hv
  simp only [Value.slice.injEq] at he
  obtain ⟨rfl, rfl, rfl⟩ := he
  obtain ⟨b, off, rfl, hlt, hc⟩ := h3 (by omega)
  unfold maxLen at h2
  have c0 : ∀ o, (w.alloc o).cell? ⟨b, off, none⟩ = some (.int .u8 (byteAt l 0)) := fun o => (((Below.refl _ _).alloc (Nat.le_refl _) o).cell (p := ⟨b, off, none⟩) hlt).trans (hc 0 (by omega))
  have HN := Lib.hid (fun W (hb : Below w.heap.size w W) => number_any4 (some ⟨b, off, none⟩) l.length cap l 2 W (hv.below hb) (by omega))
  obtain ⟨y, hy⟩ : ∃ y : Nat, byteAt l 0 = 64 + (y : Int) := ⟨(byteAt l 0 - 64).toNat, by omega⟩
  have hyl : y ≤ 15 := by omega
  have ehl : hlenN l = 4 * y := by
    unfold hlenN
    have : ((l.getD 0 0).toNat : Int) = 64 + (y : Int) := hy
    omega
  have ev : ¬ (l.getD 0 0).toNat / 16 ≠ 4 := by
    have : ((l.getD 0 0).toNat : Int) = 64 + (y : Int) := hy
    omega
  have hlen := wordAt_le l 2
  have HV := Lib.hid hv
  rw [hy] at c0 hx1 hx2
  have g0 : ∀ o, Below w.heap.size w (w.alloc o) := fun o => (Below.refl _ _).alloc (Nat.le_refl _) o
  have G0 := Lib.hid g0
  obtain ⟨Z, hZ⟩ : ∃ Z : Nat, Z = 4 * y := ⟨_, rfl⟩
  rw [← hZ] at ehl
  have eC : ip4C l = if Z < 20 ∨ l.length < Z ∨ wordAt l 2 < Z ∨ l.length < wordAt l 2 then 13 else if fold16 (wsum false (l.take Z)) ≠ 65535 then 14 else 0 := by
    unfold ip4C
    rw [if_neg (by omega), if_neg ev, ehl]
  have EC := Lib.hid eC
  have EHL := Lib.hid ehl
  have HZ := Lib.hid hZ
  clear eC ehl ev hZ
  clear hc h3 hv hy g0
  go_enter Try.func10, Try.ntmps10
  go_wp2_with fail
  have q1 : (0 : Int) < (l.length : Int) := by omega
  have hw1 : IntKind.i64.wrap (4 * IntKind.i64.wrap (IntKind.u8.wrap (64 + (y : Int) - 64))) = (Z : Int) := by
    have := HZ.out; rw [IntKind.wrap_u8, IntKind.wrap_i64, IntKind.wrap_i64]; omega
  refine wp_region_noPanic ?_
  refine wp_region_held_drew (S := ParseS b off (64 + (y : Int))) (by kernel_rfl) (c0 _) (fun hHeld => ?_)
  refine held_take (v := ?v83) 0 rfl (by kernel_rfl) (by kernel_rfl) (by kernel_rfl) (fun _ _ _ h => h) (by rfl) ?y83 (by assumption) ?_
  case y83 => (intro w hSw; unfold ParseS at hSw; go_simp; try with_reducible rfl)
  simp only [List.setIfInBounds_toArray, List.set_cons_zero, List.set_cons_succ]
  refine held_take (v := ?v86) 1 rfl (by kernel_rfl) (by kernel_rfl) (by kernel_rfl) (fun _ _ _ h => h) (by rfl) ?y86 (by assumption) ?_
  case y86 => (intro w hSw; unfold ParseS at hSw; go_simp; try with_reducible rfl)
  simp only [List.setIfInBounds_toArray, List.set_cons_zero, List.set_cons_succ]
  refine held_take (v := ?v89) 2 rfl (by kernel_rfl) (by kernel_rfl) (by kernel_rfl) (fun _ _ _ h => h) (by rfl) ?y89 (by assumption) ?_
  case y89 => (intro w hSw; unfold ParseS at hSw; go_simp; try with_reducible rfl)
  simp only [List.setIfInBounds_toArray, List.set_cons_zero, List.set_cons_succ]
  refine held_take (v := ?v92) 3 rfl (by kernel_rfl) (by kernel_rfl) (by kernel_rfl) (fun _ _ _ h => h) (by rfl) ?y92 (by assumption) ?_
  case y92 => (intro w hSw; unfold ParseS at hSw; go_simp; try with_reducible rfl)
  simp only [List.setIfInBounds_toArray, List.set_cons_zero, List.set_cons_succ]
  refine held_take (v := ?v95) 4 rfl (by kernel_rfl) (by kernel_rfl) (by kernel_rfl) (fun _ _ _ h => h) (by rfl) ?y95 (by assumption) ?_
  case y95 => (intro w hSw; unfold ParseS at hSw; go_simp; try with_reducible rfl)
  simp only [List.setIfInBounds_toArray, List.set_cons_zero, List.set_cons_succ]
  refine held_take (v := ?v98) 5 rfl (by kernel_rfl) (by kernel_rfl) (by kernel_rfl) (fun _ _ _ h => h) (by rfl) ?y98 (by assumption) ?_
  case y98 => (intro w hSw; unfold ParseS at hSw; go_simp; try with_reducible rfl)
  simp only [List.setIfInBounds_toArray, List.set_cons_zero, List.set_cons_succ]
  refine held_take (v := ?v101) 6 rfl (by kernel_rfl) (by kernel_rfl) (by kernel_rfl) (fun _ _ _ h => h) (by rfl) ?y101 (by assumption) ?_
  case y101 => (intro w hSw; unfold ParseS at hSw; go_simp; try with_reducible rfl)
  simp only [List.setIfInBounds_toArray, List.set_cons_zero, List.set_cons_succ]
  refine held_one 7 rfl (by kernel_rfl) (by rfl) (fun K hK => ?_)
  go_simp
  refine (HN.out _ ((G0.out _).drew)).mono ?_
  rintro e w' ⟨rfl, rfl⟩
  refine hK.out _ _ hHeld (fun hHeld => ?_)
  clear hK K
  refine held_take (v := ?v110) 8 rfl (by kernel_rfl) (by kernel_rfl) (by kernel_rfl) (fun _ _ _ h => h) (by rfl) ?y110 (by assumption) ?_
  case y110 => (intro w hSw; unfold ParseS at hSw; go_simp; try with_reducible rfl)
  simp only [List.setIfInBounds_toArray, List.set_cons_zero, List.set_cons_succ]
  refine held_take (v := ?v113) 9 rfl (by kernel_rfl) (by kernel_rfl) (by kernel_rfl) (fun _ _ _ h => h) (by rfl) ?y113 (by assumption) ?_
  case y113 => (intro w hSw; unfold ParseS at hSw; go_simp; try with_reducible rfl)
  simp only [List.setIfInBounds_toArray, List.set_cons_zero, List.set_cons_succ]
  refine wpAnyH_done (by kernel_rfl) ?_ _
  refine NoPanic.normal ?_
  clear hHeld hw1 HN
  have hg1 := heap_alloc_new w (.cells #[.int .u8 0, .int .i64 0, .int .u16 0, .bool false, .bool false, .int .i64 0, .int .u8 0, .int .u8 0, .int .u8 0, .int .u8 0, .int .u8 0, .int .u8 0, .int .u8 0, .int .u8 0, .int .u8 0, .int .u8 0, .string ⟨#[]⟩] 27)
  have hb1 := (G0.out (.cells #[.int .u8 0, .int .i64 0, .int .u16 0, .bool false, .bool false, .int .i64 0, .int .u8 0, .int .u8 0, .int .u8 0, .int .u8 0, .int .u8 0, .int .u8 0, .int .u8 0, .int .u8 0, .int .u8 0, .int .u8 0, .string ⟨#[]⟩] 27)).drew
  have hg2 : (w.alloc (.cells #[.int .u8 0, .int .i64 0, .int .u16 0, .bool false, .bool false, .int .i64 0, .int .u8 0, .int .u8 0, .int .u8 0, .int .u8 0, .int .u8 0, .int .u8 0, .int .u8 0, .int .u8 0, .int .u8 0, .int .u8 0, .string ⟨#[]⟩] 27)).drew.heap[w.heap.size]? = _ := hg1
  clear hg1 c0
  generalize (w.alloc (.cells #[.int .u8 0, .int .i64 0, .int .u16 0, .bool false, .bool false, .int .i64 0, .int .u8 0, .int .u8 0, .int .u8 0, .int .u8 0, .int .u8 0, .int .u8 0, .int .u8 0, .int .u8 0, .int .u8 0, .int .u8 0, .string ⟨#[]⟩] 27)).drew = w1 at *
  generalize hZr : (#[.int .u8 0, .int .i64 0, .int .u16 0, .bool false, .bool false, .int .i64 0, .int .u8 0, .int .u8 0, .int .u8 0, .int .u8 0, .int .u8 0, .int .u8 0, .int .u8 0, .int .u8 0, .int .u8 0, .int .u8 0, .string ⟨#[]⟩] : Array Value) = zr at hg2
  have HZr : Hid (zr.size = 17) := by rw [← hZr]; rfl
  clear hZr
  have HG2 := Lib.hid hg2
  have HB1 := Lib.hid hb1
  clear hg2 hb1
  by_cases hC : Z < 20 ∨ l.length < Z ∨ wordAt l 2 < Z ∨ l.length < wordAt l 2
  · have e1 : ip4C l = 13 := by rw [EC.out, if_pos hC]
    have e2 : ip4H l = hdrZero := by unfold ip4H; rw [e1]; rfl
    have E1 := Lib.hid e1
    have E2 := Lib.hid e2
    clear e1 e2 hyl hx1 hx2
    generalize wordAt l 2 = A at *
    have hC2 : Z < 20 ∨ (¬ Z < 20 ∧ l.length < Z) ∨ (¬ Z < 20 ∧ ¬ l.length < Z ∧ A < Z) ∨ (¬ Z < 20 ∧ ¬ l.length < Z ∧ ¬ A < Z ∧ l.length < A) := by omega
    clear hC
    rcases hC2 with hC | ⟨hC0, hC⟩ | ⟨hC0, hC1, hC⟩ | ⟨hC0, hC1, hC2, hC⟩
    all_goals
      go_wp2_with (refine wpList_store_hdr rfl (.tmp 2) (.tmp 48) rfl w.heap.size hdrZero _ rfl rfl HG2.out HZr.out ?_)
      refine bodyPost_ret (results_hdr2 Try.results10 _ _ w.heap.size hdrZero rfl (setRow_heap _ _ _ _ _ _ HG2.out)) rfl ⟨?_, below_setRow HB1.out (Nat.le_refl _) _⟩
      rw [E1.out, E2.out]; rfl
  · have hz20 : 20 ≤ Z := by omega
    have hzl : Z ≤ l.length := by omega
    have hzA : Z ≤ wordAt l 2 := by omega
    have hAl : wordAt l 2 ≤ l.length := by omega
    have hz60 : Z ≤ 60 := by have := HZ.out; omega
    have i1 : IsB w1 (.slice (some ⟨b, off, none⟩) Z cap) (l.take Z) := (HV.out.below HB1.out).head hzl
    have I1 := Lib.hid i1
    have hl1 : (l.take Z).length = Z := by rw [List.length_take]; omega
    have HCk := Lib.hid (check_any _ _ _ (rows_one w1 w1.heap.size rfl _ _ i1) (by simp; omega))
    rw [show ([l.take Z] : List (List UInt8)).flatten = l.take Z by simp] at HCk
    have HR := Lib.hid (fun W (hb : Below w1.heap.size w1 W) => read_any _ _ _ _ W (I1.out.below hb) (by omega) (by omega))
    rw [read_take l Z EHL.out hz20] at HR
    have EC2 := EC.out
    rw [if_neg hC] at EC2
    have zN : ((Z : Int)).toNat = Z := Int.toNat_natCast Z
    have zc : (Z : Int) ≤ (cap : Int) := by omega
    clear i1 hl1 hC hyl hx1 hx2
    generalize wordAt l 2 = A at *
    generalize hT : fold16 (wsum false (l.take Z)) = T at *
    by_cases hs : T = 65535
    · have e1 : ip4C l = 0 := by rw [EC2, if_neg (by simp [hs])]
      have e2 : ip4H l = ip4R l := by unfold ip4H; rw [e1]; rfl
      rw [show ((T : Int) == 65535) = true by simp [hs]] at HCk
      have E1 := Lib.hid e1
      have E2 := Lib.hid e2
      clear e1 e2 EC2 hT hs EC
      generalize ip4R l = R at *
      go_wp2_with (go_at_call 21; refine HCk.out.mono ?_; rintro e w2 ⟨rfl, b2⟩; refine Hid.out ?_)
      refine Lib.hid ?_
      have B2 := Lib.hid (below_up ((Below.refl _ _).alloc (Nat.le_refl _) _) b2 (by simp))
      clear b2
      go_wp2_with (go_at_call 22; refine (HR.out _ B2.out).mono ?_; rintro e w3 ⟨rfl, b3⟩; refine Hid.out ?_)
      refine Lib.hid ?_
      have B3 := Lib.hid (below_up B2.out b3 B2.out.size)
      have HG3 := Lib.hid ((B3.out.block w.heap.size (Array.getElem?_eq_some_iff.1 HG2.out).1).trans HG2.out)
      have B4 := Lib.hid (below_up HB1.out B3.out HB1.out.size)
      clear b3
      go_wp2_with (refine wpList_store_hdr rfl (.tmp 2) (.tmp 59) rfl w.heap.size R _ rfl rfl HG3.out HZr.out ?_)
      refine bodyPost_ret (results_hdr2 Try.results10 _ _ w.heap.size R rfl (setRow_heap _ _ _ _ _ _ HG3.out)) rfl ⟨?_, below_setRow B4.out (Nat.le_refl _) _⟩
      rw [E1.out, E2.out]; rfl
    · have e1 : ip4C l = 14 := by rw [EC2, if_pos hs]
      have e2 : ip4H l = hdrZero := by unfold ip4H; rw [e1]; rfl
      rw [show ((T : Int) == 65535) = false by simp; omega] at HCk
      have E1 := Lib.hid e1
      have E2 := Lib.hid e2
      clear e1 e2 EC2 hT hs EC
      go_wp2_with (go_at_call 21; refine HCk.out.mono ?_; rintro e w2 ⟨rfl, b2⟩; refine Hid.out ?_)
      refine Lib.hid ?_
      have B2 := Lib.hid (below_up ((Below.refl _ _).alloc (Nat.le_refl _) _) b2 (by simp))
      have HG3 := Lib.hid ((B2.out.block w.heap.size (Array.getElem?_eq_some_iff.1 HG2.out).1).trans HG2.out)
      have B4 := Lib.hid (below_up HB1.out B2.out HB1.out.size)
      clear b2
      go_wp2_with (refine wpList_store_hdr rfl (.tmp 2) (.tmp 55) rfl w.heap.size hdrZero _ rfl rfl HG3.out HZr.out ?_)
      refine bodyPost_ret (results_hdr2 Try.results10 _ _ w.heap.size hdrZero rfl (setRow_heap _ _ _ _ _ _ HG3.out)) rfl ⟨?_, below_setRow B4.out (Nat.le_refl _) _⟩
      rw [E1.out, E2.out]; rfl

theorem parse_any (a : Option Addr) (n cap : Nat) (l : List UInt8) (w : World) (hv : IsB w (.slice a n cap) l) (hlim : l.length ≤ 1000000) :
    Calls Try.prog 10 #[.slice a n cap] w fun r w' => r = .returned (.tuple #[(ip4H l).val, .int .i64 (ip4C l)]) ∧ Below w.heap.size w w' := by
  by_cases h20 : l.length < 20
  · have e1 : ip4C l = 10 := by unfold ip4C; rw [if_pos h20]
    have e2 : ip4H l = hdrZero := by unfold ip4H; rw [e1]; rfl
    rw [e1, e2]
    exact parse_short a n cap l w hv h20
  · have ex : byteAt l 0 = ((l.getD 0 0).toNat : Int) := rfl
    by_cases hx : byteAt l 0 < 64 ∨ 79 < byteAt l 0
    · have e1 : ip4C l = 12 := by unfold ip4C; rw [if_neg h20, if_pos (by omega)]
      have e2 : ip4H l = hdrZero := by unfold ip4H; rw [e1]; rfl
      rw [e1, e2]
      exact parse_version a n cap l w hv (by omega) hx
    · exact parse_more a n cap l w hv (by omega) hlim (by omega) (by omega)
end Go.Proofs.Ytchkbdgoghcgcaa
