/- The document's ip6: Parse, Body. Proved: what each returns, for every text (of at most a million bytes). -/
import Derived.Test.YtemocbcibnccpaaSx1
namespace Go.Proofs.Ytemocbcibnccpaa
open Go Go.RowKit

theorem exec_build_hdr6 {ρ : Operand → Value} {o : Oper} {W : World} (x0 x1 x2 x3 x4 x5 x6 : Operand) (ho : o.op = .build 26 #[(0, x0), (1, x1), (2, x2), (3, x3), (4, x4), (5, x5), (6, x6)]) (h : Hdr6) (f : h.wide)
    (h0 : ρ x0 = .int .u8 (h.cls.toNat : Int)) (h1 : ρ x1 = .int .i64 h.flow) (h2 : ρ x2 = .int .i64 h.len) (h3 : ρ x3 = .int .u8 (h.next.toNat : Int)) (h4 : ρ x4 = .int .u8 (h.ttl.toNat : Int)) (h5 : ρ x5 = arrV h.src) (h6 : ρ x6 = arrV h.dst) :
    (execOp ρ o).run Try.prog W = .ok (.value h.val) W := by
  unfold execOp
  have hb := run_build (P := Try.prog) W 26 #[(0, ρ x0), (1, ρ x1), (2, ρ x2), (3, ρ x3), (4, ρ x4), (5, ρ x5), (6, ρ x6)] h.cells (by rw [h0, h1, h2, h3, h4, h5, h6]; exact built_hdr6 h f)
  simp only [ho, List.map_toArray, List.map_cons, List.map_nil, Sem.run_bind, hb, Result.andThen_ok]
  rfl

set_option maxHeartbeats 1000000 in
theorem rparse6_short (l : List UInt8) (w : World) (h40 : l.length < 40) :
    Calls Try.prog 9 #[.string ⟨l.toArray⟩] w fun r w' => r = .returned (.tuple #[hdrZero6.val, .int .i64 10]) ∧ Below w.heap.size w w' := by
  have hz : (⟨l.toArray⟩ : ByteArray).size = l.length := by simp [ByteArray.size]
  go_enter Try.func9, Try.ntmps9
  go_wp2_with (refine wpList_store_new6 rfl (.tmp 2) (.tmp 9) rfl hdrZero6 zero6_wide _ rfl rfl rfl ?_)
  exact bodyPost_ret (results_hdr62 Try.results9 _ _ w.heap.size hdrZero6 zero6_wide rfl (heap_alloc_new w _)) rfl ⟨rfl, (Below.refl _ _).alloc (Nat.le_refl _) _⟩

set_option maxHeartbeats 1000000 in
theorem rparse6_version (l : List UInt8) (w : World) (h40 : 40 ≤ l.length) (hlim : l.length ≤ 1000000) (hx : ¬ ip6N l / 268435456 = 6) :
    Calls Try.prog 9 #[.string ⟨l.toArray⟩] w fun r w' => r = .returned (.tuple #[hdrZero6.val, .int .i64 12]) ∧ Below w.heap.size w w' := by
  have hz : (⟨l.toArray⟩ : ByteArray).size = l.length := by simp [ByteArray.size]
  have HN := Lib.hid (fun W => rnum6_any l 0 4 W hlim (by omega) (by omega) (by omega))
  have hlt := (ip6N_first l h40).2
  rw [show numAt l 0 4 = ip6N l from rfl] at HN
  generalize ip6N l = N at *
  have hx2 : ¬ (N : Int) / 268435456 = 6 := by omega
  clear hx
  go_enter Try.func9, Try.ntmps9
  go_wp2_with (first | (go_at_call 17; refine (HN.out _).mono ?_; rintro e w' ⟨rfl, rfl⟩) | (refine wpList_store_new6 rfl (.tmp 2) (.tmp 15) rfl hdrZero6 zero6_wide _ rfl rfl rfl ?_))
  exact bodyPost_ret (results_hdr62 Try.results9 _ _ w.heap.size hdrZero6 zero6_wide rfl (heap_alloc_new w _)) rfl ⟨rfl, (Below.refl _ _).alloc (Nat.le_refl _) _⟩

set_option maxRecDepth 100000 in
set_option maxHeartbeats 4000000 in
theorem rparse6_more (l : List UInt8) (w : World) (h40 : 40 ≤ l.length) (hlim : l.length ≤ 1000000) (hx : ip6N l / 268435456 = 6) :
    Calls Try.prog 9 #[.string ⟨l.toArray⟩] w fun r w' => r = .returned (.tuple #[(if l.length < wordAt l 4 + 40 then hdrZero6 else ip6R l).val, .int .i64 (if l.length < wordAt l 4 + 40 then 13 else 0)]) ∧ Below w.heap.size w w' := by
  have hz : (⟨l.toArray⟩ : ByteArray).size = l.length := by simp [ByteArray.size]
  have HN := Lib.hid (fun W => rnum6_any l 0 4 W hlim (by omega) (by omega) (by omega))
  have HM := Lib.hid (fun W => rnum6_any l 4 2 W hlim (by omega) (by omega) (by omega))
  have hlt := (ip6N_first l h40).2
  rw [numAt_two l 4 (by omega)] at HM
  rw [show numAt l 0 4 = ip6N l from rfl] at HN
  have hwl := wordAt_le l 4
  have HW := Lib.hid (ip6R_wide l h40)
  have HA8 := Lib.hid (fun W => raddr_any (l.drop 8) W (by rw [List.length_drop]; omega))
  have HA24 := Lib.hid (fun W => raddr_any (l.drop 24) W (by rw [List.length_drop]; omega))
  have x8 : (⟨l.toArray⟩ : ByteArray).extract 8 l.length = ⟨(l.drop 8).toArray⟩ := by rw [extract_mk, List.take_of_length_le (by simp)]
  have x24 : (⟨l.toArray⟩ : ByteArray).extract 24 l.length = ⟨(l.drop 24).toArray⟩ := by rw [extract_mk, List.take_of_length_le (by simp)]
  have L1 : Hid (6 < l.length ∧ 7 < l.length) := show 6 < l.length ∧ 7 < l.length by omega
  have hN := hlt
  have HC1 : Hid ((ip6R l).cls.toNat = ip6N l / 1048576 % 256) := by
    show (UInt8.ofNat (ip6N l / 1048576 % 256)).toNat = _
    rw [UInt8.toNat_ofNat_of_lt' (show ip6N l / 1048576 % 256 < 256 by omega)]
  have HC2 : Hid ((ip6R l).flow = ((ip6N l % 1048576 : Nat) : Int)) := rfl
  have HC3 : Hid ((ip6R l).len = (wordAt l 4 : Int)) := rfl
  have HC4 : Hid (byteAt l 6 = ((ip6R l).next.toNat : Int)) := rfl
  have HC5 : Hid (byteAt l 7 = ((ip6R l).ttl.toNat : Int)) := rfl
  have HC6 : Hid ((l.drop 8).take 16 = (ip6R l).src) := rfl
  have HC7 : Hid ((l.drop 24).take 16 = (ip6R l).dst) := rfl
  rw [HC6.out] at HA8
  rw [HC7.out] at HA24
  generalize ip6R l = R at *
  generalize ip6N l = N at *
  generalize wordAt l 4 = A at *
  have hx2 : (N : Int) / 268435456 = 6 := by omega
  clear hx HC6 HC7
  go_enter Try.func9, Try.ntmps9
  go_wp2_with (go_at_call 17; refine (HN.out _).mono ?_; rintro e w' ⟨rfl, rfl⟩; refine Hid.out ?_)
  refine Lib.hid ?_
  go_wp2_with (go_at_call 17; refine (HM.out _).mono ?_; rintro e w' ⟨rfl, rfl⟩; refine Hid.out ?_)
  refine Lib.hid ?_
  have hg2 : (w.alloc (.cells hdrZero6.cells 26)).heap[w.heap.size]? = some (.cells hdrZero6.cells 26 (0, 0)) := heap_alloc_new w _
  have hb1 : Below w.heap.size w (w.alloc (.cells hdrZero6.cells 26)) := (Below.refl _ _).alloc (Nat.le_refl _) _
  rw [show hdrZero6.cells = (#[.int .u8 0, .int .i64 0, .int .i64 0, .int .u8 0, .int .u8 0, .int .u8 0, .int .u8 0, .int .u8 0, .int .u8 0, .int .u8 0, .int .u8 0, .int .u8 0, .int .u8 0, .int .u8 0, .int .u8 0, .int .u8 0, .int .u8 0, .int .u8 0, .int .u8 0, .int .u8 0, .int .u8 0, .int .u8 0, .int .u8 0, .int .u8 0, .int .u8 0, .int .u8 0, .int .u8 0, .int .u8 0, .int .u8 0, .int .u8 0, .int .u8 0, .int .u8 0, .int .u8 0, .int .u8 0, .int .u8 0, .int .u8 0, .int .u8 0] : Array Value) from rfl] at hg2 hb1
  generalize (w.alloc _) = w1 at *
  have HG2 := Lib.hid hg2
  have HB1 := Lib.hid hb1
  clear hg2 hb1 HN HM hx2
  by_cases hC : l.length < A + 40
  · go_wp2_with (refine wpList_store_hdr6 rfl (.tmp 2) (.tmp 23) rfl w.heap.size hdrZero6 zero6_wide _ rfl rfl HG2.out rfl ?_)
    exact bodyPost_ret (results_hdr62 Try.results9 _ _ w.heap.size hdrZero6 zero6_wide rfl (setRow_heap _ _ _ _ _ _ HG2.out)) rfl ⟨rfl, below_setRow HB1.out (Nat.le_refl _) _⟩
  · go_wp2_with fail
    have p8 : (8 : Int) ≤ (l.length : Int) := by omega
    have p24 : (24 : Int) ≤ (l.length : Int) := by omega
    refine wp_region_noPanic ?_
    refine wp_region_held_drew (S := fun W => Below w.heap.size w W) (by kernel_rfl) HB1.out.drew (fun hHeld => ?_)
    refine held_take (v := ?v89) 0 rfl (by kernel_rfl) (by kernel_rfl) (by kernel_rfl) (fun _ _ _ h => h) (by rfl) ?y89 (by assumption) ?_
    case y89 => (intro w hSw; (try dsimp only at hSw); go_simp; (try with_reducible rfl); (try omega))
    simp only [List.setIfInBounds_toArray, List.set_cons_zero, List.set_cons_succ]
    refine held_take (v := ?v92) 1 rfl (by kernel_rfl) (by kernel_rfl) (by kernel_rfl) (fun _ _ _ h => h) (by rfl) ?y92 (by assumption) ?_
    case y92 => (intro w hSw; (try dsimp only at hSw); go_simp; (try with_reducible rfl); (try omega))
    simp only [List.setIfInBounds_toArray, List.set_cons_zero, List.set_cons_succ]
    refine held_take (v := ?v95) 2 rfl (by kernel_rfl) (by kernel_rfl) (by kernel_rfl) (fun _ _ _ h => h) (by rfl) ?y95 (by assumption) ?_
    case y95 => (intro w hSw; (try dsimp only at hSw); go_simp; (try with_reducible rfl); (try omega))
    simp only [List.setIfInBounds_toArray, List.set_cons_zero, List.set_cons_succ]
    refine held_take (v := ?v98) 3 rfl (by kernel_rfl) (by kernel_rfl) (by kernel_rfl) (fun _ _ _ h => h) (by rfl) ?y98 (by assumption) ?_
    case y98 => (intro w hSw; (try dsimp only at hSw); go_simp; (try with_reducible rfl); (try omega))
    simp only [List.setIfInBounds_toArray, List.set_cons_zero, List.set_cons_succ]
    refine held_take (v := ?v101) 4 rfl (by kernel_rfl) (by kernel_rfl) (by kernel_rfl) (fun _ _ _ h => h) (by rfl) ?y101 (by assumption) ?_
    case y101 => (intro w hSw; (try dsimp only at hSw); go_simp; (try with_reducible rfl); (try omega))
    simp only [List.setIfInBounds_toArray, List.set_cons_zero, List.set_cons_succ]
    refine held_take (v := ?v104) 5 rfl (by kernel_rfl) (by kernel_rfl) (by kernel_rfl) (fun _ _ _ h => h) (by rfl) ?y104 (by assumption) ?_
    case y104 => (intro w hSw; (try dsimp only at hSw); go_simp; (try with_reducible rfl); (try omega))
    simp only [List.setIfInBounds_toArray, List.set_cons_zero, List.set_cons_succ]
    refine held_take (v := ?v107) 6 rfl (by kernel_rfl) (by kernel_rfl) (by kernel_rfl) (fun _ _ _ h => h) (by rfl) ?y107 (by assumption) ?_
    case y107 => (intro w hSw; (try dsimp only at hSw); go_simp; (try with_reducible rfl); (try omega))
    simp only [List.setIfInBounds_toArray, List.set_cons_zero, List.set_cons_succ]
    refine held_take (v := ?v110) 7 rfl (by kernel_rfl) (by kernel_rfl) (by kernel_rfl) (fun _ _ _ h => h) (by rfl) ?y110 (by assumption) ?_
    case y110 => (intro w hSw; (try dsimp only at hSw); go_simp; (try with_reducible rfl); (try omega))
    simp only [List.setIfInBounds_toArray, List.set_cons_zero, List.set_cons_succ]
    refine held_take (v := ?v113) 9 rfl (by kernel_rfl) (by kernel_rfl) (by kernel_rfl) (fun _ _ _ h => h) (by rfl) ?y113 (by assumption) ?_
    case y113 => (intro w hSw; (try dsimp only at hSw); go_simp; (try with_reducible rfl); (try omega))
    simp only [List.setIfInBounds_toArray, List.set_cons_zero, List.set_cons_succ]
    refine held_take (v := ?v116) 11 rfl (by kernel_rfl) (by kernel_rfl) (by kernel_rfl) (fun _ _ _ h => h) (by rfl) ?y116 (by assumption) ?_
    case y116 => (intro w hSw; (try dsimp only at hSw); go_simp; (try with_reducible rfl); (try omega))
    simp only [List.setIfInBounds_toArray, List.set_cons_zero, List.set_cons_succ]
    refine held_take (v := ?v119) 12 rfl (by kernel_rfl) (by kernel_rfl) (by kernel_rfl) (fun _ _ _ h => h) (by rfl) ?y119 (by assumption) ?_
    case y119 => (intro w hSw; (try dsimp only at hSw); go_simp; (try with_reducible rfl); (try omega))
    simp only [List.setIfInBounds_toArray, List.set_cons_zero, List.set_cons_succ]
    refine held_take (v := ?v122) 14 rfl (by kernel_rfl) (by kernel_rfl) (by kernel_rfl) (fun _ _ _ h => h) (by rfl) ?y122 (by assumption) ?_
    case y122 => (intro w hSw; (try dsimp only at hSw); go_simp; (try with_reducible rfl); (try omega))
    simp only [List.setIfInBounds_toArray, List.set_cons_zero, List.set_cons_succ]
    refine held_take (v := ?v125) 15 rfl (by kernel_rfl) (by kernel_rfl) (by kernel_rfl) (fun _ _ _ h => h) (by rfl) ?y125 (by assumption) ?_
    case y125 => (intro w hSw; (try dsimp only at hSw); go_simp; (try with_reducible rfl); (try omega))
    simp only [List.setIfInBounds_toArray, List.set_cons_zero, List.set_cons_succ]
    refine held_take (v := .int .u8 (byteAt l 6)) 8 rfl (by kernel_rfl) (by kernel_rfl) (by kernel_rfl) (fun _ _ _ h => h) (by rfl) (fun W _ => exec_index (.tmp 31) 6 6 rfl l rfl rfl rfl L1.out.1) (by assumption) ?_
    simp only [List.setIfInBounds_toArray, List.set_cons_zero, List.set_cons_succ]
    refine held_take (v := .int .u8 (byteAt l 7)) 10 rfl (by kernel_rfl) (by kernel_rfl) (by kernel_rfl) (fun _ _ _ h => h) (by rfl) (fun W _ => exec_index (.tmp 33) 7 7 rfl l rfl rfl rfl L1.out.2) (by assumption) ?_
    simp only [List.setIfInBounds_toArray, List.set_cons_zero, List.set_cons_succ]
    refine held_one 13 rfl (by kernel_rfl) (by rfl) (fun K hK => ?_)
    go_simp
    refine (HA8.out _).mono ?_
    rintro e w3 ⟨rfl, b3⟩
    have g3 : Below w1.heap.size w1 w3 := below_up (Below.refl _ _).drew b3 (Nat.le_refl _)
    refine hK.out _ _ (below_up HB1.out g3 HB1.out.size) (fun hHeld3 => ?_)
    clear hK K b3
    refine held_one 16 rfl (by kernel_rfl) (by rfl) (fun K hK => ?_)
    go_simp
    refine (HA24.out _).mono ?_
    rintro e w4 ⟨rfl, b4⟩
    have g4 : Below w1.heap.size w1 w4 := below_up g3 b4 g3.size
    refine hK.out _ _ (below_up HB1.out g4 HB1.out.size) (fun hHeld4 => ?_)
    clear hK K b4 g3 hHeld3
    have q1 : IntKind.i64.wrap ((N : Int) / 1048576) = ((N / 1048576 : Nat) : Int) := by rw [IntKind.wrap_i64]; omega
    have k0 : Value.int .u8 (IntKind.u8.wrap ((IntKind.i64.wrap ((N : Int) / 1048576)).tmod 256)) = .int .u8 (R.cls.toNat : Int) := by
      rw [HC1.out, q1, Int.tmod_eq_emod_of_nonneg (by omega), IntKind.wrap_u8]
      congr 1
      omega
    have k1 : Value.int .i64 ((N : Int).tmod 1048576) = .int .i64 R.flow := by
      rw [HC2.out, Int.tmod_eq_emod_of_nonneg (by omega)]
      congr 1
    have k2 : Value.int .i64 (A : Int) = .int .i64 R.len := by rw [HC3.out]
    have k3 : Value.int .u8 (byteAt l 6) = .int .u8 (R.next.toNat : Int) := by rw [HC4.out]
    have k4 : Value.int .u8 (byteAt l 7) = .int .u8 (R.ttl.toNat : Int) := by rw [HC5.out]
    refine held_take (v := R.val) 17 rfl (by kernel_rfl) (by kernel_rfl) (by kernel_rfl) (fun _ _ _ h => h) (by rfl) (fun W _ => exec_build_hdr6 (.tmp 27) (.tmp 29) (.tmp 30) (.tmp 32) (.tmp 34) (.tmp 37) (.tmp 40) rfl R HW.out k0 k1 k2 k3 k4 rfl rfl) (by assumption) ?_
    simp only [List.setIfInBounds_toArray, List.set_cons_zero, List.set_cons_succ]
    have hg4 := (g4.block w.heap.size (Array.getElem?_eq_some_iff.1 HG2.out).1).trans HG2.out
    refine held_none 18 rfl (by kernel_rfl) (by rfl) (fun K hK => ?_)
    refine wp_store_row _ (.tmp 2) (.tmp 41) rfl w.heap.size R.cells rfl rfl _ _ hg4 (hdr6_infoC HW.out) (by rw [hdr6_size HW.out]; rfl) (hdr6_one _) ?_
    have gS := below_setRow (below_up HB1.out g4 HB1.out.size) (Nat.le_refl _) R.cells
    have gH := setRow_heap _ _ _ R.cells _ _ hg4
    refine hK.out _ _ gS (fun hHeld5 => ?_)
    clear hK K hHeld4 k0 k1 k2 k3 k4
    have GS := Lib.hid gS
    have GH := Lib.hid gH
    clear gS gH hg4 g4
    generalize (w4.setRow w.heap.size R.cells) = w5 at *
    refine held_take (v := ?v170) 19 rfl (by kernel_rfl) (by kernel_rfl) (by kernel_rfl) (fun _ _ _ h => h) (by rfl) ?y170 (by assumption) ?_
    case y170 => (intro w hSw; (try dsimp only at hSw); go_simp; (try with_reducible rfl); (try omega))
    simp only [List.setIfInBounds_toArray, List.set_cons_zero, List.set_cons_succ]
    refine wpAnyH_done (by kernel_rfl) ?_ _
    refine NoPanic.normal ?_
    clear hHeld5 hHeld
    go_wp2
    exact bodyPost_ret (results_hdr62 Try.results9 _ _ w.heap.size R HW.out rfl GH.out) rfl ⟨rfl, GS.out⟩

theorem rparse6_any (l : List UInt8) (w : World) (hlim : l.length ≤ 1000000) :
    Calls Try.prog 9 #[.string ⟨l.toArray⟩] w fun r w' => r = .returned (.tuple #[(ip6H l).val, .int .i64 (ip6C l)]) ∧ Below w.heap.size w w' := by
  by_cases h40 : l.length < 40
  · have e1 : ip6C l = 10 := by unfold ip6C; rw [if_pos h40]
    have e2 : ip6H l = hdrZero6 := by unfold ip6H; rw [e1]; rfl
    rw [e1, e2]
    exact rparse6_short l w h40
  · by_cases hx : ip6N l / 268435456 = 6
    · have e1 : ip6C l = if l.length < wordAt l 4 + 40 then 13 else 0 := by unfold ip6C; rw [if_neg h40, if_neg (by omega)]
      have e2 : ip6H l = if l.length < wordAt l 4 + 40 then hdrZero6 else ip6R l := by
        unfold ip6H
        rw [e1]
        by_cases hc : l.length < wordAt l 4 + 40
        · simp [hc]
        · simp [hc]
      rw [e1, e2]
      exact rparse6_more l w (by omega) hlim hx
    · have e1 : ip6C l = 12 := by unfold ip6C; rw [if_neg h40, if_pos (by omega)]
      have e2 : ip6H l = hdrZero6 := by unfold ip6H; rw [e1]; rfl
      rw [e1, e2]
      exact rparse6_version l w (by omega) hlim hx

set_option maxRecDepth 100000 in
set_option maxHeartbeats 2000000 in
theorem rbody6_any (l : List UInt8) (w : World) (hlim : l.length ≤ 1000000) :
    Calls Try.prog 11 #[.string ⟨l.toArray⟩] w fun r w' => r = .returned (.string ⟨(ip6B l).toArray⟩) ∧ Below w.heap.size w w' := by
  have HP := Lib.hid (rparse6_any l w hlim)
  have HW := Lib.hid (ip6H_wide l)
  by_cases h0 : ip6C l = 0
  · obtain ⟨e1, e2, e3, f⟩ := ip6_ok h0
    have hz : (⟨l.toArray⟩ : ByteArray).size = l.length := by simp [ByteArray.size]
    have eB : ip6B l = (l.drop 40).take (wordAt l 4) := by unfold ip6B; rw [if_pos h0]
    have xB : (⟨l.toArray⟩ : ByteArray).extract 40 (40 + wordAt l 4) = ⟨(ip6B l).toArray⟩ := by rw [extract_mk, eB]; congr 3; omega
    have HL : Hid ((ip6R l).len = (wordAt l 4 : Int)) := rfl
    have zN : ((40 : Int) + (wordAt l 4 : Int)).toNat = 40 + wordAt l 4 := by omega
    rw [h0, e1] at HP
    rw [e1] at HW
    clear h0 e1 eB f
    generalize ip6R l = R at *
    generalize ip6B l = B at *
    generalize wordAt l 4 = A at *
    have q1 : (40 : Int) ≤ 40 + (A : Int) := by omega
    have q2 : 40 + (A : Int) ≤ (l.length : Int) := by omega
    go_enter Try.func11, Try.ntmps11
    go_wp2_with (go_at_call 9; refine HP.out.mono ?_; rintro e w2 ⟨rfl, b2⟩; refine Hid.out ?_)
    refine Lib.hid ?_
    have c2 : (w2.alloc (.cells R.cells 26)).cell? ⟨w2.heap.size, 2, none⟩ = some (.int .i64 (A : Int)) := by rw [hdr6_cell (heap_alloc_new w2 _) 2, ← HL.out]; rfl
    have B3 := Lib.hid (b2.alloc b2.size (.cells R.cells 26))
    clear b2
    go_wp2_with (refine wpList_store_new6 rfl (.tmp 3) (.tmp 8) rfl R HW.out _ rfl rfl rfl ?_)
    go_ret
    exact ⟨rfl, B3.out⟩
  · have eB : ip6B l = [] := by unfold ip6B; rw [if_neg h0]
    rw [eB]
    clear eB
    generalize ip6H l = R at *
    generalize ip6C l = C at *
    go_enter Try.func11, Try.ntmps11
    go_wp2_with (go_at_call 9; refine HP.out.mono ?_; rintro e w2 ⟨rfl, b2⟩; refine Hid.out ?_)
    refine Lib.hid ?_
    go_wp2_with (refine wpList_store_new6 rfl (.tmp 3) (.tmp 8) rfl R HW.out _ rfl rfl rfl ?_)
    go_ret
    exact ⟨rfl, b2.alloc b2.size _⟩
end Go.Proofs.Ytemocbcibnccpaa
