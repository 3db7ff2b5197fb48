/- The document's ip4: Body, Ttl. Proved: what each returns, for every text (of at most a million bytes). -/
import Derived.Test.YtchkbdgoghcgcaaIpR2
import Derived.Test.YtchkbdgoghcgcaaRef2
import Derived.Test.YtchkbdgoghcgcaaOrd
namespace Go.Proofs.Ytchkbdgoghcgcaa
open Go Go.RowKit

theorem str_append (a b : List UInt8) : (⟨a.toArray⟩ : ByteArray) ++ ⟨b.toArray⟩ = ⟨(a ++ b).toArray⟩ := by
  apply ByteArray.ext
  simp

set_option maxRecDepth 100000 in
set_option maxHeartbeats 2000000 in
theorem rbody_any (l : List UInt8) (w : World) (hlim : l.length ≤ 1000000) :
    Calls Try.prog 13 #[.string ⟨l.toArray⟩] w fun r w' => r = .returned (.string ⟨(ip4B l).toArray⟩) ∧ Below w.heap.size w w' := by
  have HP := Lib.hid (rparse_any l w hlim)
  by_cases h0 : ip4C l = 0
  · obtain ⟨e1, e2, e3, e4, e5, e6, e7⟩ := ip4_ok h0
    have HS := Lib.hid (fun W => rsize_any (ip4R l) W (by have := e7; unfold Hdr.size at this; omega))
    have eB : (⟨l.toArray⟩ : ByteArray).extract (hlenN l) (wordAt l 2) = ⟨(ip4B l).toArray⟩ := by
      unfold ip4B
      rw [if_pos h0, extract_mk, List.drop_take]
    have hz : (⟨l.toArray⟩ : ByteArray).size = l.length := by simp [ByteArray.size]
    have hL : (ip4R l).len = (wordAt l 2 : Int) := rfl
    rw [h0, e1] at HP
    rw [e7] at HS
    have HL := Lib.hid hL
    clear h0 hL e1 e7
    generalize ip4R l = R at *
    generalize ip4B l = B at *
    generalize hlenN l = Z at *
    generalize wordAt l 2 = A at *
    go_enter Try.func13, Try.ntmps13
    go_wp2_with (go_at_call 11; refine HP.out.mono ?_; rintro e w2 ⟨rfl, b2⟩; refine Hid.out ?_)
    refine Lib.hid ?_
    go_wp2_with (refine wpList_store_new rfl (.tmp 3) (.tmp 8) rfl R _ rfl rfl rfl ?_)
    have hg := heap_alloc_new w2 (.cells R.cells 27)
    have HB3 := Lib.hid (b2.alloc b2.size (.cells R.cells 27))
    have hS := BodyS.of hg
    rw [HL.out] at hS
    have HSb : Hid (∀ W W', BodyS w2.heap.size R A W → Below W.heap.size W W' → BodyS w2.heap.size R A W') := fun W W' h hb => by
      have := HL.out
      rw [← this] at h ⊢
      exact h.below hb
    clear hg b2
    generalize (w2.alloc (.cells R.cells 27)) = w3 at *
    have q1 : (A : Int) ≤ (l.length : Int) := by omega
    have q2 : (Z : Int) ≤ (A : Int) := by omega
    have q3 : ((A : Int)).toNat = A := Int.toNat_natCast A
    have q4 : ((Z : Int)).toNat = Z := Int.toNat_natCast Z
    refine wp_region_noPanic ?_
    refine wp_region_held_drew (S := BodyS w2.heap.size R (A : Int)) (by kernel_rfl) hS (fun hHeld => ?_)
    refine held_take (v := ?v52) 0 rfl (by kernel_rfl) (by kernel_rfl) (by kernel_rfl) (fun _ _ _ h => h) (by rfl) ?y52 (by assumption) ?_
    case y52 => (intro w hSw; unfold BodyS at hSw; go_simp; try with_reducible rfl)
    simp only [List.setIfInBounds_toArray, List.set_cons_zero, List.set_cons_succ]
    refine held_take (v := R.val) 1 rfl (by kernel_rfl) (by kernel_rfl) (by kernel_rfl) (fun _ _ _ h => h) (by rfl) (fun W hSw => exec_load_hdr (.tmp 3) rfl w2.heap.size R rfl hSw.1) (by assumption) ?_
    simp only [List.setIfInBounds_toArray, List.set_cons_zero, List.set_cons_succ]
    refine held_take (v := ?v57) 3 rfl (by kernel_rfl) (by kernel_rfl) (by kernel_rfl) (fun _ _ _ h => h) (by rfl) ?y57 (by assumption) ?_
    case y57 => (intro w hSw; unfold BodyS at hSw; go_simp; try with_reducible rfl)
    simp only [List.setIfInBounds_toArray, List.set_cons_zero, List.set_cons_succ]
    refine held_take (v := ?v60) 4 rfl (by kernel_rfl) (by kernel_rfl) (by kernel_rfl) (fun _ _ _ h => h) (by rfl) ?y60 (by assumption) ?_
    case y60 => (intro w hSw; unfold BodyS at hSw; go_simp; try with_reducible rfl)
    simp only [List.setIfInBounds_toArray, List.set_cons_zero, List.set_cons_succ]
    refine held_one 2 rfl (by kernel_rfl) (by rfl) (fun K hK => ?_)
    go_simp
    refine (HS.out _).mono ?_
    rintro e w4 ⟨rfl, b4⟩
    have g4 : Below w.heap.size w w4 := below_up HB3.out.drew b4 HB3.out.size
    refine hK.out _ _ (HSb.out _ _ hHeld b4) (fun hHeld4 => ?_)
    clear hK K hHeld b4
    refine held_take (v := ?v70) 5 rfl (by kernel_rfl) (by kernel_rfl) (by kernel_rfl) (fun _ _ _ h => h) (by rfl) ?y70 (by assumption) ?_
    case y70 => (intro w hSw; unfold BodyS at hSw; go_simp; try with_reducible rfl)
    simp only [List.setIfInBounds_toArray, List.set_cons_zero, List.set_cons_succ]
    refine held_take (v := ?v73) 6 rfl (by kernel_rfl) (by kernel_rfl) (by kernel_rfl) (fun _ _ _ h => h) (by rfl) ?y73 (by assumption) ?_
    case y73 => (intro w hSw; unfold BodyS at hSw; go_simp; try with_reducible rfl)
    simp only [List.setIfInBounds_toArray, List.set_cons_zero, List.set_cons_succ]
    refine wpAnyH_done (by kernel_rfl) ?_ _
    refine NoPanic.normal ?_
    clear hHeld4
    go_wp2
    go_ret
    exact ⟨rfl, g4⟩
  · have eB : ip4B l = [] := by unfold ip4B; rw [if_neg h0]
    rw [eB]
    clear eB
    generalize ip4H l = R at *
    generalize ip4C l = C at *
    go_enter Try.func13, Try.ntmps13
    go_wp2_with (go_at_call 11; refine HP.out.mono ?_; rintro e w2 ⟨rfl, b2⟩; refine Hid.out ?_)
    refine Lib.hid ?_
    go_wp2_with (refine wpList_store_new rfl (.tmp 3) (.tmp 8) rfl R _ rfl rfl rfl ?_)
    go_ret
    exact ⟨rfl, b2.alloc b2.size _⟩

/-- The frame of Ttl's last line. -/
def ttlT (l : List UInt8) (q : Int) (g c8 c10 WD TN : Nat) (R : Hdr) (x : Nat → Value) : Array Value :=
  #[.string ⟨l.toArray⟩, .int .u8 q, undef, undef, x 15, x 16, .pointer (some ⟨g, 0, none⟩), .int .i64 0, .int .i64 (c8 : Int), .int .i64 (WD : Int), .int .i64 (TN : Int), .tuple #[R.val, .int .i64 0], .string ⟨l.toArray⟩, .tuple #[R.val, .int .i64 0], R.val, .int .i64 0, .int .i64 0,
    .bool false, undef, .string ⟨l.toArray⟩, .int .i64 (c8 : Int), .int .u8 q, .int .i64 q, .int .i64 (256 * q), .string ⟨l.toArray⟩, .int .u8 (byteAt l 9), .int .i64 (byteAt l 9), .int .i64 (WD : Int), .string ⟨l.toArray⟩, .int .i64 (c10 : Int), .int .i64 (c8 : Int), .int .i64 (WD : Int), .int .i64 (TN : Int),
    .string ⟨l.toArray⟩, .string ⟨(l.take 8).toArray⟩, .int .u8 q, .string ⟨l.toArray⟩, .int .u8 (byteAt l 9), x 5, x 6, x 7, .int .i64 (TN : Int), .int .u64 (IntKind.u64.wrap (TN : Int)), x 10, x 11, .string ⟨l.toArray⟩, .string ⟨(l.drop 12).toArray⟩, x 14]
def TtlF (l : List UInt8) (t p : UInt8) (TN : Nat) (i : Nat) (v : Value) (W : World) : Prop :=
  match i with
  | 5 => ∃ a c, v = .slice a 2 c ∧ IsB W (.slice a 2 c) [t, p]
  | 6 => v = .string ⟨[t, p].toArray⟩
  | 7 => v = .string ⟨(l.take 8 ++ [t, p]).toArray⟩
  | 10 => v = .string ⟨(lowB 2 TN).toArray⟩
  | 11 => v = .string ⟨(l.take 8 ++ [t, p] ++ lowB 2 TN).toArray⟩
  | 14 => v = .string ⟨(l.take 8 ++ [t, p] ++ lowB 2 TN ++ l.drop 12).toArray⟩
  | 15 => v = .string ⟨(l.take 8 ++ [t, p] ++ lowB 2 TN ++ l.drop 12).toArray⟩
  | 16 => v = .int .i64 0
  | _ => True
def ttlPend : List Nat := [5, 6, 7, 10, 11, 14, 15, 16]
theorem ttlF_mono (l : List UInt8) (t p : UInt8) (TN : Nat) : ∀ i v W W', i ∈ ttlPend → Below W.heap.size W W' → TtlF l t p TN i v W → TtlF l t p TN i v W' := by
  intro i v W W' hi hE hF
  simp only [ttlPend, List.mem_cons, List.not_mem_nil, or_false] at hi
  rcases hi with rfl | rfl | rfl | rfl | rfl | rfl | rfl | rfl
  · obtain ⟨a, c, h1, h2⟩ := hF
    exact ⟨a, c, h1, h2.below hE⟩
  all_goals exact hF

set_option maxRecDepth 100000 in
set_option maxHeartbeats 2000000 in
theorem rttl_any (l : List UInt8) (q : Int) (t : UInt8) (w : World) (hq : q = (t.toNat : Int)) (hlim : l.length ≤ 1000000) :
    Calls Try.prog 19 #[.string ⟨l.toArray⟩, .int .u8 q] w fun r w' => r = .returned (.tuple #[.string ⟨(ttlA l t).toArray⟩, .int .i64 (ip4C l)]) ∧ Below w.heap.size w w' := by
  have HP := Lib.hid (rparse_any l w hlim)
  by_cases h0 : ip4C l = 0
  · obtain ⟨e1, e2, e3, e4, e5, e6, e7⟩ := ip4_ok h0
    have HN10 := Lib.hid (fun W => rnum_any l 10 W hlim (by omega))
    have HN8 := Lib.hid (fun W => rnum_any l 8 W hlim (by omega))
    have ht := UInt8.toNat_lt t
    have hp := UInt8.toNat_lt (l.getD 9 0)
    have b10 := wordAt_le l 10
    have b8 := wordAt_le l 8
    have hT : turnN (wordAt l 10) (wordAt l 8) (256 * t.toNat + (l.getD 9 0).toNat) ≤ 65535 := by unfold turnN; omega
    have HT := Lib.hid (fun W => rturn_any (wordAt l 10) (wordAt l 8) (256 * t.toNat + (l.getD 9 0).toNat) W b10 b8 (by omega))
    have HBy := Lib.hid (fun W => rbytes_any (turnN (wordAt l 10) (wordAt l 8) (256 * t.toNat + (l.getD 9 0).toNat)) 2 W (by omega) (by omega))
    have L9 : Hid (9 < l.length) := show 9 < l.length by omega
    have hx9 : byteAt l 9 = ((l.getD 9 0).toNat : Int) := rfl
    have hz : (⟨l.toArray⟩ : ByteArray).size = l.length := by simp [ByteArray.size]
    have x8 : (⟨l.toArray⟩ : ByteArray).extract 0 8 = ⟨(l.take 8).toArray⟩ := by rw [extract_mk]; simp
    have x12 : (⟨l.toArray⟩ : ByteArray).extract 12 l.length = ⟨(l.drop 12).toArray⟩ := by rw [extract_mk, List.take_of_length_le (by simp)]
    have eA : ttlA l t = l.take 8 ++ [t, l.getD 9 0] ++ lowB 2 (turnN (wordAt l 10) (wordAt l 8) (256 * t.toNat + (l.getD 9 0).toNat)) ++ l.drop 12 := by unfold ttlA ttlL; rw [if_pos h0]
    have EA := Lib.hid eA
    rw [h0, e1] at HP
    have hW : 256 * q + byteAt l 9 = ((256 * t.toNat + (l.getD 9 0).toNat : Nat) : Int) := by rw [hq, hx9]; omega
    have xb0 := byteAt_nonneg l 9
    have xb1 := byteAt_le l 9
    have hq0 : 0 ≤ q := by omega
    have hq1 : q ≤ 255 := by omega
    have hl12 : 12 ≤ l.length := by omega
    rw [h0]
    have HQ := Lib.hid hq
    have HX := Lib.hid hx9
    clear h0 e1 e7 eA hx9 hp ht hq
    generalize 256 * t.toNat + (l.getD 9 0).toNat = WD at *
    generalize turnN (wordAt l 10) (wordAt l 8) WD = TN at *
    generalize ttlA l t = AN at *
    generalize wordAt l 10 = c10 at *
    generalize wordAt l 8 = c8 at *
    generalize ip4R l = R at *
    go_enter Try.func19, Try.ntmps19
    go_wp2_with (go_at_call 11; refine HP.out.mono ?_; rintro e w2 ⟨rfl, b2⟩; refine Hid.out ?_)
    refine Lib.hid ?_
    have G3 := Lib.hid (b2.alloc b2.size (.cells R.cells 27))
    clear b2
    go_wp2_with (first | (refine wpList_store_new rfl (.tmp 6) (.tmp 14) rfl R _ rfl rfl rfl ?_) | (go_at_call 23; refine (HN8.out _).mono ?_; rintro e w' ⟨rfl, rfl⟩; refine Hid.out ?_))
    refine Lib.hid ?_
    generalize (w2.alloc (.cells R.cells 27)) = w3 at *
    go_wp2_with (first | (refine wpList_index_str rfl (.tmp 24) 9 9 rfl l rfl rfl L9.out ?_) | (go_at_call 23; refine (HN10.out _).mono ?_; rintro e w' ⟨rfl, rfl⟩; refine Hid.out ?_))
    refine Lib.hid ?_
    go_wp2_with (go_at_call 34; refine (HT.out _).mono ?_; rintro e w' ⟨rfl, rfl⟩; refine Hid.out ?_)
    refine Lib.hid ?_
    go_wp2_with fail
    have p8 : (8 : Int) ≤ (l.length : Int) := by omega
    have p12 : (12 : Int) ≤ (l.length : Int) := by omega
    refine wp_region_noPanic ?_
    refine wp_region_held_drew (S := fun W => Below w.heap.size w W) (by kernel_rfl) G3.out.drew (fun hHeld => ?_)
    refine held_take (v := ?v176) 0 rfl (by kernel_rfl) (by kernel_rfl) (by kernel_rfl) (fun _ _ _ h => h) (by rfl) ?y176 (by assumption) ?_
    case y176 => (intro w hSw; (try dsimp only at hSw); go_simp; try with_reducible rfl)
    simp only [List.setIfInBounds_toArray, List.set_cons_zero, List.set_cons_succ]
    refine held_take (v := ?v179) 1 rfl (by kernel_rfl) (by kernel_rfl) (by kernel_rfl) (fun _ _ _ h => h) (by rfl) ?y179 (by assumption) ?_
    case y179 => (intro w hSw; (try dsimp only at hSw); go_simp; try with_reducible rfl)
    simp only [List.setIfInBounds_toArray, List.set_cons_zero, List.set_cons_succ]
    refine held_take (v := ?v182) 2 rfl (by kernel_rfl) (by kernel_rfl) (by kernel_rfl) (fun _ _ _ h => h) (by rfl) ?y182 (by assumption) ?_
    case y182 => (intro w hSw; (try dsimp only at hSw); go_simp; try with_reducible rfl)
    simp only [List.setIfInBounds_toArray, List.set_cons_zero, List.set_cons_succ]
    refine held_take (v := ?v185) 3 rfl (by kernel_rfl) (by kernel_rfl) (by kernel_rfl) (fun _ _ _ h => h) (by rfl) ?y185 (by assumption) ?_
    case y185 => (intro w hSw; (try dsimp only at hSw); go_simp; try with_reducible rfl)
    simp only [List.setIfInBounds_toArray, List.set_cons_zero, List.set_cons_succ]
    refine held_take (v := ?v188) 8 rfl (by kernel_rfl) (by kernel_rfl) (by kernel_rfl) (fun _ _ _ h => h) (by rfl) ?y188 (by assumption) ?_
    case y188 => (intro w hSw; (try dsimp only at hSw); go_simp; try with_reducible rfl)
    simp only [List.setIfInBounds_toArray, List.set_cons_zero, List.set_cons_succ]
    refine held_take (v := ?v191) 9 rfl (by kernel_rfl) (by kernel_rfl) (by kernel_rfl) (fun _ _ _ h => h) (by rfl) ?y191 (by assumption) ?_
    case y191 => (intro w hSw; (try dsimp only at hSw); go_simp; try with_reducible rfl)
    simp only [List.setIfInBounds_toArray, List.set_cons_zero, List.set_cons_succ]
    refine held_take (v := ?v194) 12 rfl (by kernel_rfl) (by kernel_rfl) (by kernel_rfl) (fun _ _ _ h => h) (by rfl) ?y194 (by assumption) ?_
    case y194 => (intro w hSw; (try dsimp only at hSw); go_simp; try with_reducible rfl)
    simp only [List.setIfInBounds_toArray, List.set_cons_zero, List.set_cons_succ]
    refine held_take (v := ?v197) 13 rfl (by kernel_rfl) (by kernel_rfl) (by kernel_rfl) (fun _ _ _ h => h) (by rfl) ?y197 (by assumption) ?_
    case y197 => (intro w hSw; (try dsimp only at hSw); go_simp; try with_reducible rfl)
    simp only [List.setIfInBounds_toArray, List.set_cons_zero, List.set_cons_succ]
    refine held_take (v := .int .u8 (byteAt l 9)) 4 rfl (by kernel_rfl) (by kernel_rfl) (by kernel_rfl) (fun _ _ _ h => h) (by rfl) (fun W _ => exec_index (.tmp 36) 9 9 rfl l rfl rfl rfl L9.out) (by assumption) ?_
    simp only [List.setIfInBounds_toArray, List.set_cons_zero, List.set_cons_succ]
    have HBy2 := Lib.hid (fun W => HBy.out W)
    rw [show (TN : Int) = IntKind.u64.wrap (TN : Int) by rw [IntKind.wrap_u64]; omega] at HBy2
    clear hHeld
    refine any_order0 (T := ttlT l q w2.heap.size c8 c10 WD TN R) ttlPend (TtlF l t (l.getD 9 0) TN) (fun W W' => Below W.heap.size W W') (upd (upd (fun _ => undef) 15 (.string ⟨#[]⟩)) 16 (.int .i64 0)) (by kernel_rfl) (by kernel_rfl) (ttlF_mono _ _ _ _) G3.out.drew ?_ ?_
    · intro i hi x W hS hd K hK0
      have hK : Shut (∀ v w', Below w.heap.size w w' → Below W.heap.size W w' → TtlF l t (l.getD 9 0) TN i v w' → K ⟨ttlT l q w2.heap.size c8 c10 WD TN R (upd x i v), []⟩ w') := hK0
      clear hK0
      simp only [ttlPend, List.mem_cons, List.not_mem_nil, or_false] at hi
      rcases hi with rfl | rfl | rfl | rfl | rfl | rfl | rfl | rfl
      · have b : Below W.heap.size W (W.alloc (.cells #[.int .u8 q, .int .u8 (byteAt l 9)] 5)) := (Below.refl _ _).alloc (Nat.le_refl _) _
        refine op_value (T := ttlT l q w2.heap.size c8 c10 WD TN R) 5 (.slice (some ⟨W.heap.size, 0, none⟩) 2 2) (W.alloc (.cells #[.int .u8 q, .int .u8 (byteAt l 9)] 5)) rfl ?_ rfl (hK.out _ _ (below_up hS b hS.size) b ⟨_, _, rfl, isB_built W [t, l.getD 9 0] _ (by rw [HQ.out, HX.out]; rfl) (by simp)⟩)
        unfold ttlT
        go_simp
      · obtain ⟨a5, c5, e5, i5⟩ : TtlF l t (l.getD 9 0) TN 5 (x 5) W := hd 5 (by kernel_rfl) (by decide)
        have hc := i5.conv (P := Try.prog) Try.underlying22 Try.underlying5 Try.underlying9
        refine op_value (T := ttlT l q w2.heap.size c8 c10 WD TN R) 6 (.string ⟨[t, l.getD 9 0].toArray⟩) W rfl ?_ rfl (hK.out _ _ hS (Below.refl _ _) rfl)
        unfold ttlT
        go_simp
      · have e6 : x 6 = .string ⟨[t, l.getD 9 0].toArray⟩ := hd 6 (by kernel_rfl) (by decide)
        have hs := str_append (l.take 8) [t, l.getD 9 0]
        refine op_value (T := ttlT l q w2.heap.size c8 c10 WD TN R) 7 (.string ⟨(l.take 8 ++ [t, l.getD 9 0]).toArray⟩) W rfl ?_ rfl (hK.out _ _ hS (Below.refl _ _) rfl)
        unfold ttlT
        have h1 : [t, l.getD 9 0].length = 2 := rfl
        generalize [t, l.getD 9 0] = tp at *
        go_simp
        omega
      · refine op_one 10 rfl ?_
        unfold ttlT
        go_simp
        refine (HBy2.out _).mono ?_
        rintro e w' ⟨rfl, b⟩
        exact hK.out _ _ (below_up hS b hS.size) b rfl
      · have e7 : x 7 = .string ⟨(l.take 8 ++ [t, l.getD 9 0]).toArray⟩ := hd 7 (by kernel_rfl) (by decide)
        have e10 : x 10 = .string ⟨(lowB 2 TN).toArray⟩ := hd 10 (by kernel_rfl) (by decide)
        have hs := str_append (l.take 8 ++ [t, l.getD 9 0]) (lowB 2 TN)
        refine op_value (T := ttlT l q w2.heap.size c8 c10 WD TN R) 11 (.string ⟨(l.take 8 ++ [t, l.getD 9 0] ++ lowB 2 TN).toArray⟩) W rfl ?_ rfl (hK.out _ _ hS (Below.refl _ _) rfl)
        unfold ttlT
        have h1 : (l.take 8 ++ [t, l.getD 9 0]).length ≤ 1000 := by simp; omega
        have h2 : (lowB 2 TN).length = 2 := rfl
        generalize (l.take 8 ++ [t, l.getD 9 0]) = tp at *
        generalize lowB 2 TN = tq at *
        go_simp
        omega
      · have e11 : x 11 = .string ⟨(l.take 8 ++ [t, l.getD 9 0] ++ lowB 2 TN).toArray⟩ := hd 11 (by kernel_rfl) (by decide)
        have hs := str_append (l.take 8 ++ [t, l.getD 9 0] ++ lowB 2 TN) (l.drop 12)
        refine op_value (T := ttlT l q w2.heap.size c8 c10 WD TN R) 14 (.string ⟨(l.take 8 ++ [t, l.getD 9 0] ++ lowB 2 TN ++ l.drop 12).toArray⟩) W rfl ?_ rfl (hK.out _ _ hS (Below.refl _ _) rfl)
        unfold ttlT
        have h1 : (l.take 8 ++ [t, l.getD 9 0] ++ lowB 2 TN).length ≤ 1000 := by simp [lowB_length]; omega
        have h2 : (l.drop 12).length ≤ 1000000 := by simp; omega
        generalize (l.take 8 ++ [t, l.getD 9 0] ++ lowB 2 TN) = tp at *
        generalize l.drop 12 = tq at *
        go_simp
        omega
      · have e14 : x 14 = .string ⟨(l.take 8 ++ [t, l.getD 9 0] ++ lowB 2 TN ++ l.drop 12).toArray⟩ := hd 14 (by kernel_rfl) (by decide)
        refine op_value (T := ttlT l q w2.heap.size c8 c10 WD TN R) 15 (.string ⟨(l.take 8 ++ [t, l.getD 9 0] ++ lowB 2 TN ++ l.drop 12).toArray⟩) W rfl ?_ rfl (hK.out _ _ hS (Below.refl _ _) rfl)
        unfold ttlT
        generalize (l.take 8 ++ [t, l.getD 9 0] ++ lowB 2 TN ++ l.drop 12) = tp at *
        go_simp
      · refine op_value (T := ttlT l q w2.heap.size c8 c10 WD TN R) 16 (.int .i64 0) W rfl ?_ rfl (hK.out _ _ hS (Below.refl _ _) rfl)
        unfold ttlT
        go_simp
    · intro x W hS hF
      have e15 : x 15 = .string ⟨(l.take 8 ++ [t, l.getD 9 0] ++ lowB 2 TN ++ l.drop 12).toArray⟩ := hF 15 (by decide)
      have e16 : x 16 = .int .i64 0 := hF 16 (by decide)
      rw [← EA.out] at e15
      have E15 := Lib.hid e15
      have E16 := Lib.hid e16
      clear hF e15 e16
      refine NoPanic.normal ?_
      unfold ttlT
      go_wp2
      go_ret2
      refine ⟨?_, hS⟩
      show Ending.returned (.tuple #[x 15, x 16]) = _
      rw [E15.out, E16.out]
  · have eA : ttlA l t = [] := by unfold ttlA; rw [if_neg h0]
    rw [eA]
    clear eA
    generalize ip4H l = R at *
    generalize ip4C l = C at *
    go_enter Try.func19, Try.ntmps19
    go_wp2_with (go_at_call 11; refine HP.out.mono ?_; rintro e w2 ⟨rfl, b2⟩; refine Hid.out ?_)
    refine Lib.hid ?_
    go_wp2_with (refine wpList_store_new rfl (.tmp 6) (.tmp 14) rfl R _ rfl rfl rfl ?_)
    go_ret2
    exact ⟨rfl, b2.alloc b2.size _⟩
end Go.Proofs.Ytchkbdgoghcgcaa
