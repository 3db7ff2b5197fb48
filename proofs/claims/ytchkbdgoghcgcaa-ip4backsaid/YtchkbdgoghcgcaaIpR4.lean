/- The document's ip4: Put. Proved: what it returns. -/
import Derived.Test.YtchkbdgoghcgcaaIpR3
namespace Go.Proofs.Ytchkbdgoghcgcaa
open Go Go.RowKit

set_option maxRecDepth 100000 in
set_option maxHeartbeats 2000000 in
theorem rput4_arg (h : Hdr) (b : Value) (w : World) (hf : ¬ h.fit) :
    Calls Try.prog 15 #[h.val, b] w fun r w' => r = .returned (.tuple #[.string ⟨#[]⟩, .int .i64 1]) ∧ Below w.heap.size w w' := by
  have hsz : (⟨h.opt.toArray⟩ : ByteArray).size = h.opt.length := by simp [ByteArray.size]
  have c10 : (w.alloc (.cells h.cells 27)).cell? ⟨w.heap.size, 16, none⟩ = some (.string ⟨h.opt.toArray⟩) := hdr_cell (heap_alloc_new w _) 16
  have c5 : (w.alloc (.cells h.cells 27)).cell? ⟨w.heap.size, 5, none⟩ = some (.int .i64 h.off) := hdr_cell (heap_alloc_new w _) 5
  rw [show h.val = .agg h.cells from rfl]
  have hc : 40 < (h.opt.length : Int) ∨ ((h.opt.length : Int) ≤ 40 ∧ 0 < (h.opt.length : Int) % 4) ∨ ((h.opt.length : Int) ≤ 40 ∧ (h.opt.length : Int) % 4 ≤ 0 ∧ h.off < 0) ∨ ((h.opt.length : Int) ≤ 40 ∧ (h.opt.length : Int) % 4 ≤ 0 ∧ 0 ≤ h.off ∧ 8191 < h.off) := by
    refine Classical.byContradiction fun hn => hf ⟨?_, ?_, ?_, ?_⟩ <;> omega
  clear hf
  generalize h.opt.length = M at *
  generalize h.off = O at *
  rcases hc with h1 | ⟨h1, h2⟩ | ⟨h1, h2, h3⟩ | ⟨h1, h2, h3, h4⟩
  all_goals
    go_enter Try.func15, Try.ntmps15
    go_wp2
    go_ret2
    exact ⟨rfl, (Below.refl _ _).alloc (Nat.le_refl _) _⟩

/-- What the document's Put reads of its header. -/
def RPutS (w : World) (h : Hdr) (W : World) : Prop :=
  W.heap[w.heap.size]? = some (.cells h.cells 27 (0, 0)) ∧ Below w.heap.size w W ∧
    W.cell? ⟨w.heap.size, 0, none⟩ = some (.int .u8 (h.tos.toNat : Int)) ∧ W.cell? ⟨w.heap.size, 2, none⟩ = some (.int .u16 (h.id : Int)) ∧
    W.cell? ⟨w.heap.size, 6, none⟩ = some (.int .u8 (h.ttl.toNat : Int)) ∧ W.cell? ⟨w.heap.size, 7, none⟩ = some (.int .u8 (h.proto.toNat : Int)) ∧
    W.cell? ⟨w.heap.size, 8, none⟩ = some (.int .u8 (h.s0.toNat : Int)) ∧ W.cell? ⟨w.heap.size, 9, none⟩ = some (.int .u8 (h.s1.toNat : Int)) ∧ W.cell? ⟨w.heap.size, 10, none⟩ = some (.int .u8 (h.s2.toNat : Int)) ∧ W.cell? ⟨w.heap.size, 11, none⟩ = some (.int .u8 (h.s3.toNat : Int)) ∧
    W.cell? ⟨w.heap.size, 12, none⟩ = some (.int .u8 (h.d0.toNat : Int)) ∧ W.cell? ⟨w.heap.size, 13, none⟩ = some (.int .u8 (h.d1.toNat : Int)) ∧ W.cell? ⟨w.heap.size, 14, none⟩ = some (.int .u8 (h.d2.toNat : Int)) ∧ W.cell? ⟨w.heap.size, 15, none⟩ = some (.int .u8 (h.d3.toNat : Int)) ∧
    W.cell? ⟨w.heap.size, 16, none⟩ = some (.string ⟨h.opt.toArray⟩)
theorem RPutS.of {w : World} {h : Hdr} {W : World} (h1 : W.heap[w.heap.size]? = some (.cells h.cells 27 (0, 0))) (h2 : Below w.heap.size w W) : RPutS w h W :=
  ⟨h1, h2, hdr_cell h1 0, hdr_cell h1 2, hdr_cell h1 6, hdr_cell h1 7, hdr_cell h1 8, hdr_cell h1 9, hdr_cell h1 10, hdr_cell h1 11, hdr_cell h1 12, hdr_cell h1 13, hdr_cell h1 14, hdr_cell h1 15, hdr_cell h1 16⟩
theorem RPutS.below {w : World} {h : Hdr} {W W' : World} (hS : RPutS w h W) (hb : Below W.heap.size W W') : RPutS w h W' :=
  .of ((hb.block _ (Array.getElem?_eq_some_iff.1 hS.1).1).trans hS.1) (below_up hS.2.1 hb hS.2.1.size)

/-- The frame of the document's Put at its first text. -/
def putT (h : Hdr) (body : List UInt8) (w : World) (F : Int) (k m : Bool) (u43 u44 u47 u48 : Value) (x : Nat → Value) : Array Value :=
  #[.agg h.cells, .string ⟨body.toArray⟩, .pointer (some ⟨w.heap.size, 0, none⟩), undef, .string ⟨#[]⟩, .int .i64 0, .int .i64 ((h.size : Int) + (body.length : Int)), .int .i64 F, x 29, undef, undef,
    .pointer (some ⟨w.heap.size, 16, none⟩), .string ⟨h.opt.toArray⟩, .int .i64 (h.opt.length : Int), .bool (decide (40 < (h.opt.length : Int))), .bool (decide (40 < (h.opt.length : Int))),
    .pointer (some ⟨w.heap.size, 16, none⟩), .string ⟨h.opt.toArray⟩, .int .i64 (h.opt.length : Int), .int .i64 ((h.opt.length : Int) % 4), .bool (decide (0 < (h.opt.length : Int) % 4)),
    .bool (decide (40 < (h.opt.length : Int)) || decide (0 < (h.opt.length : Int) % 4)), .bool (decide (40 < (h.opt.length : Int)) || decide (0 < (h.opt.length : Int) % 4)),
    .pointer (some ⟨w.heap.size, 5, none⟩), .int .i64 h.off, .bool (decide (h.off < 0)),
    .bool (decide (40 < (h.opt.length : Int)) || decide (0 < (h.opt.length : Int) % 4) || decide (h.off < 0)), .bool (decide (40 < (h.opt.length : Int)) || decide (0 < (h.opt.length : Int) % 4) || decide (h.off < 0)),
    .pointer (some ⟨w.heap.size, 5, none⟩), .int .i64 h.off, .bool (decide (8191 < h.off)),
    .bool (decide (40 < (h.opt.length : Int)) || decide (0 < (h.opt.length : Int) % 4) || decide (h.off < 0) || decide (8191 < h.off)),
    h.val, .int .i64 (h.size : Int), .string ⟨body.toArray⟩, .int .i64 (body.length : Int), .int .i64 ((h.size : Int) + (body.length : Int)), .int .i64 ((h.size : Int) + (body.length : Int)), .bool (decide (65535 < (h.size : Int) + (body.length : Int))),
    .pointer (some ⟨w.heap.size, 5, none⟩), .int .i64 h.off, .pointer (some ⟨w.heap.size, 3, none⟩), .bool k, u43, u44, .pointer (some ⟨w.heap.size, 4, none⟩), .bool m, u47, u48,
    h.val, x 1, x 2, x 3, x 4, .pointer (some ⟨w.heap.size, 0, none⟩), .int .u8 (h.tos.toNat : Int), x 7, x 8, .int .i64 ((h.size : Int) + (body.length : Int)), .int .u64 (IntKind.u64.wrap ((h.size : Int) + (body.length : Int))), x 11, x 12,
    .pointer (some ⟨w.heap.size, 2, none⟩), .int .u16 (h.id : Int), .int .u64 (IntKind.u64.wrap (h.id : Int)), x 16, x 17, .int .i64 F, .int .u64 (IntKind.u64.wrap F), x 20, x 21,
    .pointer (some ⟨w.heap.size, 6, none⟩), .int .u8 (h.ttl.toNat : Int), .pointer (some ⟨w.heap.size, 7, none⟩), .int .u8 (h.proto.toNat : Int), x 26, x 27, x 28,
    undef, undef, undef, undef, undef, undef, undef, undef, undef, undef, undef, undef, undef, undef, undef, undef, undef, undef, undef, undef, undef, undef, undef]
def PutF (h : Hdr) (all : Nat) (i : Nat) (v : Value) (W : World) : Prop :=
  match i with
  | 1 => v = .int .i64 (h.size : Int)
  | 2 => v = .int .i64 ((h.size / 4 : Nat) : Int)
  | 3 => v = .int .i64 ((64 + h.size / 4 : Nat) : Int)
  | 4 => v = .int .u8 ((64 + h.size / 4 : Nat) : Int)
  | 7 => ∃ a c, v = .slice a 2 c ∧ IsB W (.slice a 2 c) [UInt8.ofNat (64 + h.size / 4), h.tos]
  | 8 => v = .string ⟨[UInt8.ofNat (64 + h.size / 4), h.tos].toArray⟩
  | 11 => v = .string ⟨(lowB 2 all).toArray⟩
  | 12 => v = .string ⟨([UInt8.ofNat (64 + h.size / 4), h.tos] ++ lowB 2 all).toArray⟩
  | 16 => v = .string ⟨(lowB 2 h.id).toArray⟩
  | 17 => v = .string ⟨([UInt8.ofNat (64 + h.size / 4), h.tos] ++ lowB 2 all ++ lowB 2 h.id).toArray⟩
  | 20 => v = .string ⟨(lowB 2 h.flags).toArray⟩
  | 21 => v = .string ⟨([UInt8.ofNat (64 + h.size / 4), h.tos] ++ lowB 2 all ++ lowB 2 h.id ++ lowB 2 h.flags).toArray⟩
  | 26 => ∃ a c, v = .slice a 2 c ∧ IsB W (.slice a 2 c) [h.ttl, h.proto]
  | 27 => v = .string ⟨[h.ttl, h.proto].toArray⟩
  | 28 => v = .string ⟨(frontL h all).toArray⟩
  | 29 => v = .string ⟨(frontL h all).toArray⟩
  | _ => True
/-- The texts of which the document's Put is made, as letters. -/
structure PutW (h : Hdr) (body F B C : List UInt8) : Prop where
  lF : F.length = 10
  lB : B.length ≤ 100
  lC : C.length = 2
  fb : 65535 - fold16 (wsum false (F ++ B)) = hsum h (h.size + body.length)
  pk : ((F ++ C) ++ B) ++ body = pktL h body
theorem putW_of (h : Hdr) (body : List UInt8) (f : h.fit) : PutW h body (frontL h (h.size + body.length)) (backL h) (lowB 2 (hsum h (h.size + body.length))) where
  lF := by unfold frontL; simp [lowB_length]
  lB := by have := f.o1; unfold backL; simp; omega
  lC := rfl
  fb := rfl
  pk := rfl
def putPend : List Nat := [1, 2, 3, 4, 7, 8, 11, 12, 16, 17, 20, 21, 26, 27, 28, 29]
theorem putF_mono (h : Hdr) (all : Nat) : ∀ i v W W', i ∈ putPend → Below W.heap.size W W' → PutF h all i v W → PutF h all i v W' := by
  intro i v W W' hi hE hF
  simp only [putPend, List.mem_cons, List.not_mem_nil, or_false] at hi
  rcases hi with rfl | rfl | rfl | rfl | rfl | rfl | rfl | rfl | rfl | rfl | rfl | rfl | rfl | rfl | rfl | rfl
  all_goals first
    | exact hF
    | (obtain ⟨a, c, h1, h2⟩ := hF
       exact ⟨a, c, h1, h2.below hE⟩)

set_option maxRecDepth 100000 in
set_option maxHeartbeats 4000000 in
theorem rput4_fit (h : Hdr) (body : List UInt8) (w : World) (f : h.fit) (hid : h.id ≤ 65535) (hlim : body.length ≤ 500000) :
    Calls Try.prog 15 #[h.val, .string ⟨body.toArray⟩] w fun r w' => r = .returned (.tuple #[.string ⟨(if h.size + body.length ≤ 65535 then pktL h body else []).toArray⟩, .int .i64 (if h.size + body.length ≤ 65535 then 0 else 13)]) ∧ Below w.heap.size w w' := by
  have hs := size_le f
  have hsz : (⟨h.opt.toArray⟩ : ByteArray).size = h.opt.length := by simp [ByteArray.size]
  have hsb : (⟨body.toArray⟩ : ByteArray).size = body.length := by simp [ByteArray.size]
  have hS1 : RPutS w h (w.alloc (.cells h.cells 27)) := .of (heap_alloc_new w _) ((Below.refl _ _).alloc (Nat.le_refl _) _)
  have c10 : (w.alloc (.cells h.cells 27)).cell? ⟨w.heap.size, 16, none⟩ = some (.string ⟨h.opt.toArray⟩) := hdr_cell (heap_alloc_new w _) 16
  have c5 : (w.alloc (.cells h.cells 27)).cell? ⟨w.heap.size, 5, none⟩ = some (.int .i64 h.off) := hdr_cell (heap_alloc_new w _) 5
  have HS := Lib.hid (fun W => rsize_any h W (by unfold Hdr.size at hs; omega))
  have HG := Lib.hid (heap_alloc_new w (.cells h.cells 27))
  have hk5 : h.cells[5]? = some (.int .i64 h.off) := rfl
  have hk3 : h.cells[3]? = some (.bool h.keep) := rfl
  have hk4 : h.cells[4]? = some (.bool h.more) := rfl
  have f1 : (h.opt.length : Int) % 4 ≤ 0 := by have := f.o2; omega
  have f2 : (h.opt.length : Int) ≤ 40 := by have := f.o1; omega
  have f3 := f.f0
  have f4 := f.f1
  have hfl : h.off + (if h.keep then 16384 else 0) + (if h.more then 8192 else 0) = (h.flags : Int) := by
    unfold Hdr.flags
    cases h.keep <;> cases h.more <;> simp <;> omega
  have hfb := flags_le f
  rw [show h.val = .agg h.cells from rfl]
  have HM := Lib.hid f
  generalize hRC : (if h.size + body.length ≤ 65535 then (0 : Int) else 13) = RC
  generalize hRL : (if h.size + body.length ≤ 65535 then pktL h body else []) = RL
  have HRC := Lib.hid hRC
  have HRL := Lib.hid hRL
  have HSS := Lib.hid hS1
  clear f hRC hRL hS1
  go_enter Try.func15, Try.ntmps15
  go_wp2_with (first | (refine wpList_load_hdr rfl (.tmp 2) rfl w.heap.size h rfl HG.out ?_) | (go_at_call 17; refine (HS.out _).mono ?_; rintro e w2 ⟨rfl, b2⟩; refine Hid.out ?_))
  refine Lib.hid ?_
  have hg2 : w2.heap[w.heap.size]? = some (.cells h.cells 27 (0, 0)) := (b2.block _ (by simp)).trans HG.out
  have d5 : w2.cell? ⟨w.heap.size, 5, none⟩ = some (.int .i64 h.off) := (hdr_cell hg2 5).trans hk5
  have d3 : w2.cell? ⟨w.heap.size, 3, none⟩ = some (.bool h.keep) := (hdr_cell hg2 3).trans hk3
  have d4 : w2.cell? ⟨w.heap.size, 4, none⟩ = some (.bool h.more) := (hdr_cell hg2 4).trans hk4
  have HS2 := Lib.hid (HSS.out.below b2)
  clear b2 hg2 HG hk5 hk3 hk4 c10 c5 HSS
  by_cases hN : h.size + body.length ≤ 65535
  · have hN2 : (h.size : Int) + (body.length : Int) ≤ 65535 := by omega
    have eC : RC = 0 := by rw [← HRC.out, if_pos hN]
    have eL : RL = pktL h body := by rw [← HRL.out, if_pos hN]
    have EC := Lib.hid eC
    have EL := Lib.hid eL
    clear eC eL
    have HFl := Lib.hid hfl
    clear hfl
    rcases hkeep : h.keep <;> rcases hmore : h.more
    · rw [hkeep] at d3
      rw [hmore] at d4
      have hf2 : h.off = (h.flags : Int) := by
        have := HFl.out
        rw [hkeep, hmore] at this
        simpa using this
      have HB20 := Lib.hid (fun W => rbytes_any h.flags 2 W (by omega) (by omega))
      have HB16 := Lib.hid (fun W => rbytes_any h.id 2 W (by omega) (by omega))
      have HB11 := Lib.hid (fun W => rbytes_any (h.size + body.length) 2 W (by omega) (by omega))
      rw [show (h.flags : Int) = IntKind.u64.wrap (h.flags : Int) by rw [IntKind.wrap_u64]; omega, ← hf2] at HB20
      rw [show (h.id : Int) = IntKind.u64.wrap (h.id : Int) by rw [IntKind.wrap_u64]; omega] at HB16
      rw [show ((h.size + body.length : Nat) : Int) = IntKind.u64.wrap ((h.size : Int) + (body.length : Int)) by rw [IntKind.wrap_u64]; omega] at HB11
      clear hf2 HFl hkeep hmore
      go_wp2_with fail
      refine wp_region_noPanic ?_
      refine wp_region_held_drew (S := RPutS w h) (by kernel_rfl) (HS2.out.below (Below.refl _ _).drew) (fun hHeld => ?_)
      refine held_take (v := h.val) 0 rfl (by kernel_rfl) (by kernel_rfl) (by kernel_rfl) (fun _ _ _ h => h) (by rfl) (fun W hSw => exec_load_hdr (.tmp 2) rfl w.heap.size h rfl hSw.1) (by assumption) ?_
      simp only [List.setIfInBounds_toArray, List.set_cons_zero, List.set_cons_succ]
      refine held_take (v := ?v164) 5 rfl (by kernel_rfl) (by kernel_rfl) (by kernel_rfl) (fun _ _ _ h => h) (by rfl) ?y164 (by assumption) ?_
      case y164 => (intro w hSw; unfold RPutS at hSw; go_simp; (try with_reducible rfl); (try omega))
      simp only [List.setIfInBounds_toArray, List.set_cons_zero, List.set_cons_succ]
      refine held_take (v := ?v167) 6 rfl (by kernel_rfl) (by kernel_rfl) (by kernel_rfl) (fun _ _ _ h => h) (by rfl) ?y167 (by assumption) ?_
      case y167 => (intro w hSw; unfold RPutS at hSw; go_simp; (try with_reducible rfl); (try omega))
      simp only [List.setIfInBounds_toArray, List.set_cons_zero, List.set_cons_succ]
      refine held_take (v := ?v170) 9 rfl (by kernel_rfl) (by kernel_rfl) (by kernel_rfl) (fun _ _ _ h => h) (by rfl) ?y170 (by assumption) ?_
      case y170 => (intro w hSw; unfold RPutS at hSw; go_simp; (try with_reducible rfl); (try omega))
      simp only [List.setIfInBounds_toArray, List.set_cons_zero, List.set_cons_succ]
      refine held_take (v := ?v173) 10 rfl (by kernel_rfl) (by kernel_rfl) (by kernel_rfl) (fun _ _ _ h => h) (by rfl) ?y173 (by assumption) ?_
      case y173 => (intro w hSw; unfold RPutS at hSw; go_simp; (try with_reducible rfl); (try omega))
      simp only [List.setIfInBounds_toArray, List.set_cons_zero, List.set_cons_succ]
      refine held_take (v := ?v176) 13 rfl (by kernel_rfl) (by kernel_rfl) (by kernel_rfl) (fun _ _ _ h => h) (by rfl) ?y176 (by assumption) ?_
      case y176 => (intro w hSw; unfold RPutS at hSw; go_simp; (try with_reducible rfl); (try omega))
      simp only [List.setIfInBounds_toArray, List.set_cons_zero, List.set_cons_succ]
      refine held_take (v := ?v179) 14 rfl (by kernel_rfl) (by kernel_rfl) (by kernel_rfl) (fun _ _ _ h => h) (by rfl) ?y179 (by assumption) ?_
      case y179 => (intro w hSw; unfold RPutS at hSw; go_simp; (try with_reducible rfl); (try omega))
      simp only [List.setIfInBounds_toArray, List.set_cons_zero, List.set_cons_succ]
      refine held_take (v := ?v182) 15 rfl (by kernel_rfl) (by kernel_rfl) (by kernel_rfl) (fun _ _ _ h => h) (by rfl) ?y182 (by assumption) ?_
      case y182 => (intro w hSw; unfold RPutS at hSw; go_simp; (try with_reducible rfl); (try omega))
      simp only [List.setIfInBounds_toArray, List.set_cons_zero, List.set_cons_succ]
      refine held_take (v := ?v185) 18 rfl (by kernel_rfl) (by kernel_rfl) (by kernel_rfl) (fun _ _ _ h => h) (by rfl) ?y185 (by assumption) ?_
      case y185 => (intro w hSw; unfold RPutS at hSw; go_simp; (try with_reducible rfl); (try omega))
      simp only [List.setIfInBounds_toArray, List.set_cons_zero, List.set_cons_succ]
      refine held_take (v := ?v188) 19 rfl (by kernel_rfl) (by kernel_rfl) (by kernel_rfl) (fun _ _ _ h => h) (by rfl) ?y188 (by assumption) ?_
      case y188 => (intro w hSw; unfold RPutS at hSw; go_simp; (try with_reducible rfl); (try omega))
      simp only [List.setIfInBounds_toArray, List.set_cons_zero, List.set_cons_succ]
      refine held_take (v := ?v191) 22 rfl (by kernel_rfl) (by kernel_rfl) (by kernel_rfl) (fun _ _ _ h => h) (by rfl) ?y191 (by assumption) ?_
      case y191 => (intro w hSw; unfold RPutS at hSw; go_simp; (try with_reducible rfl); (try omega))
      simp only [List.setIfInBounds_toArray, List.set_cons_zero, List.set_cons_succ]
      refine held_take (v := ?v194) 23 rfl (by kernel_rfl) (by kernel_rfl) (by kernel_rfl) (fun _ _ _ h => h) (by rfl) ?y194 (by assumption) ?_
      case y194 => (intro w hSw; unfold RPutS at hSw; go_simp; (try with_reducible rfl); (try omega))
      simp only [List.setIfInBounds_toArray, List.set_cons_zero, List.set_cons_succ]
      refine held_take (v := ?v197) 24 rfl (by kernel_rfl) (by kernel_rfl) (by kernel_rfl) (fun _ _ _ h => h) (by rfl) ?y197 (by assumption) ?_
      case y197 => (intro w hSw; unfold RPutS at hSw; go_simp; (try with_reducible rfl); (try omega))
      simp only [List.setIfInBounds_toArray, List.set_cons_zero, List.set_cons_succ]
      refine held_take (v := ?v200) 25 rfl (by kernel_rfl) (by kernel_rfl) (by kernel_rfl) (fun _ _ _ h => h) (by rfl) ?y200 (by assumption) ?_
      case y200 => (intro w hSw; unfold RPutS at hSw; go_simp; (try with_reducible rfl); (try omega))
      simp only [List.setIfInBounds_toArray, List.set_cons_zero, List.set_cons_succ]
      refine any_order0 (T := putT h body w _ _ _ _ _ _ _) putPend (PutF h (h.size + body.length)) (fun W W' => Below W.heap.size W W') (fun _ => undef) (by kernel_rfl) (by kernel_rfl) (putF_mono _ _) hHeld ?_ ?_
      · intro i hi x W hS hd K hK0
        have hK : Shut (∀ v w', RPutS w h w' → Below W.heap.size W w' → PutF h (h.size + body.length) i v w' → K ⟨putT h body w _ _ _ _ _ _ _ (upd x i v), []⟩ w') := hK0
        clear hK0
        simp only [putPend, List.mem_cons, List.not_mem_nil, or_false] at hi
        rcases hi with rfl | rfl | rfl | rfl | rfl | rfl | rfl | rfl | rfl | rfl | rfl | rfl | rfl | rfl | rfl | rfl
        · refine op_one 1 rfl ?_
          unfold putT
          go_simp
          refine (HS.out _).mono ?_
          rintro e w' ⟨rfl, b⟩
          exact hK.out _ _ (hS.below b) b rfl
        · have ea : x 1 = .int .i64 (h.size : Int) := hd 1 (by kernel_rfl) (by decide)
          refine op_value (T := putT h body w _ _ _ _ _ _ _) 2 (.int .i64 ((h.size / 4 : Nat) : Int)) W rfl ?_ rfl (hK.out _ _ hS (Below.refl _ _) rfl)
          unfold putT
          go_simp
          rw [IntKind.wrap_i64]; omega
        · have ea : x 2 = .int .i64 ((h.size / 4 : Nat) : Int) := hd 2 (by kernel_rfl) (by decide)
          refine op_value (T := putT h body w _ _ _ _ _ _ _) 3 (.int .i64 ((64 + h.size / 4 : Nat) : Int)) W rfl ?_ rfl (hK.out _ _ hS (Below.refl _ _) rfl)
          unfold putT
          go_simp
          rw [IntKind.wrap_i64]; omega
        · have ea : x 3 = .int .i64 ((64 + h.size / 4 : Nat) : Int) := hd 3 (by kernel_rfl) (by decide)
          refine op_value (T := putT h body w _ _ _ _ _ _ _) 4 (.int .u8 ((64 + h.size / 4 : Nat) : Int)) W rfl ?_ rfl (hK.out _ _ hS (Below.refl _ _) rfl)
          unfold putT
          go_simp
          rw [IntKind.wrap_u8]; omega
        · have ea : x 4 = .int .u8 ((64 + h.size / 4 : Nat) : Int) := hd 4 (by kernel_rfl) (by decide)
          have b : Below W.heap.size W (W.alloc (.cells #[.int .u8 ((64 + h.size / 4 : Nat) : Int), .int .u8 (h.tos.toNat : Int)] 5)) := (Below.refl _ _).alloc (Nat.le_refl _) _
          refine op_value (T := putT h body w _ _ _ _ _ _ _) 7 (.slice (some ⟨W.heap.size, 0, none⟩) 2 2) (W.alloc (.cells #[.int .u8 ((64 + h.size / 4 : Nat) : Int), .int .u8 (h.tos.toNat : Int)] 5)) rfl ?_ rfl (hK.out _ _ (hS.below b) b ⟨_, _, rfl, isB_built W [UInt8.ofNat (64 + h.size / 4), h.tos] _ (by show _ = #[Value.int .u8 ((UInt8.ofNat (64 + h.size / 4)).toNat : Int), .int .u8 (h.tos.toNat : Int)]; rw [first_byte HM.out]) (by simp)⟩)
          unfold putT
          go_simp
        · obtain ⟨a5, c5, ea, i5⟩ : PutF h (h.size + body.length) 7 (x 7) W := hd 7 (by kernel_rfl) (by decide)
          have hc := i5.conv (P := Try.prog) Try.underlying22 Try.underlying5 Try.underlying9
          refine op_value (T := putT h body w _ _ _ _ _ _ _) 8 (.string ⟨[UInt8.ofNat (64 + h.size / 4), h.tos].toArray⟩) W rfl ?_ rfl (hK.out _ _ hS (Below.refl _ _) rfl)
          unfold putT
          go_simp
        · refine op_one 11 rfl ?_
          unfold putT
          go_simp
          refine (HB11.out _).mono ?_
          rintro e w' ⟨rfl, b⟩
          exact hK.out _ _ (hS.below b) b rfl
        · have ea : x 8 = .string ⟨([UInt8.ofNat (64 + h.size / 4), h.tos]).toArray⟩ := hd 8 (by kernel_rfl) (by decide)
          have eb : x 11 = .string ⟨(lowB 2 (h.size + body.length)).toArray⟩ := hd 11 (by kernel_rfl) (by decide)
          have hst := str_append ([UInt8.ofNat (64 + h.size / 4), h.tos]) (lowB 2 (h.size + body.length))
          have l1 : ([UInt8.ofNat (64 + h.size / 4), h.tos]).length ≤ 100 := by simp
          have l2 : (lowB 2 (h.size + body.length)).length ≤ 100 := by simp [lowB_length]
          refine op_value (T := putT h body w _ _ _ _ _ _ _) 12 (.string ⟨([UInt8.ofNat (64 + h.size / 4), h.tos] ++ lowB 2 (h.size + body.length)).toArray⟩) W rfl ?_ rfl (hK.out _ _ hS (Below.refl _ _) rfl)
          unfold putT
          generalize [UInt8.ofNat (64 + h.size / 4), h.tos] = tp at *
          generalize lowB 2 (h.size + body.length) = tq at *
          go_simp
          omega
        · refine op_one 16 rfl ?_
          unfold putT
          go_simp
          refine (HB16.out _).mono ?_
          rintro e w' ⟨rfl, b⟩
          exact hK.out _ _ (hS.below b) b rfl
        · have ea : x 12 = .string ⟨([UInt8.ofNat (64 + h.size / 4), h.tos] ++ lowB 2 (h.size + body.length)).toArray⟩ := hd 12 (by kernel_rfl) (by decide)
          have eb : x 16 = .string ⟨(lowB 2 h.id).toArray⟩ := hd 16 (by kernel_rfl) (by decide)
          have hst := str_append ([UInt8.ofNat (64 + h.size / 4), h.tos] ++ lowB 2 (h.size + body.length)) (lowB 2 h.id)
          have l1 : ([UInt8.ofNat (64 + h.size / 4), h.tos] ++ lowB 2 (h.size + body.length)).length ≤ 100 := by simp [lowB_length]
          have l2 : (lowB 2 h.id).length ≤ 100 := by simp [lowB_length]
          refine op_value (T := putT h body w _ _ _ _ _ _ _) 17 (.string ⟨([UInt8.ofNat (64 + h.size / 4), h.tos] ++ lowB 2 (h.size + body.length) ++ lowB 2 h.id).toArray⟩) W rfl ?_ rfl (hK.out _ _ hS (Below.refl _ _) rfl)
          unfold putT
          generalize [UInt8.ofNat (64 + h.size / 4), h.tos] ++ lowB 2 (h.size + body.length) = tp at *
          generalize lowB 2 h.id = tq at *
          go_simp
          omega
        · refine op_one 20 rfl ?_
          unfold putT
          go_simp
          refine (HB20.out _).mono ?_
          rintro e w' ⟨rfl, b⟩
          exact hK.out _ _ (hS.below b) b rfl
        · have ea : x 17 = .string ⟨([UInt8.ofNat (64 + h.size / 4), h.tos] ++ lowB 2 (h.size + body.length) ++ lowB 2 h.id).toArray⟩ := hd 17 (by kernel_rfl) (by decide)
          have eb : x 20 = .string ⟨(lowB 2 h.flags).toArray⟩ := hd 20 (by kernel_rfl) (by decide)
          have hst := str_append ([UInt8.ofNat (64 + h.size / 4), h.tos] ++ lowB 2 (h.size + body.length) ++ lowB 2 h.id) (lowB 2 h.flags)
          have l1 : ([UInt8.ofNat (64 + h.size / 4), h.tos] ++ lowB 2 (h.size + body.length) ++ lowB 2 h.id).length ≤ 100 := by simp [lowB_length]
          have l2 : (lowB 2 h.flags).length ≤ 100 := by simp [lowB_length]
          refine op_value (T := putT h body w _ _ _ _ _ _ _) 21 (.string ⟨([UInt8.ofNat (64 + h.size / 4), h.tos] ++ lowB 2 (h.size + body.length) ++ lowB 2 h.id ++ lowB 2 h.flags).toArray⟩) W rfl ?_ rfl (hK.out _ _ hS (Below.refl _ _) rfl)
          unfold putT
          generalize [UInt8.ofNat (64 + h.size / 4), h.tos] ++ lowB 2 (h.size + body.length) ++ lowB 2 h.id = tp at *
          generalize lowB 2 h.flags = tq at *
          go_simp
          omega
        · skip
          have b : Below W.heap.size W (W.alloc (.cells #[.int .u8 (h.ttl.toNat : Int), .int .u8 (h.proto.toNat : Int)] 5)) := (Below.refl _ _).alloc (Nat.le_refl _) _
          refine op_value (T := putT h body w _ _ _ _ _ _ _) 26 (.slice (some ⟨W.heap.size, 0, none⟩) 2 2) (W.alloc (.cells #[.int .u8 (h.ttl.toNat : Int), .int .u8 (h.proto.toNat : Int)] 5)) rfl ?_ rfl (hK.out _ _ (hS.below b) b ⟨_, _, rfl, isB_built W [h.ttl, h.proto] _ rfl (by simp)⟩)
          unfold putT
          go_simp
        · obtain ⟨a5, c5, ea, i5⟩ : PutF h (h.size + body.length) 26 (x 26) W := hd 26 (by kernel_rfl) (by decide)
          have hc := i5.conv (P := Try.prog) Try.underlying22 Try.underlying5 Try.underlying9
          refine op_value (T := putT h body w _ _ _ _ _ _ _) 27 (.string ⟨[h.ttl, h.proto].toArray⟩) W rfl ?_ rfl (hK.out _ _ hS (Below.refl _ _) rfl)
          unfold putT
          go_simp
        · have ea : x 21 = .string ⟨([UInt8.ofNat (64 + h.size / 4), h.tos] ++ lowB 2 (h.size + body.length) ++ lowB 2 h.id ++ lowB 2 h.flags).toArray⟩ := hd 21 (by kernel_rfl) (by decide)
          have eb : x 27 = .string ⟨([h.ttl, h.proto]).toArray⟩ := hd 27 (by kernel_rfl) (by decide)
          have hst := str_append ([UInt8.ofNat (64 + h.size / 4), h.tos] ++ lowB 2 (h.size + body.length) ++ lowB 2 h.id ++ lowB 2 h.flags) ([h.ttl, h.proto])
          have l1 : ([UInt8.ofNat (64 + h.size / 4), h.tos] ++ lowB 2 (h.size + body.length) ++ lowB 2 h.id ++ lowB 2 h.flags).length ≤ 100 := by simp [lowB_length]
          have l2 : ([h.ttl, h.proto]).length ≤ 100 := by simp
          refine op_value (T := putT h body w _ _ _ _ _ _ _) 28 (.string ⟨([UInt8.ofNat (64 + h.size / 4), h.tos] ++ lowB 2 (h.size + body.length) ++ lowB 2 h.id ++ lowB 2 h.flags ++ [h.ttl, h.proto]).toArray⟩) W rfl ?_ rfl (hK.out _ _ hS (Below.refl _ _) rfl)
          unfold putT
          generalize [UInt8.ofNat (64 + h.size / 4), h.tos] ++ lowB 2 (h.size + body.length) ++ lowB 2 h.id ++ lowB 2 h.flags = tp at *
          generalize [h.ttl, h.proto] = tq at *
          go_simp
          omega
        · have ea : x 28 = .string ⟨(frontL h (h.size + body.length)).toArray⟩ := hd 28 (by kernel_rfl) (by decide)
          refine op_value (T := putT h body w _ _ _ _ _ _ _) 29 (.string ⟨(frontL h (h.size + body.length)).toArray⟩) W rfl ?_ rfl (hK.out _ _ hS (Below.refl _ _) rfl)
          unfold putT
          generalize (frontL h (h.size + body.length)) = tp at *
          go_simp
      · intro x W hS hF
        have e29 : x 29 = .string ⟨(frontL h (h.size + body.length)).toArray⟩ := hF 29 (by decide)
        have HW := Lib.hid (putW_of h body HM.out)
        have HSW := Lib.hid hS
        have eB : backL h = [h.s0, h.s1, h.s2, h.s3] ++ [h.d0, h.d1, h.d2, h.d3] ++ h.opt := by unfold backL; simp
        have HEB := Lib.hid eB
        have HT1 := Lib.hid (fun W => rtext_any h.s0 h.s1 h.s2 h.s3 W)
        have HT2 := Lib.hid (fun W => rtext_any h.d0 h.d1 h.d2 h.d3 W)
        have HOf := Lib.hid (fun W => rof_any ⟨(frontL h (h.size + body.length) ++ backL h).toArray⟩ W (by have h1 := HW.out.lF; have h2 := HW.out.lB; show (frontL h (h.size + body.length) ++ backL h).toArray.size ≤ 1000000; simp; omega))
        rw [show (⟨(frontL h (h.size + body.length) ++ backL h).toArray⟩ : ByteArray).data.toList = frontL h (h.size + body.length) ++ backL h from rfl, HW.out.fb] at HOf
        have hsm := hsum_le h (h.size + body.length)
        have HBc := Lib.hid (fun W => rbytes_any (hsum h (h.size + body.length)) 2 W (by omega) (by omega))
        clear hF eB hHeld HB11 HB16 HB20 hS
        refine NoPanic.normal ?_
        unfold putT
        generalize hFr : frontL h (h.size + body.length) = Fr at *
        generalize hBk : backL h = Bk at *
        generalize hCs : lowB 2 (hsum h (h.size + body.length)) = Cs at *
        generalize hsum h (h.size + body.length) = hc at *
        have a1 := str_append [h.s0, h.s1, h.s2, h.s3] [h.d0, h.d1, h.d2, h.d3]
        have a2 := str_append ([h.s0, h.s1, h.s2, h.s3] ++ [h.d0, h.d1, h.d2, h.d3]) h.opt
        rw [← HEB.out] at a2
        have l1 : ([h.s0, h.s1, h.s2, h.s3] ++ [h.d0, h.d1, h.d2, h.d3]).length = 8 := rfl
        have l2 : [h.s0, h.s1, h.s2, h.s3].length = 4 := rfl
        have l3 : [h.d0, h.d1, h.d2, h.d3].length = 4 := rfl
        generalize [h.s0, h.s1, h.s2, h.s3] ++ [h.d0, h.d1, h.d2, h.d3] = sd at *
        generalize [h.s0, h.s1, h.s2, h.s3] = sL at *
        generalize [h.d0, h.d1, h.d2, h.d3] = dL at *
        have lF := HW.out.lF
        have lB := HW.out.lB
        have lC := HW.out.lC
        have a3 := str_append Fr Bk
        have a4 := str_append Fr Cs
        have a5 := str_append (Fr ++ Cs) Bk
        have a6 := str_append (Fr ++ Cs ++ Bk) body
        rw [HW.out.pk] at a6
        have l4 : (Fr ++ Cs).length = 12 := by rw [List.length_append]; omega
        have l5 : (Fr ++ Cs ++ Bk).length ≤ 200 := by rw [List.length_append]; omega
        generalize hFCB : Fr ++ Cs ++ Bk = FCB at *
        generalize hFC : Fr ++ Cs = FC at *
        generalize hFB : Fr ++ Bk = FB at *
        clear hFCB hFC hFB hCs hFr hBk
        generalize pktL h body = pk at *
        go_wp2_with fail
        refine wp_region_noPanic ?_
        refine wp_region_held_drew (S := RPutS w h) (by kernel_rfl) (HSW.out.below (Below.refl _ _).drew) (fun hHeld => ?_)
        refine held_take (v := ?v363) 0 rfl (by kernel_rfl) (by kernel_rfl) (by kernel_rfl) (fun _ _ _ h => h) (by rfl) ?y363 (by assumption) ?_
        case y363 => (intro w hSw; unfold RPutS at hSw; go_simp; (try with_reducible rfl); (try omega))
        simp only [List.setIfInBounds_toArray, List.set_cons_zero, List.set_cons_succ]
        refine held_take (v := ?v366) 1 rfl (by kernel_rfl) (by kernel_rfl) (by kernel_rfl) (fun _ _ _ h => h) (by rfl) ?y366 (by assumption) ?_
        case y366 => (intro w hSw; unfold RPutS at hSw; go_simp; (try with_reducible rfl); (try omega))
        simp only [List.setIfInBounds_toArray, List.set_cons_zero, List.set_cons_succ]
        refine held_take (v := ?v369) 3 rfl (by kernel_rfl) (by kernel_rfl) (by kernel_rfl) (fun _ _ _ h => h) (by rfl) ?y369 (by assumption) ?_
        case y369 => (intro w hSw; unfold RPutS at hSw; go_simp; (try with_reducible rfl); (try omega))
        simp only [List.setIfInBounds_toArray, List.set_cons_zero, List.set_cons_succ]
        refine held_take (v := ?v372) 4 rfl (by kernel_rfl) (by kernel_rfl) (by kernel_rfl) (fun _ _ _ h => h) (by rfl) ?y372 (by assumption) ?_
        case y372 => (intro w hSw; unfold RPutS at hSw; go_simp; (try with_reducible rfl); (try omega))
        simp only [List.setIfInBounds_toArray, List.set_cons_zero, List.set_cons_succ]
        refine held_take (v := ?v375) 7 rfl (by kernel_rfl) (by kernel_rfl) (by kernel_rfl) (fun _ _ _ h => h) (by rfl) ?y375 (by assumption) ?_
        case y375 => (intro w hSw; unfold RPutS at hSw; go_simp; (try with_reducible rfl); (try omega))
        simp only [List.setIfInBounds_toArray, List.set_cons_zero, List.set_cons_succ]
        refine held_take (v := ?v378) 8 rfl (by kernel_rfl) (by kernel_rfl) (by kernel_rfl) (fun _ _ _ h => h) (by rfl) ?y378 (by assumption) ?_
        case y378 => (intro w hSw; unfold RPutS at hSw; go_simp; (try with_reducible rfl); (try omega))
        simp only [List.setIfInBounds_toArray, List.set_cons_zero, List.set_cons_succ]
        refine held_one 2 rfl (by kernel_rfl) (by rfl) (fun K hK => ?_)
        go_simp
        refine (HT1.out _).mono ?_
        rintro e w4 ⟨rfl, b4⟩
        refine hK.out _ _ (hHeld.below b4) (fun hHeld4 => ?_)
        clear hK K hHeld b4
        refine held_one 5 rfl (by kernel_rfl) (by rfl) (fun K hK => ?_)
        go_simp
        refine (HT2.out _).mono ?_
        rintro e w5 ⟨rfl, b5⟩
        refine hK.out _ _ (hHeld4.below b5) (fun hHeld5 => ?_)
        clear hK K hHeld4 b5
        have nb : ¬ 9223372036854775807 < 8 + h.opt.length := by omega
        refine held_take (v := ?v394) 6 rfl (by kernel_rfl) (by kernel_rfl) (by kernel_rfl) (fun _ _ _ h => h) (by rfl) ?y394 (by assumption) ?_
        case y394 => (intro w hSw; unfold RPutS at hSw; go_simp; (try with_reducible rfl); (try omega))
        simp only [List.setIfInBounds_toArray, List.set_cons_zero, List.set_cons_succ]
        refine held_take (v := ?v397) 9 rfl (by kernel_rfl) (by kernel_rfl) (by kernel_rfl) (fun _ _ _ h => h) (by rfl) ?y397 (by assumption) ?_
        case y397 => (intro w hSw; unfold RPutS at hSw; go_simp; (try with_reducible rfl); (try omega))
        simp only [List.setIfInBounds_toArray, List.set_cons_zero, List.set_cons_succ]
        refine held_take (v := ?v400) 10 rfl (by kernel_rfl) (by kernel_rfl) (by kernel_rfl) (fun _ _ _ h => h) (by rfl) ?y400 (by assumption) ?_
        case y400 => (intro w hSw; unfold RPutS at hSw; go_simp; (try with_reducible rfl); (try omega))
        simp only [List.setIfInBounds_toArray, List.set_cons_zero, List.set_cons_succ]
        clear nb
        refine wpAnyH_done (by kernel_rfl) ?_ _
        refine NoPanic.normal ?_
        have HS5 := Lib.hid hHeld5
        clear hHeld5
        go_wp2_with (first | (go_at_call 31; refine (HOf.out _).mono ?_; rintro e w' ⟨rfl, rfl⟩) | (go_at_call 29; refine (HBc.out _).mono ?_; rintro e w6 ⟨rfl, b6⟩))
        go_ret2
        refine ⟨?_, below_up HS5.out.2.1 b6 HS5.out.2.1.size⟩
        rw [EC.out, EL.out]; rfl
    · rw [hkeep] at d3
      rw [hmore] at d4
      have hf2 : h.off + 8192 = (h.flags : Int) := by
        have := HFl.out
        rw [hkeep, hmore] at this
        simpa using this
      have HB20 := Lib.hid (fun W => rbytes_any h.flags 2 W (by omega) (by omega))
      have HB16 := Lib.hid (fun W => rbytes_any h.id 2 W (by omega) (by omega))
      have HB11 := Lib.hid (fun W => rbytes_any (h.size + body.length) 2 W (by omega) (by omega))
      rw [show (h.flags : Int) = IntKind.u64.wrap (h.flags : Int) by rw [IntKind.wrap_u64]; omega, ← hf2] at HB20
      rw [show (h.id : Int) = IntKind.u64.wrap (h.id : Int) by rw [IntKind.wrap_u64]; omega] at HB16
      rw [show ((h.size + body.length : Nat) : Int) = IntKind.u64.wrap ((h.size : Int) + (body.length : Int)) by rw [IntKind.wrap_u64]; omega] at HB11
      clear hf2 HFl hkeep hmore
      go_wp2_with fail
      refine wp_region_noPanic ?_
      refine wp_region_held_drew (S := RPutS w h) (by kernel_rfl) (HS2.out.below (Below.refl _ _).drew) (fun hHeld => ?_)
      refine held_take (v := h.val) 0 rfl (by kernel_rfl) (by kernel_rfl) (by kernel_rfl) (fun _ _ _ h => h) (by rfl) (fun W hSw => exec_load_hdr (.tmp 2) rfl w.heap.size h rfl hSw.1) (by assumption) ?_
      simp only [List.setIfInBounds_toArray, List.set_cons_zero, List.set_cons_succ]
      refine held_take (v := ?v430) 5 rfl (by kernel_rfl) (by kernel_rfl) (by kernel_rfl) (fun _ _ _ h => h) (by rfl) ?y430 (by assumption) ?_
      case y430 => (intro w hSw; unfold RPutS at hSw; go_simp; (try with_reducible rfl); (try omega))
      simp only [List.setIfInBounds_toArray, List.set_cons_zero, List.set_cons_succ]
      refine held_take (v := ?v433) 6 rfl (by kernel_rfl) (by kernel_rfl) (by kernel_rfl) (fun _ _ _ h => h) (by rfl) ?y433 (by assumption) ?_
      case y433 => (intro w hSw; unfold RPutS at hSw; go_simp; (try with_reducible rfl); (try omega))
      simp only [List.setIfInBounds_toArray, List.set_cons_zero, List.set_cons_succ]
      refine held_take (v := ?v436) 9 rfl (by kernel_rfl) (by kernel_rfl) (by kernel_rfl) (fun _ _ _ h => h) (by rfl) ?y436 (by assumption) ?_
      case y436 => (intro w hSw; unfold RPutS at hSw; go_simp; (try with_reducible rfl); (try omega))
      simp only [List.setIfInBounds_toArray, List.set_cons_zero, List.set_cons_succ]
      refine held_take (v := ?v439) 10 rfl (by kernel_rfl) (by kernel_rfl) (by kernel_rfl) (fun _ _ _ h => h) (by rfl) ?y439 (by assumption) ?_
      case y439 => (intro w hSw; unfold RPutS at hSw; go_simp; (try with_reducible rfl); (try omega))
      simp only [List.setIfInBounds_toArray, List.set_cons_zero, List.set_cons_succ]
      refine held_take (v := ?v442) 13 rfl (by kernel_rfl) (by kernel_rfl) (by kernel_rfl) (fun _ _ _ h => h) (by rfl) ?y442 (by assumption) ?_
      case y442 => (intro w hSw; unfold RPutS at hSw; go_simp; (try with_reducible rfl); (try omega))
      simp only [List.setIfInBounds_toArray, List.set_cons_zero, List.set_cons_succ]
      refine held_take (v := ?v445) 14 rfl (by kernel_rfl) (by kernel_rfl) (by kernel_rfl) (fun _ _ _ h => h) (by rfl) ?y445 (by assumption) ?_
      case y445 => (intro w hSw; unfold RPutS at hSw; go_simp; (try with_reducible rfl); (try omega))
      simp only [List.setIfInBounds_toArray, List.set_cons_zero, List.set_cons_succ]
      refine held_take (v := ?v448) 15 rfl (by kernel_rfl) (by kernel_rfl) (by kernel_rfl) (fun _ _ _ h => h) (by rfl) ?y448 (by assumption) ?_
      case y448 => (intro w hSw; unfold RPutS at hSw; go_simp; (try with_reducible rfl); (try omega))
      simp only [List.setIfInBounds_toArray, List.set_cons_zero, List.set_cons_succ]
      refine held_take (v := ?v451) 18 rfl (by kernel_rfl) (by kernel_rfl) (by kernel_rfl) (fun _ _ _ h => h) (by rfl) ?y451 (by assumption) ?_
      case y451 => (intro w hSw; unfold RPutS at hSw; go_simp; (try with_reducible rfl); (try omega))
      simp only [List.setIfInBounds_toArray, List.set_cons_zero, List.set_cons_succ]
      refine held_take (v := ?v454) 19 rfl (by kernel_rfl) (by kernel_rfl) (by kernel_rfl) (fun _ _ _ h => h) (by rfl) ?y454 (by assumption) ?_
      case y454 => (intro w hSw; unfold RPutS at hSw; go_simp; (try with_reducible rfl); (try omega))
      simp only [List.setIfInBounds_toArray, List.set_cons_zero, List.set_cons_succ]
      refine held_take (v := ?v457) 22 rfl (by kernel_rfl) (by kernel_rfl) (by kernel_rfl) (fun _ _ _ h => h) (by rfl) ?y457 (by assumption) ?_
      case y457 => (intro w hSw; unfold RPutS at hSw; go_simp; (try with_reducible rfl); (try omega))
      simp only [List.setIfInBounds_toArray, List.set_cons_zero, List.set_cons_succ]
      refine held_take (v := ?v460) 23 rfl (by kernel_rfl) (by kernel_rfl) (by kernel_rfl) (fun _ _ _ h => h) (by rfl) ?y460 (by assumption) ?_
      case y460 => (intro w hSw; unfold RPutS at hSw; go_simp; (try with_reducible rfl); (try omega))
      simp only [List.setIfInBounds_toArray, List.set_cons_zero, List.set_cons_succ]
      refine held_take (v := ?v463) 24 rfl (by kernel_rfl) (by kernel_rfl) (by kernel_rfl) (fun _ _ _ h => h) (by rfl) ?y463 (by assumption) ?_
      case y463 => (intro w hSw; unfold RPutS at hSw; go_simp; (try with_reducible rfl); (try omega))
      simp only [List.setIfInBounds_toArray, List.set_cons_zero, List.set_cons_succ]
      refine held_take (v := ?v466) 25 rfl (by kernel_rfl) (by kernel_rfl) (by kernel_rfl) (fun _ _ _ h => h) (by rfl) ?y466 (by assumption) ?_
      case y466 => (intro w hSw; unfold RPutS at hSw; go_simp; (try with_reducible rfl); (try omega))
      simp only [List.setIfInBounds_toArray, List.set_cons_zero, List.set_cons_succ]
      refine any_order0 (T := putT h body w _ _ _ _ _ _ _) putPend (PutF h (h.size + body.length)) (fun W W' => Below W.heap.size W W') (fun _ => undef) (by kernel_rfl) (by kernel_rfl) (putF_mono _ _) hHeld ?_ ?_
      · intro i hi x W hS hd K hK0
        have hK : Shut (∀ v w', RPutS w h w' → Below W.heap.size W w' → PutF h (h.size + body.length) i v w' → K ⟨putT h body w _ _ _ _ _ _ _ (upd x i v), []⟩ w') := hK0
        clear hK0
        simp only [putPend, List.mem_cons, List.not_mem_nil, or_false] at hi
        rcases hi with rfl | rfl | rfl | rfl | rfl | rfl | rfl | rfl | rfl | rfl | rfl | rfl | rfl | rfl | rfl | rfl
        · refine op_one 1 rfl ?_
          unfold putT
          go_simp
          refine (HS.out _).mono ?_
          rintro e w' ⟨rfl, b⟩
          exact hK.out _ _ (hS.below b) b rfl
        · have ea : x 1 = .int .i64 (h.size : Int) := hd 1 (by kernel_rfl) (by decide)
          refine op_value (T := putT h body w _ _ _ _ _ _ _) 2 (.int .i64 ((h.size / 4 : Nat) : Int)) W rfl ?_ rfl (hK.out _ _ hS (Below.refl _ _) rfl)
          unfold putT
          go_simp
          rw [IntKind.wrap_i64]; omega
        · have ea : x 2 = .int .i64 ((h.size / 4 : Nat) : Int) := hd 2 (by kernel_rfl) (by decide)
          refine op_value (T := putT h body w _ _ _ _ _ _ _) 3 (.int .i64 ((64 + h.size / 4 : Nat) : Int)) W rfl ?_ rfl (hK.out _ _ hS (Below.refl _ _) rfl)
          unfold putT
          go_simp
          rw [IntKind.wrap_i64]; omega
        · have ea : x 3 = .int .i64 ((64 + h.size / 4 : Nat) : Int) := hd 3 (by kernel_rfl) (by decide)
          refine op_value (T := putT h body w _ _ _ _ _ _ _) 4 (.int .u8 ((64 + h.size / 4 : Nat) : Int)) W rfl ?_ rfl (hK.out _ _ hS (Below.refl _ _) rfl)
          unfold putT
          go_simp
          rw [IntKind.wrap_u8]; omega
        · have ea : x 4 = .int .u8 ((64 + h.size / 4 : Nat) : Int) := hd 4 (by kernel_rfl) (by decide)
          have b : Below W.heap.size W (W.alloc (.cells #[.int .u8 ((64 + h.size / 4 : Nat) : Int), .int .u8 (h.tos.toNat : Int)] 5)) := (Below.refl _ _).alloc (Nat.le_refl _) _
          refine op_value (T := putT h body w _ _ _ _ _ _ _) 7 (.slice (some ⟨W.heap.size, 0, none⟩) 2 2) (W.alloc (.cells #[.int .u8 ((64 + h.size / 4 : Nat) : Int), .int .u8 (h.tos.toNat : Int)] 5)) rfl ?_ rfl (hK.out _ _ (hS.below b) b ⟨_, _, rfl, isB_built W [UInt8.ofNat (64 + h.size / 4), h.tos] _ (by show _ = #[Value.int .u8 ((UInt8.ofNat (64 + h.size / 4)).toNat : Int), .int .u8 (h.tos.toNat : Int)]; rw [first_byte HM.out]) (by simp)⟩)
          unfold putT
          go_simp
        · obtain ⟨a5, c5, ea, i5⟩ : PutF h (h.size + body.length) 7 (x 7) W := hd 7 (by kernel_rfl) (by decide)
          have hc := i5.conv (P := Try.prog) Try.underlying22 Try.underlying5 Try.underlying9
          refine op_value (T := putT h body w _ _ _ _ _ _ _) 8 (.string ⟨[UInt8.ofNat (64 + h.size / 4), h.tos].toArray⟩) W rfl ?_ rfl (hK.out _ _ hS (Below.refl _ _) rfl)
          unfold putT
          go_simp
        · refine op_one 11 rfl ?_
          unfold putT
          go_simp
          refine (HB11.out _).mono ?_
          rintro e w' ⟨rfl, b⟩
          exact hK.out _ _ (hS.below b) b rfl
        · have ea : x 8 = .string ⟨([UInt8.ofNat (64 + h.size / 4), h.tos]).toArray⟩ := hd 8 (by kernel_rfl) (by decide)
          have eb : x 11 = .string ⟨(lowB 2 (h.size + body.length)).toArray⟩ := hd 11 (by kernel_rfl) (by decide)
          have hst := str_append ([UInt8.ofNat (64 + h.size / 4), h.tos]) (lowB 2 (h.size + body.length))
          have l1 : ([UInt8.ofNat (64 + h.size / 4), h.tos]).length ≤ 100 := by simp
          have l2 : (lowB 2 (h.size + body.length)).length ≤ 100 := by simp [lowB_length]
          refine op_value (T := putT h body w _ _ _ _ _ _ _) 12 (.string ⟨([UInt8.ofNat (64 + h.size / 4), h.tos] ++ lowB 2 (h.size + body.length)).toArray⟩) W rfl ?_ rfl (hK.out _ _ hS (Below.refl _ _) rfl)
          unfold putT
          generalize [UInt8.ofNat (64 + h.size / 4), h.tos] = tp at *
          generalize lowB 2 (h.size + body.length) = tq at *
          go_simp
          omega
        · refine op_one 16 rfl ?_
          unfold putT
          go_simp
          refine (HB16.out _).mono ?_
          rintro e w' ⟨rfl, b⟩
          exact hK.out _ _ (hS.below b) b rfl
        · have ea : x 12 = .string ⟨([UInt8.ofNat (64 + h.size / 4), h.tos] ++ lowB 2 (h.size + body.length)).toArray⟩ := hd 12 (by kernel_rfl) (by decide)
          have eb : x 16 = .string ⟨(lowB 2 h.id).toArray⟩ := hd 16 (by kernel_rfl) (by decide)
          have hst := str_append ([UInt8.ofNat (64 + h.size / 4), h.tos] ++ lowB 2 (h.size + body.length)) (lowB 2 h.id)
          have l1 : ([UInt8.ofNat (64 + h.size / 4), h.tos] ++ lowB 2 (h.size + body.length)).length ≤ 100 := by simp [lowB_length]
          have l2 : (lowB 2 h.id).length ≤ 100 := by simp [lowB_length]
          refine op_value (T := putT h body w _ _ _ _ _ _ _) 17 (.string ⟨([UInt8.ofNat (64 + h.size / 4), h.tos] ++ lowB 2 (h.size + body.length) ++ lowB 2 h.id).toArray⟩) W rfl ?_ rfl (hK.out _ _ hS (Below.refl _ _) rfl)
          unfold putT
          generalize [UInt8.ofNat (64 + h.size / 4), h.tos] ++ lowB 2 (h.size + body.length) = tp at *
          generalize lowB 2 h.id = tq at *
          go_simp
          omega
        · refine op_one 20 rfl ?_
          unfold putT
          go_simp
          refine (HB20.out _).mono ?_
          rintro e w' ⟨rfl, b⟩
          exact hK.out _ _ (hS.below b) b rfl
        · have ea : x 17 = .string ⟨([UInt8.ofNat (64 + h.size / 4), h.tos] ++ lowB 2 (h.size + body.length) ++ lowB 2 h.id).toArray⟩ := hd 17 (by kernel_rfl) (by decide)
          have eb : x 20 = .string ⟨(lowB 2 h.flags).toArray⟩ := hd 20 (by kernel_rfl) (by decide)
          have hst := str_append ([UInt8.ofNat (64 + h.size / 4), h.tos] ++ lowB 2 (h.size + body.length) ++ lowB 2 h.id) (lowB 2 h.flags)
          have l1 : ([UInt8.ofNat (64 + h.size / 4), h.tos] ++ lowB 2 (h.size + body.length) ++ lowB 2 h.id).length ≤ 100 := by simp [lowB_length]
          have l2 : (lowB 2 h.flags).length ≤ 100 := by simp [lowB_length]
          refine op_value (T := putT h body w _ _ _ _ _ _ _) 21 (.string ⟨([UInt8.ofNat (64 + h.size / 4), h.tos] ++ lowB 2 (h.size + body.length) ++ lowB 2 h.id ++ lowB 2 h.flags).toArray⟩) W rfl ?_ rfl (hK.out _ _ hS (Below.refl _ _) rfl)
          unfold putT
          generalize [UInt8.ofNat (64 + h.size / 4), h.tos] ++ lowB 2 (h.size + body.length) ++ lowB 2 h.id = tp at *
          generalize lowB 2 h.flags = tq at *
          go_simp
          omega
        · skip
          have b : Below W.heap.size W (W.alloc (.cells #[.int .u8 (h.ttl.toNat : Int), .int .u8 (h.proto.toNat : Int)] 5)) := (Below.refl _ _).alloc (Nat.le_refl _) _
          refine op_value (T := putT h body w _ _ _ _ _ _ _) 26 (.slice (some ⟨W.heap.size, 0, none⟩) 2 2) (W.alloc (.cells #[.int .u8 (h.ttl.toNat : Int), .int .u8 (h.proto.toNat : Int)] 5)) rfl ?_ rfl (hK.out _ _ (hS.below b) b ⟨_, _, rfl, isB_built W [h.ttl, h.proto] _ rfl (by simp)⟩)
          unfold putT
          go_simp
        · obtain ⟨a5, c5, ea, i5⟩ : PutF h (h.size + body.length) 26 (x 26) W := hd 26 (by kernel_rfl) (by decide)
          have hc := i5.conv (P := Try.prog) Try.underlying22 Try.underlying5 Try.underlying9
          refine op_value (T := putT h body w _ _ _ _ _ _ _) 27 (.string ⟨[h.ttl, h.proto].toArray⟩) W rfl ?_ rfl (hK.out _ _ hS (Below.refl _ _) rfl)
          unfold putT
          go_simp
        · have ea : x 21 = .string ⟨([UInt8.ofNat (64 + h.size / 4), h.tos] ++ lowB 2 (h.size + body.length) ++ lowB 2 h.id ++ lowB 2 h.flags).toArray⟩ := hd 21 (by kernel_rfl) (by decide)
          have eb : x 27 = .string ⟨([h.ttl, h.proto]).toArray⟩ := hd 27 (by kernel_rfl) (by decide)
          have hst := str_append ([UInt8.ofNat (64 + h.size / 4), h.tos] ++ lowB 2 (h.size + body.length) ++ lowB 2 h.id ++ lowB 2 h.flags) ([h.ttl, h.proto])
          have l1 : ([UInt8.ofNat (64 + h.size / 4), h.tos] ++ lowB 2 (h.size + body.length) ++ lowB 2 h.id ++ lowB 2 h.flags).length ≤ 100 := by simp [lowB_length]
          have l2 : ([h.ttl, h.proto]).length ≤ 100 := by simp
          refine op_value (T := putT h body w _ _ _ _ _ _ _) 28 (.string ⟨([UInt8.ofNat (64 + h.size / 4), h.tos] ++ lowB 2 (h.size + body.length) ++ lowB 2 h.id ++ lowB 2 h.flags ++ [h.ttl, h.proto]).toArray⟩) W rfl ?_ rfl (hK.out _ _ hS (Below.refl _ _) rfl)
          unfold putT
          generalize [UInt8.ofNat (64 + h.size / 4), h.tos] ++ lowB 2 (h.size + body.length) ++ lowB 2 h.id ++ lowB 2 h.flags = tp at *
          generalize [h.ttl, h.proto] = tq at *
          go_simp
          omega
        · have ea : x 28 = .string ⟨(frontL h (h.size + body.length)).toArray⟩ := hd 28 (by kernel_rfl) (by decide)
          refine op_value (T := putT h body w _ _ _ _ _ _ _) 29 (.string ⟨(frontL h (h.size + body.length)).toArray⟩) W rfl ?_ rfl (hK.out _ _ hS (Below.refl _ _) rfl)
          unfold putT
          generalize (frontL h (h.size + body.length)) = tp at *
          go_simp
      · intro x W hS hF
        have e29 : x 29 = .string ⟨(frontL h (h.size + body.length)).toArray⟩ := hF 29 (by decide)
        have HW := Lib.hid (putW_of h body HM.out)
        have HSW := Lib.hid hS
        have eB : backL h = [h.s0, h.s1, h.s2, h.s3] ++ [h.d0, h.d1, h.d2, h.d3] ++ h.opt := by unfold backL; simp
        have HEB := Lib.hid eB
        have HT1 := Lib.hid (fun W => rtext_any h.s0 h.s1 h.s2 h.s3 W)
        have HT2 := Lib.hid (fun W => rtext_any h.d0 h.d1 h.d2 h.d3 W)
        have HOf := Lib.hid (fun W => rof_any ⟨(frontL h (h.size + body.length) ++ backL h).toArray⟩ W (by have h1 := HW.out.lF; have h2 := HW.out.lB; show (frontL h (h.size + body.length) ++ backL h).toArray.size ≤ 1000000; simp; omega))
        rw [show (⟨(frontL h (h.size + body.length) ++ backL h).toArray⟩ : ByteArray).data.toList = frontL h (h.size + body.length) ++ backL h from rfl, HW.out.fb] at HOf
        have hsm := hsum_le h (h.size + body.length)
        have HBc := Lib.hid (fun W => rbytes_any (hsum h (h.size + body.length)) 2 W (by omega) (by omega))
        clear hF eB hHeld HB11 HB16 HB20 hS
        refine NoPanic.normal ?_
        unfold putT
        generalize hFr : frontL h (h.size + body.length) = Fr at *
        generalize hBk : backL h = Bk at *
        generalize hCs : lowB 2 (hsum h (h.size + body.length)) = Cs at *
        generalize hsum h (h.size + body.length) = hc at *
        have a1 := str_append [h.s0, h.s1, h.s2, h.s3] [h.d0, h.d1, h.d2, h.d3]
        have a2 := str_append ([h.s0, h.s1, h.s2, h.s3] ++ [h.d0, h.d1, h.d2, h.d3]) h.opt
        rw [← HEB.out] at a2
        have l1 : ([h.s0, h.s1, h.s2, h.s3] ++ [h.d0, h.d1, h.d2, h.d3]).length = 8 := rfl
        have l2 : [h.s0, h.s1, h.s2, h.s3].length = 4 := rfl
        have l3 : [h.d0, h.d1, h.d2, h.d3].length = 4 := rfl
        generalize [h.s0, h.s1, h.s2, h.s3] ++ [h.d0, h.d1, h.d2, h.d3] = sd at *
        generalize [h.s0, h.s1, h.s2, h.s3] = sL at *
        generalize [h.d0, h.d1, h.d2, h.d3] = dL at *
        have lF := HW.out.lF
        have lB := HW.out.lB
        have lC := HW.out.lC
        have a3 := str_append Fr Bk
        have a4 := str_append Fr Cs
        have a5 := str_append (Fr ++ Cs) Bk
        have a6 := str_append (Fr ++ Cs ++ Bk) body
        rw [HW.out.pk] at a6
        have l4 : (Fr ++ Cs).length = 12 := by rw [List.length_append]; omega
        have l5 : (Fr ++ Cs ++ Bk).length ≤ 200 := by rw [List.length_append]; omega
        generalize hFCB : Fr ++ Cs ++ Bk = FCB at *
        generalize hFC : Fr ++ Cs = FC at *
        generalize hFB : Fr ++ Bk = FB at *
        clear hFCB hFC hFB hCs hFr hBk
        generalize pktL h body = pk at *
        go_wp2_with fail
        refine wp_region_noPanic ?_
        refine wp_region_held_drew (S := RPutS w h) (by kernel_rfl) (HSW.out.below (Below.refl _ _).drew) (fun hHeld => ?_)
        refine held_take (v := ?v629) 0 rfl (by kernel_rfl) (by kernel_rfl) (by kernel_rfl) (fun _ _ _ h => h) (by rfl) ?y629 (by assumption) ?_
        case y629 => (intro w hSw; unfold RPutS at hSw; go_simp; (try with_reducible rfl); (try omega))
        simp only [List.setIfInBounds_toArray, List.set_cons_zero, List.set_cons_succ]
        refine held_take (v := ?v632) 1 rfl (by kernel_rfl) (by kernel_rfl) (by kernel_rfl) (fun _ _ _ h => h) (by rfl) ?y632 (by assumption) ?_
        case y632 => (intro w hSw; unfold RPutS at hSw; go_simp; (try with_reducible rfl); (try omega))
        simp only [List.setIfInBounds_toArray, List.set_cons_zero, List.set_cons_succ]
        refine held_take (v := ?v635) 3 rfl (by kernel_rfl) (by kernel_rfl) (by kernel_rfl) (fun _ _ _ h => h) (by rfl) ?y635 (by assumption) ?_
        case y635 => (intro w hSw; unfold RPutS at hSw; go_simp; (try with_reducible rfl); (try omega))
        simp only [List.setIfInBounds_toArray, List.set_cons_zero, List.set_cons_succ]
        refine held_take (v := ?v638) 4 rfl (by kernel_rfl) (by kernel_rfl) (by kernel_rfl) (fun _ _ _ h => h) (by rfl) ?y638 (by assumption) ?_
        case y638 => (intro w hSw; unfold RPutS at hSw; go_simp; (try with_reducible rfl); (try omega))
        simp only [List.setIfInBounds_toArray, List.set_cons_zero, List.set_cons_succ]
        refine held_take (v := ?v641) 7 rfl (by kernel_rfl) (by kernel_rfl) (by kernel_rfl) (fun _ _ _ h => h) (by rfl) ?y641 (by assumption) ?_
        case y641 => (intro w hSw; unfold RPutS at hSw; go_simp; (try with_reducible rfl); (try omega))
        simp only [List.setIfInBounds_toArray, List.set_cons_zero, List.set_cons_succ]
        refine held_take (v := ?v644) 8 rfl (by kernel_rfl) (by kernel_rfl) (by kernel_rfl) (fun _ _ _ h => h) (by rfl) ?y644 (by assumption) ?_
        case y644 => (intro w hSw; unfold RPutS at hSw; go_simp; (try with_reducible rfl); (try omega))
        simp only [List.setIfInBounds_toArray, List.set_cons_zero, List.set_cons_succ]
        refine held_one 2 rfl (by kernel_rfl) (by rfl) (fun K hK => ?_)
        go_simp
        refine (HT1.out _).mono ?_
        rintro e w4 ⟨rfl, b4⟩
        refine hK.out _ _ (hHeld.below b4) (fun hHeld4 => ?_)
        clear hK K hHeld b4
        refine held_one 5 rfl (by kernel_rfl) (by rfl) (fun K hK => ?_)
        go_simp
        refine (HT2.out _).mono ?_
        rintro e w5 ⟨rfl, b5⟩
        refine hK.out _ _ (hHeld4.below b5) (fun hHeld5 => ?_)
        clear hK K hHeld4 b5
        have nb : ¬ 9223372036854775807 < 8 + h.opt.length := by omega
        refine held_take (v := ?v660) 6 rfl (by kernel_rfl) (by kernel_rfl) (by kernel_rfl) (fun _ _ _ h => h) (by rfl) ?y660 (by assumption) ?_
        case y660 => (intro w hSw; unfold RPutS at hSw; go_simp; (try with_reducible rfl); (try omega))
        simp only [List.setIfInBounds_toArray, List.set_cons_zero, List.set_cons_succ]
        refine held_take (v := ?v663) 9 rfl (by kernel_rfl) (by kernel_rfl) (by kernel_rfl) (fun _ _ _ h => h) (by rfl) ?y663 (by assumption) ?_
        case y663 => (intro w hSw; unfold RPutS at hSw; go_simp; (try with_reducible rfl); (try omega))
        simp only [List.setIfInBounds_toArray, List.set_cons_zero, List.set_cons_succ]
        refine held_take (v := ?v666) 10 rfl (by kernel_rfl) (by kernel_rfl) (by kernel_rfl) (fun _ _ _ h => h) (by rfl) ?y666 (by assumption) ?_
        case y666 => (intro w hSw; unfold RPutS at hSw; go_simp; (try with_reducible rfl); (try omega))
        simp only [List.setIfInBounds_toArray, List.set_cons_zero, List.set_cons_succ]
        clear nb
        refine wpAnyH_done (by kernel_rfl) ?_ _
        refine NoPanic.normal ?_
        have HS5 := Lib.hid hHeld5
        clear hHeld5
        go_wp2_with (first | (go_at_call 31; refine (HOf.out _).mono ?_; rintro e w' ⟨rfl, rfl⟩) | (go_at_call 29; refine (HBc.out _).mono ?_; rintro e w6 ⟨rfl, b6⟩))
        go_ret2
        refine ⟨?_, below_up HS5.out.2.1 b6 HS5.out.2.1.size⟩
        rw [EC.out, EL.out]; rfl
    · rw [hkeep] at d3
      rw [hmore] at d4
      have hf2 : h.off + 16384 = (h.flags : Int) := by
        have := HFl.out
        rw [hkeep, hmore] at this
        simpa using this
      have HB20 := Lib.hid (fun W => rbytes_any h.flags 2 W (by omega) (by omega))
      have HB16 := Lib.hid (fun W => rbytes_any h.id 2 W (by omega) (by omega))
      have HB11 := Lib.hid (fun W => rbytes_any (h.size + body.length) 2 W (by omega) (by omega))
      rw [show (h.flags : Int) = IntKind.u64.wrap (h.flags : Int) by rw [IntKind.wrap_u64]; omega, ← hf2] at HB20
      rw [show (h.id : Int) = IntKind.u64.wrap (h.id : Int) by rw [IntKind.wrap_u64]; omega] at HB16
      rw [show ((h.size + body.length : Nat) : Int) = IntKind.u64.wrap ((h.size : Int) + (body.length : Int)) by rw [IntKind.wrap_u64]; omega] at HB11
      clear hf2 HFl hkeep hmore
      go_wp2_with fail
      refine wp_region_noPanic ?_
      refine wp_region_held_drew (S := RPutS w h) (by kernel_rfl) (HS2.out.below (Below.refl _ _).drew) (fun hHeld => ?_)
      refine held_take (v := h.val) 0 rfl (by kernel_rfl) (by kernel_rfl) (by kernel_rfl) (fun _ _ _ h => h) (by rfl) (fun W hSw => exec_load_hdr (.tmp 2) rfl w.heap.size h rfl hSw.1) (by assumption) ?_
      simp only [List.setIfInBounds_toArray, List.set_cons_zero, List.set_cons_succ]
      refine held_take (v := ?v696) 5 rfl (by kernel_rfl) (by kernel_rfl) (by kernel_rfl) (fun _ _ _ h => h) (by rfl) ?y696 (by assumption) ?_
      case y696 => (intro w hSw; unfold RPutS at hSw; go_simp; (try with_reducible rfl); (try omega))
      simp only [List.setIfInBounds_toArray, List.set_cons_zero, List.set_cons_succ]
      refine held_take (v := ?v699) 6 rfl (by kernel_rfl) (by kernel_rfl) (by kernel_rfl) (fun _ _ _ h => h) (by rfl) ?y699 (by assumption) ?_
      case y699 => (intro w hSw; unfold RPutS at hSw; go_simp; (try with_reducible rfl); (try omega))
      simp only [List.setIfInBounds_toArray, List.set_cons_zero, List.set_cons_succ]
      refine held_take (v := ?v702) 9 rfl (by kernel_rfl) (by kernel_rfl) (by kernel_rfl) (fun _ _ _ h => h) (by rfl) ?y702 (by assumption) ?_
      case y702 => (intro w hSw; unfold RPutS at hSw; go_simp; (try with_reducible rfl); (try omega))
      simp only [List.setIfInBounds_toArray, List.set_cons_zero, List.set_cons_succ]
      refine held_take (v := ?v705) 10 rfl (by kernel_rfl) (by kernel_rfl) (by kernel_rfl) (fun _ _ _ h => h) (by rfl) ?y705 (by assumption) ?_
      case y705 => (intro w hSw; unfold RPutS at hSw; go_simp; (try with_reducible rfl); (try omega))
      simp only [List.setIfInBounds_toArray, List.set_cons_zero, List.set_cons_succ]
      refine held_take (v := ?v708) 13 rfl (by kernel_rfl) (by kernel_rfl) (by kernel_rfl) (fun _ _ _ h => h) (by rfl) ?y708 (by assumption) ?_
      case y708 => (intro w hSw; unfold RPutS at hSw; go_simp; (try with_reducible rfl); (try omega))
      simp only [List.setIfInBounds_toArray, List.set_cons_zero, List.set_cons_succ]
      refine held_take (v := ?v711) 14 rfl (by kernel_rfl) (by kernel_rfl) (by kernel_rfl) (fun _ _ _ h => h) (by rfl) ?y711 (by assumption) ?_
      case y711 => (intro w hSw; unfold RPutS at hSw; go_simp; (try with_reducible rfl); (try omega))
      simp only [List.setIfInBounds_toArray, List.set_cons_zero, List.set_cons_succ]
      refine held_take (v := ?v714) 15 rfl (by kernel_rfl) (by kernel_rfl) (by kernel_rfl) (fun _ _ _ h => h) (by rfl) ?y714 (by assumption) ?_
      case y714 => (intro w hSw; unfold RPutS at hSw; go_simp; (try with_reducible rfl); (try omega))
      simp only [List.setIfInBounds_toArray, List.set_cons_zero, List.set_cons_succ]
      refine held_take (v := ?v717) 18 rfl (by kernel_rfl) (by kernel_rfl) (by kernel_rfl) (fun _ _ _ h => h) (by rfl) ?y717 (by assumption) ?_
      case y717 => (intro w hSw; unfold RPutS at hSw; go_simp; (try with_reducible rfl); (try omega))
      simp only [List.setIfInBounds_toArray, List.set_cons_zero, List.set_cons_succ]
      refine held_take (v := ?v720) 19 rfl (by kernel_rfl) (by kernel_rfl) (by kernel_rfl) (fun _ _ _ h => h) (by rfl) ?y720 (by assumption) ?_
      case y720 => (intro w hSw; unfold RPutS at hSw; go_simp; (try with_reducible rfl); (try omega))
      simp only [List.setIfInBounds_toArray, List.set_cons_zero, List.set_cons_succ]
      refine held_take (v := ?v723) 22 rfl (by kernel_rfl) (by kernel_rfl) (by kernel_rfl) (fun _ _ _ h => h) (by rfl) ?y723 (by assumption) ?_
      case y723 => (intro w hSw; unfold RPutS at hSw; go_simp; (try with_reducible rfl); (try omega))
      simp only [List.setIfInBounds_toArray, List.set_cons_zero, List.set_cons_succ]
      refine held_take (v := ?v726) 23 rfl (by kernel_rfl) (by kernel_rfl) (by kernel_rfl) (fun _ _ _ h => h) (by rfl) ?y726 (by assumption) ?_
      case y726 => (intro w hSw; unfold RPutS at hSw; go_simp; (try with_reducible rfl); (try omega))
      simp only [List.setIfInBounds_toArray, List.set_cons_zero, List.set_cons_succ]
      refine held_take (v := ?v729) 24 rfl (by kernel_rfl) (by kernel_rfl) (by kernel_rfl) (fun _ _ _ h => h) (by rfl) ?y729 (by assumption) ?_
      case y729 => (intro w hSw; unfold RPutS at hSw; go_simp; (try with_reducible rfl); (try omega))
      simp only [List.setIfInBounds_toArray, List.set_cons_zero, List.set_cons_succ]
      refine held_take (v := ?v732) 25 rfl (by kernel_rfl) (by kernel_rfl) (by kernel_rfl) (fun _ _ _ h => h) (by rfl) ?y732 (by assumption) ?_
      case y732 => (intro w hSw; unfold RPutS at hSw; go_simp; (try with_reducible rfl); (try omega))
      simp only [List.setIfInBounds_toArray, List.set_cons_zero, List.set_cons_succ]
      refine any_order0 (T := putT h body w _ _ _ _ _ _ _) putPend (PutF h (h.size + body.length)) (fun W W' => Below W.heap.size W W') (fun _ => undef) (by kernel_rfl) (by kernel_rfl) (putF_mono _ _) hHeld ?_ ?_
      · intro i hi x W hS hd K hK0
        have hK : Shut (∀ v w', RPutS w h w' → Below W.heap.size W w' → PutF h (h.size + body.length) i v w' → K ⟨putT h body w _ _ _ _ _ _ _ (upd x i v), []⟩ w') := hK0
        clear hK0
        simp only [putPend, List.mem_cons, List.not_mem_nil, or_false] at hi
        rcases hi with rfl | rfl | rfl | rfl | rfl | rfl | rfl | rfl | rfl | rfl | rfl | rfl | rfl | rfl | rfl | rfl
        · refine op_one 1 rfl ?_
          unfold putT
          go_simp
          refine (HS.out _).mono ?_
          rintro e w' ⟨rfl, b⟩
          exact hK.out _ _ (hS.below b) b rfl
        · have ea : x 1 = .int .i64 (h.size : Int) := hd 1 (by kernel_rfl) (by decide)
          refine op_value (T := putT h body w _ _ _ _ _ _ _) 2 (.int .i64 ((h.size / 4 : Nat) : Int)) W rfl ?_ rfl (hK.out _ _ hS (Below.refl _ _) rfl)
          unfold putT
          go_simp
          rw [IntKind.wrap_i64]; omega
        · have ea : x 2 = .int .i64 ((h.size / 4 : Nat) : Int) := hd 2 (by kernel_rfl) (by decide)
          refine op_value (T := putT h body w _ _ _ _ _ _ _) 3 (.int .i64 ((64 + h.size / 4 : Nat) : Int)) W rfl ?_ rfl (hK.out _ _ hS (Below.refl _ _) rfl)
          unfold putT
          go_simp
          rw [IntKind.wrap_i64]; omega
        · have ea : x 3 = .int .i64 ((64 + h.size / 4 : Nat) : Int) := hd 3 (by kernel_rfl) (by decide)
          refine op_value (T := putT h body w _ _ _ _ _ _ _) 4 (.int .u8 ((64 + h.size / 4 : Nat) : Int)) W rfl ?_ rfl (hK.out _ _ hS (Below.refl _ _) rfl)
          unfold putT
          go_simp
          rw [IntKind.wrap_u8]; omega
        · have ea : x 4 = .int .u8 ((64 + h.size / 4 : Nat) : Int) := hd 4 (by kernel_rfl) (by decide)
          have b : Below W.heap.size W (W.alloc (.cells #[.int .u8 ((64 + h.size / 4 : Nat) : Int), .int .u8 (h.tos.toNat : Int)] 5)) := (Below.refl _ _).alloc (Nat.le_refl _) _
          refine op_value (T := putT h body w _ _ _ _ _ _ _) 7 (.slice (some ⟨W.heap.size, 0, none⟩) 2 2) (W.alloc (.cells #[.int .u8 ((64 + h.size / 4 : Nat) : Int), .int .u8 (h.tos.toNat : Int)] 5)) rfl ?_ rfl (hK.out _ _ (hS.below b) b ⟨_, _, rfl, isB_built W [UInt8.ofNat (64 + h.size / 4), h.tos] _ (by show _ = #[Value.int .u8 ((UInt8.ofNat (64 + h.size / 4)).toNat : Int), .int .u8 (h.tos.toNat : Int)]; rw [first_byte HM.out]) (by simp)⟩)
          unfold putT
          go_simp
        · obtain ⟨a5, c5, ea, i5⟩ : PutF h (h.size + body.length) 7 (x 7) W := hd 7 (by kernel_rfl) (by decide)
          have hc := i5.conv (P := Try.prog) Try.underlying22 Try.underlying5 Try.underlying9
          refine op_value (T := putT h body w _ _ _ _ _ _ _) 8 (.string ⟨[UInt8.ofNat (64 + h.size / 4), h.tos].toArray⟩) W rfl ?_ rfl (hK.out _ _ hS (Below.refl _ _) rfl)
          unfold putT
          go_simp
        · refine op_one 11 rfl ?_
          unfold putT
          go_simp
          refine (HB11.out _).mono ?_
          rintro e w' ⟨rfl, b⟩
          exact hK.out _ _ (hS.below b) b rfl
        · have ea : x 8 = .string ⟨([UInt8.ofNat (64 + h.size / 4), h.tos]).toArray⟩ := hd 8 (by kernel_rfl) (by decide)
          have eb : x 11 = .string ⟨(lowB 2 (h.size + body.length)).toArray⟩ := hd 11 (by kernel_rfl) (by decide)
          have hst := str_append ([UInt8.ofNat (64 + h.size / 4), h.tos]) (lowB 2 (h.size + body.length))
          have l1 : ([UInt8.ofNat (64 + h.size / 4), h.tos]).length ≤ 100 := by simp
          have l2 : (lowB 2 (h.size + body.length)).length ≤ 100 := by simp [lowB_length]
          refine op_value (T := putT h body w _ _ _ _ _ _ _) 12 (.string ⟨([UInt8.ofNat (64 + h.size / 4), h.tos] ++ lowB 2 (h.size + body.length)).toArray⟩) W rfl ?_ rfl (hK.out _ _ hS (Below.refl _ _) rfl)
          unfold putT
          generalize [UInt8.ofNat (64 + h.size / 4), h.tos] = tp at *
          generalize lowB 2 (h.size + body.length) = tq at *
          go_simp
          omega
        · refine op_one 16 rfl ?_
          unfold putT
          go_simp
          refine (HB16.out _).mono ?_
          rintro e w' ⟨rfl, b⟩
          exact hK.out _ _ (hS.below b) b rfl
        · have ea : x 12 = .string ⟨([UInt8.ofNat (64 + h.size / 4), h.tos] ++ lowB 2 (h.size + body.length)).toArray⟩ := hd 12 (by kernel_rfl) (by decide)
          have eb : x 16 = .string ⟨(lowB 2 h.id).toArray⟩ := hd 16 (by kernel_rfl) (by decide)
          have hst := str_append ([UInt8.ofNat (64 + h.size / 4), h.tos] ++ lowB 2 (h.size + body.length)) (lowB 2 h.id)
          have l1 : ([UInt8.ofNat (64 + h.size / 4), h.tos] ++ lowB 2 (h.size + body.length)).length ≤ 100 := by simp [lowB_length]
          have l2 : (lowB 2 h.id).length ≤ 100 := by simp [lowB_length]
          refine op_value (T := putT h body w _ _ _ _ _ _ _) 17 (.string ⟨([UInt8.ofNat (64 + h.size / 4), h.tos] ++ lowB 2 (h.size + body.length) ++ lowB 2 h.id).toArray⟩) W rfl ?_ rfl (hK.out _ _ hS (Below.refl _ _) rfl)
          unfold putT
          generalize [UInt8.ofNat (64 + h.size / 4), h.tos] ++ lowB 2 (h.size + body.length) = tp at *
          generalize lowB 2 h.id = tq at *
          go_simp
          omega
        · refine op_one 20 rfl ?_
          unfold putT
          go_simp
          refine (HB20.out _).mono ?_
          rintro e w' ⟨rfl, b⟩
          exact hK.out _ _ (hS.below b) b rfl
        · have ea : x 17 = .string ⟨([UInt8.ofNat (64 + h.size / 4), h.tos] ++ lowB 2 (h.size + body.length) ++ lowB 2 h.id).toArray⟩ := hd 17 (by kernel_rfl) (by decide)
          have eb : x 20 = .string ⟨(lowB 2 h.flags).toArray⟩ := hd 20 (by kernel_rfl) (by decide)
          have hst := str_append ([UInt8.ofNat (64 + h.size / 4), h.tos] ++ lowB 2 (h.size + body.length) ++ lowB 2 h.id) (lowB 2 h.flags)
          have l1 : ([UInt8.ofNat (64 + h.size / 4), h.tos] ++ lowB 2 (h.size + body.length) ++ lowB 2 h.id).length ≤ 100 := by simp [lowB_length]
          have l2 : (lowB 2 h.flags).length ≤ 100 := by simp [lowB_length]
          refine op_value (T := putT h body w _ _ _ _ _ _ _) 21 (.string ⟨([UInt8.ofNat (64 + h.size / 4), h.tos] ++ lowB 2 (h.size + body.length) ++ lowB 2 h.id ++ lowB 2 h.flags).toArray⟩) W rfl ?_ rfl (hK.out _ _ hS (Below.refl _ _) rfl)
          unfold putT
          generalize [UInt8.ofNat (64 + h.size / 4), h.tos] ++ lowB 2 (h.size + body.length) ++ lowB 2 h.id = tp at *
          generalize lowB 2 h.flags = tq at *
          go_simp
          omega
        · skip
          have b : Below W.heap.size W (W.alloc (.cells #[.int .u8 (h.ttl.toNat : Int), .int .u8 (h.proto.toNat : Int)] 5)) := (Below.refl _ _).alloc (Nat.le_refl _) _
          refine op_value (T := putT h body w _ _ _ _ _ _ _) 26 (.slice (some ⟨W.heap.size, 0, none⟩) 2 2) (W.alloc (.cells #[.int .u8 (h.ttl.toNat : Int), .int .u8 (h.proto.toNat : Int)] 5)) rfl ?_ rfl (hK.out _ _ (hS.below b) b ⟨_, _, rfl, isB_built W [h.ttl, h.proto] _ rfl (by simp)⟩)
          unfold putT
          go_simp
        · obtain ⟨a5, c5, ea, i5⟩ : PutF h (h.size + body.length) 26 (x 26) W := hd 26 (by kernel_rfl) (by decide)
          have hc := i5.conv (P := Try.prog) Try.underlying22 Try.underlying5 Try.underlying9
          refine op_value (T := putT h body w _ _ _ _ _ _ _) 27 (.string ⟨[h.ttl, h.proto].toArray⟩) W rfl ?_ rfl (hK.out _ _ hS (Below.refl _ _) rfl)
          unfold putT
          go_simp
        · have ea : x 21 = .string ⟨([UInt8.ofNat (64 + h.size / 4), h.tos] ++ lowB 2 (h.size + body.length) ++ lowB 2 h.id ++ lowB 2 h.flags).toArray⟩ := hd 21 (by kernel_rfl) (by decide)
          have eb : x 27 = .string ⟨([h.ttl, h.proto]).toArray⟩ := hd 27 (by kernel_rfl) (by decide)
          have hst := str_append ([UInt8.ofNat (64 + h.size / 4), h.tos] ++ lowB 2 (h.size + body.length) ++ lowB 2 h.id ++ lowB 2 h.flags) ([h.ttl, h.proto])
          have l1 : ([UInt8.ofNat (64 + h.size / 4), h.tos] ++ lowB 2 (h.size + body.length) ++ lowB 2 h.id ++ lowB 2 h.flags).length ≤ 100 := by simp [lowB_length]
          have l2 : ([h.ttl, h.proto]).length ≤ 100 := by simp
          refine op_value (T := putT h body w _ _ _ _ _ _ _) 28 (.string ⟨([UInt8.ofNat (64 + h.size / 4), h.tos] ++ lowB 2 (h.size + body.length) ++ lowB 2 h.id ++ lowB 2 h.flags ++ [h.ttl, h.proto]).toArray⟩) W rfl ?_ rfl (hK.out _ _ hS (Below.refl _ _) rfl)
          unfold putT
          generalize [UInt8.ofNat (64 + h.size / 4), h.tos] ++ lowB 2 (h.size + body.length) ++ lowB 2 h.id ++ lowB 2 h.flags = tp at *
          generalize [h.ttl, h.proto] = tq at *
          go_simp
          omega
        · have ea : x 28 = .string ⟨(frontL h (h.size + body.length)).toArray⟩ := hd 28 (by kernel_rfl) (by decide)
          refine op_value (T := putT h body w _ _ _ _ _ _ _) 29 (.string ⟨(frontL h (h.size + body.length)).toArray⟩) W rfl ?_ rfl (hK.out _ _ hS (Below.refl _ _) rfl)
          unfold putT
          generalize (frontL h (h.size + body.length)) = tp at *
          go_simp
      · intro x W hS hF
        have e29 : x 29 = .string ⟨(frontL h (h.size + body.length)).toArray⟩ := hF 29 (by decide)
        have HW := Lib.hid (putW_of h body HM.out)
        have HSW := Lib.hid hS
        have eB : backL h = [h.s0, h.s1, h.s2, h.s3] ++ [h.d0, h.d1, h.d2, h.d3] ++ h.opt := by unfold backL; simp
        have HEB := Lib.hid eB
        have HT1 := Lib.hid (fun W => rtext_any h.s0 h.s1 h.s2 h.s3 W)
        have HT2 := Lib.hid (fun W => rtext_any h.d0 h.d1 h.d2 h.d3 W)
        have HOf := Lib.hid (fun W => rof_any ⟨(frontL h (h.size + body.length) ++ backL h).toArray⟩ W (by have h1 := HW.out.lF; have h2 := HW.out.lB; show (frontL h (h.size + body.length) ++ backL h).toArray.size ≤ 1000000; simp; omega))
        rw [show (⟨(frontL h (h.size + body.length) ++ backL h).toArray⟩ : ByteArray).data.toList = frontL h (h.size + body.length) ++ backL h from rfl, HW.out.fb] at HOf
        have hsm := hsum_le h (h.size + body.length)
        have HBc := Lib.hid (fun W => rbytes_any (hsum h (h.size + body.length)) 2 W (by omega) (by omega))
        clear hF eB hHeld HB11 HB16 HB20 hS
        refine NoPanic.normal ?_
        unfold putT
        generalize hFr : frontL h (h.size + body.length) = Fr at *
        generalize hBk : backL h = Bk at *
        generalize hCs : lowB 2 (hsum h (h.size + body.length)) = Cs at *
        generalize hsum h (h.size + body.length) = hc at *
        have a1 := str_append [h.s0, h.s1, h.s2, h.s3] [h.d0, h.d1, h.d2, h.d3]
        have a2 := str_append ([h.s0, h.s1, h.s2, h.s3] ++ [h.d0, h.d1, h.d2, h.d3]) h.opt
        rw [← HEB.out] at a2
        have l1 : ([h.s0, h.s1, h.s2, h.s3] ++ [h.d0, h.d1, h.d2, h.d3]).length = 8 := rfl
        have l2 : [h.s0, h.s1, h.s2, h.s3].length = 4 := rfl
        have l3 : [h.d0, h.d1, h.d2, h.d3].length = 4 := rfl
        generalize [h.s0, h.s1, h.s2, h.s3] ++ [h.d0, h.d1, h.d2, h.d3] = sd at *
        generalize [h.s0, h.s1, h.s2, h.s3] = sL at *
        generalize [h.d0, h.d1, h.d2, h.d3] = dL at *
        have lF := HW.out.lF
        have lB := HW.out.lB
        have lC := HW.out.lC
        have a3 := str_append Fr Bk
        have a4 := str_append Fr Cs
        have a5 := str_append (Fr ++ Cs) Bk
        have a6 := str_append (Fr ++ Cs ++ Bk) body
        rw [HW.out.pk] at a6
        have l4 : (Fr ++ Cs).length = 12 := by rw [List.length_append]; omega
        have l5 : (Fr ++ Cs ++ Bk).length ≤ 200 := by rw [List.length_append]; omega
        generalize hFCB : Fr ++ Cs ++ Bk = FCB at *
        generalize hFC : Fr ++ Cs = FC at *
        generalize hFB : Fr ++ Bk = FB at *
        clear hFCB hFC hFB hCs hFr hBk
        generalize pktL h body = pk at *
        go_wp2_with fail
        refine wp_region_noPanic ?_
        refine wp_region_held_drew (S := RPutS w h) (by kernel_rfl) (HSW.out.below (Below.refl _ _).drew) (fun hHeld => ?_)
        refine held_take (v := ?v895) 0 rfl (by kernel_rfl) (by kernel_rfl) (by kernel_rfl) (fun _ _ _ h => h) (by rfl) ?y895 (by assumption) ?_
        case y895 => (intro w hSw; unfold RPutS at hSw; go_simp; (try with_reducible rfl); (try omega))
        simp only [List.setIfInBounds_toArray, List.set_cons_zero, List.set_cons_succ]
        refine held_take (v := ?v898) 1 rfl (by kernel_rfl) (by kernel_rfl) (by kernel_rfl) (fun _ _ _ h => h) (by rfl) ?y898 (by assumption) ?_
        case y898 => (intro w hSw; unfold RPutS at hSw; go_simp; (try with_reducible rfl); (try omega))
        simp only [List.setIfInBounds_toArray, List.set_cons_zero, List.set_cons_succ]
        refine held_take (v := ?v901) 3 rfl (by kernel_rfl) (by kernel_rfl) (by kernel_rfl) (fun _ _ _ h => h) (by rfl) ?y901 (by assumption) ?_
        case y901 => (intro w hSw; unfold RPutS at hSw; go_simp; (try with_reducible rfl); (try omega))
        simp only [List.setIfInBounds_toArray, List.set_cons_zero, List.set_cons_succ]
        refine held_take (v := ?v904) 4 rfl (by kernel_rfl) (by kernel_rfl) (by kernel_rfl) (fun _ _ _ h => h) (by rfl) ?y904 (by assumption) ?_
        case y904 => (intro w hSw; unfold RPutS at hSw; go_simp; (try with_reducible rfl); (try omega))
        simp only [List.setIfInBounds_toArray, List.set_cons_zero, List.set_cons_succ]
        refine held_take (v := ?v907) 7 rfl (by kernel_rfl) (by kernel_rfl) (by kernel_rfl) (fun _ _ _ h => h) (by rfl) ?y907 (by assumption) ?_
        case y907 => (intro w hSw; unfold RPutS at hSw; go_simp; (try with_reducible rfl); (try omega))
        simp only [List.setIfInBounds_toArray, List.set_cons_zero, List.set_cons_succ]
        refine held_take (v := ?v910) 8 rfl (by kernel_rfl) (by kernel_rfl) (by kernel_rfl) (fun _ _ _ h => h) (by rfl) ?y910 (by assumption) ?_
        case y910 => (intro w hSw; unfold RPutS at hSw; go_simp; (try with_reducible rfl); (try omega))
        simp only [List.setIfInBounds_toArray, List.set_cons_zero, List.set_cons_succ]
        refine held_one 2 rfl (by kernel_rfl) (by rfl) (fun K hK => ?_)
        go_simp
        refine (HT1.out _).mono ?_
        rintro e w4 ⟨rfl, b4⟩
        refine hK.out _ _ (hHeld.below b4) (fun hHeld4 => ?_)
        clear hK K hHeld b4
        refine held_one 5 rfl (by kernel_rfl) (by rfl) (fun K hK => ?_)
        go_simp
        refine (HT2.out _).mono ?_
        rintro e w5 ⟨rfl, b5⟩
        refine hK.out _ _ (hHeld4.below b5) (fun hHeld5 => ?_)
        clear hK K hHeld4 b5
        have nb : ¬ 9223372036854775807 < 8 + h.opt.length := by omega
        refine held_take (v := ?v926) 6 rfl (by kernel_rfl) (by kernel_rfl) (by kernel_rfl) (fun _ _ _ h => h) (by rfl) ?y926 (by assumption) ?_
        case y926 => (intro w hSw; unfold RPutS at hSw; go_simp; (try with_reducible rfl); (try omega))
        simp only [List.setIfInBounds_toArray, List.set_cons_zero, List.set_cons_succ]
        refine held_take (v := ?v929) 9 rfl (by kernel_rfl) (by kernel_rfl) (by kernel_rfl) (fun _ _ _ h => h) (by rfl) ?y929 (by assumption) ?_
        case y929 => (intro w hSw; unfold RPutS at hSw; go_simp; (try with_reducible rfl); (try omega))
        simp only [List.setIfInBounds_toArray, List.set_cons_zero, List.set_cons_succ]
        refine held_take (v := ?v932) 10 rfl (by kernel_rfl) (by kernel_rfl) (by kernel_rfl) (fun _ _ _ h => h) (by rfl) ?y932 (by assumption) ?_
        case y932 => (intro w hSw; unfold RPutS at hSw; go_simp; (try with_reducible rfl); (try omega))
        simp only [List.setIfInBounds_toArray, List.set_cons_zero, List.set_cons_succ]
        clear nb
        refine wpAnyH_done (by kernel_rfl) ?_ _
        refine NoPanic.normal ?_
        have HS5 := Lib.hid hHeld5
        clear hHeld5
        go_wp2_with (first | (go_at_call 31; refine (HOf.out _).mono ?_; rintro e w' ⟨rfl, rfl⟩) | (go_at_call 29; refine (HBc.out _).mono ?_; rintro e w6 ⟨rfl, b6⟩))
        go_ret2
        refine ⟨?_, below_up HS5.out.2.1 b6 HS5.out.2.1.size⟩
        rw [EC.out, EL.out]; rfl
    · rw [hkeep] at d3
      rw [hmore] at d4
      have hf2 : h.off + 16384 + 8192 = (h.flags : Int) := by
        have := HFl.out
        rw [hkeep, hmore] at this
        simpa using this
      have HB20 := Lib.hid (fun W => rbytes_any h.flags 2 W (by omega) (by omega))
      have HB16 := Lib.hid (fun W => rbytes_any h.id 2 W (by omega) (by omega))
      have HB11 := Lib.hid (fun W => rbytes_any (h.size + body.length) 2 W (by omega) (by omega))
      rw [show (h.flags : Int) = IntKind.u64.wrap (h.flags : Int) by rw [IntKind.wrap_u64]; omega, ← hf2] at HB20
      rw [show (h.id : Int) = IntKind.u64.wrap (h.id : Int) by rw [IntKind.wrap_u64]; omega] at HB16
      rw [show ((h.size + body.length : Nat) : Int) = IntKind.u64.wrap ((h.size : Int) + (body.length : Int)) by rw [IntKind.wrap_u64]; omega] at HB11
      clear hf2 HFl hkeep hmore
      go_wp2_with fail
      refine wp_region_noPanic ?_
      refine wp_region_held_drew (S := RPutS w h) (by kernel_rfl) (HS2.out.below (Below.refl _ _).drew) (fun hHeld => ?_)
      refine held_take (v := h.val) 0 rfl (by kernel_rfl) (by kernel_rfl) (by kernel_rfl) (fun _ _ _ h => h) (by rfl) (fun W hSw => exec_load_hdr (.tmp 2) rfl w.heap.size h rfl hSw.1) (by assumption) ?_
      simp only [List.setIfInBounds_toArray, List.set_cons_zero, List.set_cons_succ]
      refine held_take (v := ?v962) 5 rfl (by kernel_rfl) (by kernel_rfl) (by kernel_rfl) (fun _ _ _ h => h) (by rfl) ?y962 (by assumption) ?_
      case y962 => (intro w hSw; unfold RPutS at hSw; go_simp; (try with_reducible rfl); (try omega))
      simp only [List.setIfInBounds_toArray, List.set_cons_zero, List.set_cons_succ]
      refine held_take (v := ?v965) 6 rfl (by kernel_rfl) (by kernel_rfl) (by kernel_rfl) (fun _ _ _ h => h) (by rfl) ?y965 (by assumption) ?_
      case y965 => (intro w hSw; unfold RPutS at hSw; go_simp; (try with_reducible rfl); (try omega))
      simp only [List.setIfInBounds_toArray, List.set_cons_zero, List.set_cons_succ]
      refine held_take (v := ?v968) 9 rfl (by kernel_rfl) (by kernel_rfl) (by kernel_rfl) (fun _ _ _ h => h) (by rfl) ?y968 (by assumption) ?_
      case y968 => (intro w hSw; unfold RPutS at hSw; go_simp; (try with_reducible rfl); (try omega))
      simp only [List.setIfInBounds_toArray, List.set_cons_zero, List.set_cons_succ]
      refine held_take (v := ?v971) 10 rfl (by kernel_rfl) (by kernel_rfl) (by kernel_rfl) (fun _ _ _ h => h) (by rfl) ?y971 (by assumption) ?_
      case y971 => (intro w hSw; unfold RPutS at hSw; go_simp; (try with_reducible rfl); (try omega))
      simp only [List.setIfInBounds_toArray, List.set_cons_zero, List.set_cons_succ]
      refine held_take (v := ?v974) 13 rfl (by kernel_rfl) (by kernel_rfl) (by kernel_rfl) (fun _ _ _ h => h) (by rfl) ?y974 (by assumption) ?_
      case y974 => (intro w hSw; unfold RPutS at hSw; go_simp; (try with_reducible rfl); (try omega))
      simp only [List.setIfInBounds_toArray, List.set_cons_zero, List.set_cons_succ]
      refine held_take (v := ?v977) 14 rfl (by kernel_rfl) (by kernel_rfl) (by kernel_rfl) (fun _ _ _ h => h) (by rfl) ?y977 (by assumption) ?_
      case y977 => (intro w hSw; unfold RPutS at hSw; go_simp; (try with_reducible rfl); (try omega))
      simp only [List.setIfInBounds_toArray, List.set_cons_zero, List.set_cons_succ]
      refine held_take (v := ?v980) 15 rfl (by kernel_rfl) (by kernel_rfl) (by kernel_rfl) (fun _ _ _ h => h) (by rfl) ?y980 (by assumption) ?_
      case y980 => (intro w hSw; unfold RPutS at hSw; go_simp; (try with_reducible rfl); (try omega))
      simp only [List.setIfInBounds_toArray, List.set_cons_zero, List.set_cons_succ]
      refine held_take (v := ?v983) 18 rfl (by kernel_rfl) (by kernel_rfl) (by kernel_rfl) (fun _ _ _ h => h) (by rfl) ?y983 (by assumption) ?_
      case y983 => (intro w hSw; unfold RPutS at hSw; go_simp; (try with_reducible rfl); (try omega))
      simp only [List.setIfInBounds_toArray, List.set_cons_zero, List.set_cons_succ]
      refine held_take (v := ?v986) 19 rfl (by kernel_rfl) (by kernel_rfl) (by kernel_rfl) (fun _ _ _ h => h) (by rfl) ?y986 (by assumption) ?_
      case y986 => (intro w hSw; unfold RPutS at hSw; go_simp; (try with_reducible rfl); (try omega))
      simp only [List.setIfInBounds_toArray, List.set_cons_zero, List.set_cons_succ]
      refine held_take (v := ?v989) 22 rfl (by kernel_rfl) (by kernel_rfl) (by kernel_rfl) (fun _ _ _ h => h) (by rfl) ?y989 (by assumption) ?_
      case y989 => (intro w hSw; unfold RPutS at hSw; go_simp; (try with_reducible rfl); (try omega))
      simp only [List.setIfInBounds_toArray, List.set_cons_zero, List.set_cons_succ]
      refine held_take (v := ?v992) 23 rfl (by kernel_rfl) (by kernel_rfl) (by kernel_rfl) (fun _ _ _ h => h) (by rfl) ?y992 (by assumption) ?_
      case y992 => (intro w hSw; unfold RPutS at hSw; go_simp; (try with_reducible rfl); (try omega))
      simp only [List.setIfInBounds_toArray, List.set_cons_zero, List.set_cons_succ]
      refine held_take (v := ?v995) 24 rfl (by kernel_rfl) (by kernel_rfl) (by kernel_rfl) (fun _ _ _ h => h) (by rfl) ?y995 (by assumption) ?_
      case y995 => (intro w hSw; unfold RPutS at hSw; go_simp; (try with_reducible rfl); (try omega))
      simp only [List.setIfInBounds_toArray, List.set_cons_zero, List.set_cons_succ]
      refine held_take (v := ?v998) 25 rfl (by kernel_rfl) (by kernel_rfl) (by kernel_rfl) (fun _ _ _ h => h) (by rfl) ?y998 (by assumption) ?_
      case y998 => (intro w hSw; unfold RPutS at hSw; go_simp; (try with_reducible rfl); (try omega))
      simp only [List.setIfInBounds_toArray, List.set_cons_zero, List.set_cons_succ]
      refine any_order0 (T := putT h body w _ _ _ _ _ _ _) putPend (PutF h (h.size + body.length)) (fun W W' => Below W.heap.size W W') (fun _ => undef) (by kernel_rfl) (by kernel_rfl) (putF_mono _ _) hHeld ?_ ?_
      · intro i hi x W hS hd K hK0
        have hK : Shut (∀ v w', RPutS w h w' → Below W.heap.size W w' → PutF h (h.size + body.length) i v w' → K ⟨putT h body w _ _ _ _ _ _ _ (upd x i v), []⟩ w') := hK0
        clear hK0
        simp only [putPend, List.mem_cons, List.not_mem_nil, or_false] at hi
        rcases hi with rfl | rfl | rfl | rfl | rfl | rfl | rfl | rfl | rfl | rfl | rfl | rfl | rfl | rfl | rfl | rfl
        · refine op_one 1 rfl ?_
          unfold putT
          go_simp
          refine (HS.out _).mono ?_
          rintro e w' ⟨rfl, b⟩
          exact hK.out _ _ (hS.below b) b rfl
        · have ea : x 1 = .int .i64 (h.size : Int) := hd 1 (by kernel_rfl) (by decide)
          refine op_value (T := putT h body w _ _ _ _ _ _ _) 2 (.int .i64 ((h.size / 4 : Nat) : Int)) W rfl ?_ rfl (hK.out _ _ hS (Below.refl _ _) rfl)
          unfold putT
          go_simp
          rw [IntKind.wrap_i64]; omega
        · have ea : x 2 = .int .i64 ((h.size / 4 : Nat) : Int) := hd 2 (by kernel_rfl) (by decide)
          refine op_value (T := putT h body w _ _ _ _ _ _ _) 3 (.int .i64 ((64 + h.size / 4 : Nat) : Int)) W rfl ?_ rfl (hK.out _ _ hS (Below.refl _ _) rfl)
          unfold putT
          go_simp
          rw [IntKind.wrap_i64]; omega
        · have ea : x 3 = .int .i64 ((64 + h.size / 4 : Nat) : Int) := hd 3 (by kernel_rfl) (by decide)
          refine op_value (T := putT h body w _ _ _ _ _ _ _) 4 (.int .u8 ((64 + h.size / 4 : Nat) : Int)) W rfl ?_ rfl (hK.out _ _ hS (Below.refl _ _) rfl)
          unfold putT
          go_simp
          rw [IntKind.wrap_u8]; omega
        · have ea : x 4 = .int .u8 ((64 + h.size / 4 : Nat) : Int) := hd 4 (by kernel_rfl) (by decide)
          have b : Below W.heap.size W (W.alloc (.cells #[.int .u8 ((64 + h.size / 4 : Nat) : Int), .int .u8 (h.tos.toNat : Int)] 5)) := (Below.refl _ _).alloc (Nat.le_refl _) _
          refine op_value (T := putT h body w _ _ _ _ _ _ _) 7 (.slice (some ⟨W.heap.size, 0, none⟩) 2 2) (W.alloc (.cells #[.int .u8 ((64 + h.size / 4 : Nat) : Int), .int .u8 (h.tos.toNat : Int)] 5)) rfl ?_ rfl (hK.out _ _ (hS.below b) b ⟨_, _, rfl, isB_built W [UInt8.ofNat (64 + h.size / 4), h.tos] _ (by show _ = #[Value.int .u8 ((UInt8.ofNat (64 + h.size / 4)).toNat : Int), .int .u8 (h.tos.toNat : Int)]; rw [first_byte HM.out]) (by simp)⟩)
          unfold putT
          go_simp
        · obtain ⟨a5, c5, ea, i5⟩ : PutF h (h.size + body.length) 7 (x 7) W := hd 7 (by kernel_rfl) (by decide)
          have hc := i5.conv (P := Try.prog) Try.underlying22 Try.underlying5 Try.underlying9
          refine op_value (T := putT h body w _ _ _ _ _ _ _) 8 (.string ⟨[UInt8.ofNat (64 + h.size / 4), h.tos].toArray⟩) W rfl ?_ rfl (hK.out _ _ hS (Below.refl _ _) rfl)
          unfold putT
          go_simp
        · refine op_one 11 rfl ?_
          unfold putT
          go_simp
          refine (HB11.out _).mono ?_
          rintro e w' ⟨rfl, b⟩
          exact hK.out _ _ (hS.below b) b rfl
        · have ea : x 8 = .string ⟨([UInt8.ofNat (64 + h.size / 4), h.tos]).toArray⟩ := hd 8 (by kernel_rfl) (by decide)
          have eb : x 11 = .string ⟨(lowB 2 (h.size + body.length)).toArray⟩ := hd 11 (by kernel_rfl) (by decide)
          have hst := str_append ([UInt8.ofNat (64 + h.size / 4), h.tos]) (lowB 2 (h.size + body.length))
          have l1 : ([UInt8.ofNat (64 + h.size / 4), h.tos]).length ≤ 100 := by simp
          have l2 : (lowB 2 (h.size + body.length)).length ≤ 100 := by simp [lowB_length]
          refine op_value (T := putT h body w _ _ _ _ _ _ _) 12 (.string ⟨([UInt8.ofNat (64 + h.size / 4), h.tos] ++ lowB 2 (h.size + body.length)).toArray⟩) W rfl ?_ rfl (hK.out _ _ hS (Below.refl _ _) rfl)
          unfold putT
          generalize [UInt8.ofNat (64 + h.size / 4), h.tos] = tp at *
          generalize lowB 2 (h.size + body.length) = tq at *
          go_simp
          omega
        · refine op_one 16 rfl ?_
          unfold putT
          go_simp
          refine (HB16.out _).mono ?_
          rintro e w' ⟨rfl, b⟩
          exact hK.out _ _ (hS.below b) b rfl
        · have ea : x 12 = .string ⟨([UInt8.ofNat (64 + h.size / 4), h.tos] ++ lowB 2 (h.size + body.length)).toArray⟩ := hd 12 (by kernel_rfl) (by decide)
          have eb : x 16 = .string ⟨(lowB 2 h.id).toArray⟩ := hd 16 (by kernel_rfl) (by decide)
          have hst := str_append ([UInt8.ofNat (64 + h.size / 4), h.tos] ++ lowB 2 (h.size + body.length)) (lowB 2 h.id)
          have l1 : ([UInt8.ofNat (64 + h.size / 4), h.tos] ++ lowB 2 (h.size + body.length)).length ≤ 100 := by simp [lowB_length]
          have l2 : (lowB 2 h.id).length ≤ 100 := by simp [lowB_length]
          refine op_value (T := putT h body w _ _ _ _ _ _ _) 17 (.string ⟨([UInt8.ofNat (64 + h.size / 4), h.tos] ++ lowB 2 (h.size + body.length) ++ lowB 2 h.id).toArray⟩) W rfl ?_ rfl (hK.out _ _ hS (Below.refl _ _) rfl)
          unfold putT
          generalize [UInt8.ofNat (64 + h.size / 4), h.tos] ++ lowB 2 (h.size + body.length) = tp at *
          generalize lowB 2 h.id = tq at *
          go_simp
          omega
        · refine op_one 20 rfl ?_
          unfold putT
          go_simp
          refine (HB20.out _).mono ?_
          rintro e w' ⟨rfl, b⟩
          exact hK.out _ _ (hS.below b) b rfl
        · have ea : x 17 = .string ⟨([UInt8.ofNat (64 + h.size / 4), h.tos] ++ lowB 2 (h.size + body.length) ++ lowB 2 h.id).toArray⟩ := hd 17 (by kernel_rfl) (by decide)
          have eb : x 20 = .string ⟨(lowB 2 h.flags).toArray⟩ := hd 20 (by kernel_rfl) (by decide)
          have hst := str_append ([UInt8.ofNat (64 + h.size / 4), h.tos] ++ lowB 2 (h.size + body.length) ++ lowB 2 h.id) (lowB 2 h.flags)
          have l1 : ([UInt8.ofNat (64 + h.size / 4), h.tos] ++ lowB 2 (h.size + body.length) ++ lowB 2 h.id).length ≤ 100 := by simp [lowB_length]
          have l2 : (lowB 2 h.flags).length ≤ 100 := by simp [lowB_length]
          refine op_value (T := putT h body w _ _ _ _ _ _ _) 21 (.string ⟨([UInt8.ofNat (64 + h.size / 4), h.tos] ++ lowB 2 (h.size + body.length) ++ lowB 2 h.id ++ lowB 2 h.flags).toArray⟩) W rfl ?_ rfl (hK.out _ _ hS (Below.refl _ _) rfl)
          unfold putT
          generalize [UInt8.ofNat (64 + h.size / 4), h.tos] ++ lowB 2 (h.size + body.length) ++ lowB 2 h.id = tp at *
          generalize lowB 2 h.flags = tq at *
          go_simp
          omega
        · skip
          have b : Below W.heap.size W (W.alloc (.cells #[.int .u8 (h.ttl.toNat : Int), .int .u8 (h.proto.toNat : Int)] 5)) := (Below.refl _ _).alloc (Nat.le_refl _) _
          refine op_value (T := putT h body w _ _ _ _ _ _ _) 26 (.slice (some ⟨W.heap.size, 0, none⟩) 2 2) (W.alloc (.cells #[.int .u8 (h.ttl.toNat : Int), .int .u8 (h.proto.toNat : Int)] 5)) rfl ?_ rfl (hK.out _ _ (hS.below b) b ⟨_, _, rfl, isB_built W [h.ttl, h.proto] _ rfl (by simp)⟩)
          unfold putT
          go_simp
        · obtain ⟨a5, c5, ea, i5⟩ : PutF h (h.size + body.length) 26 (x 26) W := hd 26 (by kernel_rfl) (by decide)
          have hc := i5.conv (P := Try.prog) Try.underlying22 Try.underlying5 Try.underlying9
          refine op_value (T := putT h body w _ _ _ _ _ _ _) 27 (.string ⟨[h.ttl, h.proto].toArray⟩) W rfl ?_ rfl (hK.out _ _ hS (Below.refl _ _) rfl)
          unfold putT
          go_simp
        · have ea : x 21 = .string ⟨([UInt8.ofNat (64 + h.size / 4), h.tos] ++ lowB 2 (h.size + body.length) ++ lowB 2 h.id ++ lowB 2 h.flags).toArray⟩ := hd 21 (by kernel_rfl) (by decide)
          have eb : x 27 = .string ⟨([h.ttl, h.proto]).toArray⟩ := hd 27 (by kernel_rfl) (by decide)
          have hst := str_append ([UInt8.ofNat (64 + h.size / 4), h.tos] ++ lowB 2 (h.size + body.length) ++ lowB 2 h.id ++ lowB 2 h.flags) ([h.ttl, h.proto])
          have l1 : ([UInt8.ofNat (64 + h.size / 4), h.tos] ++ lowB 2 (h.size + body.length) ++ lowB 2 h.id ++ lowB 2 h.flags).length ≤ 100 := by simp [lowB_length]
          have l2 : ([h.ttl, h.proto]).length ≤ 100 := by simp
          refine op_value (T := putT h body w _ _ _ _ _ _ _) 28 (.string ⟨([UInt8.ofNat (64 + h.size / 4), h.tos] ++ lowB 2 (h.size + body.length) ++ lowB 2 h.id ++ lowB 2 h.flags ++ [h.ttl, h.proto]).toArray⟩) W rfl ?_ rfl (hK.out _ _ hS (Below.refl _ _) rfl)
          unfold putT
          generalize [UInt8.ofNat (64 + h.size / 4), h.tos] ++ lowB 2 (h.size + body.length) ++ lowB 2 h.id ++ lowB 2 h.flags = tp at *
          generalize [h.ttl, h.proto] = tq at *
          go_simp
          omega
        · have ea : x 28 = .string ⟨(frontL h (h.size + body.length)).toArray⟩ := hd 28 (by kernel_rfl) (by decide)
          refine op_value (T := putT h body w _ _ _ _ _ _ _) 29 (.string ⟨(frontL h (h.size + body.length)).toArray⟩) W rfl ?_ rfl (hK.out _ _ hS (Below.refl _ _) rfl)
          unfold putT
          generalize (frontL h (h.size + body.length)) = tp at *
          go_simp
      · intro x W hS hF
        have e29 : x 29 = .string ⟨(frontL h (h.size + body.length)).toArray⟩ := hF 29 (by decide)
        have HW := Lib.hid (putW_of h body HM.out)
        have HSW := Lib.hid hS
        have eB : backL h = [h.s0, h.s1, h.s2, h.s3] ++ [h.d0, h.d1, h.d2, h.d3] ++ h.opt := by unfold backL; simp
        have HEB := Lib.hid eB
        have HT1 := Lib.hid (fun W => rtext_any h.s0 h.s1 h.s2 h.s3 W)
        have HT2 := Lib.hid (fun W => rtext_any h.d0 h.d1 h.d2 h.d3 W)
        have HOf := Lib.hid (fun W => rof_any ⟨(frontL h (h.size + body.length) ++ backL h).toArray⟩ W (by have h1 := HW.out.lF; have h2 := HW.out.lB; show (frontL h (h.size + body.length) ++ backL h).toArray.size ≤ 1000000; simp; omega))
        rw [show (⟨(frontL h (h.size + body.length) ++ backL h).toArray⟩ : ByteArray).data.toList = frontL h (h.size + body.length) ++ backL h from rfl, HW.out.fb] at HOf
        have hsm := hsum_le h (h.size + body.length)
        have HBc := Lib.hid (fun W => rbytes_any (hsum h (h.size + body.length)) 2 W (by omega) (by omega))
        clear hF eB hHeld HB11 HB16 HB20 hS
        refine NoPanic.normal ?_
        unfold putT
        generalize hFr : frontL h (h.size + body.length) = Fr at *
        generalize hBk : backL h = Bk at *
        generalize hCs : lowB 2 (hsum h (h.size + body.length)) = Cs at *
        generalize hsum h (h.size + body.length) = hc at *
        have a1 := str_append [h.s0, h.s1, h.s2, h.s3] [h.d0, h.d1, h.d2, h.d3]
        have a2 := str_append ([h.s0, h.s1, h.s2, h.s3] ++ [h.d0, h.d1, h.d2, h.d3]) h.opt
        rw [← HEB.out] at a2
        have l1 : ([h.s0, h.s1, h.s2, h.s3] ++ [h.d0, h.d1, h.d2, h.d3]).length = 8 := rfl
        have l2 : [h.s0, h.s1, h.s2, h.s3].length = 4 := rfl
        have l3 : [h.d0, h.d1, h.d2, h.d3].length = 4 := rfl
        generalize [h.s0, h.s1, h.s2, h.s3] ++ [h.d0, h.d1, h.d2, h.d3] = sd at *
        generalize [h.s0, h.s1, h.s2, h.s3] = sL at *
        generalize [h.d0, h.d1, h.d2, h.d3] = dL at *
        have lF := HW.out.lF
        have lB := HW.out.lB
        have lC := HW.out.lC
        have a3 := str_append Fr Bk
        have a4 := str_append Fr Cs
        have a5 := str_append (Fr ++ Cs) Bk
        have a6 := str_append (Fr ++ Cs ++ Bk) body
        rw [HW.out.pk] at a6
        have l4 : (Fr ++ Cs).length = 12 := by rw [List.length_append]; omega
        have l5 : (Fr ++ Cs ++ Bk).length ≤ 200 := by rw [List.length_append]; omega
        generalize hFCB : Fr ++ Cs ++ Bk = FCB at *
        generalize hFC : Fr ++ Cs = FC at *
        generalize hFB : Fr ++ Bk = FB at *
        clear hFCB hFC hFB hCs hFr hBk
        generalize pktL h body = pk at *
        go_wp2_with fail
        refine wp_region_noPanic ?_
        refine wp_region_held_drew (S := RPutS w h) (by kernel_rfl) (HSW.out.below (Below.refl _ _).drew) (fun hHeld => ?_)
        refine held_take (v := ?v1161) 0 rfl (by kernel_rfl) (by kernel_rfl) (by kernel_rfl) (fun _ _ _ h => h) (by rfl) ?y1161 (by assumption) ?_
        case y1161 => (intro w hSw; unfold RPutS at hSw; go_simp; (try with_reducible rfl); (try omega))
        simp only [List.setIfInBounds_toArray, List.set_cons_zero, List.set_cons_succ]
        refine held_take (v := ?v1164) 1 rfl (by kernel_rfl) (by kernel_rfl) (by kernel_rfl) (fun _ _ _ h => h) (by rfl) ?y1164 (by assumption) ?_
        case y1164 => (intro w hSw; unfold RPutS at hSw; go_simp; (try with_reducible rfl); (try omega))
        simp only [List.setIfInBounds_toArray, List.set_cons_zero, List.set_cons_succ]
        refine held_take (v := ?v1167) 3 rfl (by kernel_rfl) (by kernel_rfl) (by kernel_rfl) (fun _ _ _ h => h) (by rfl) ?y1167 (by assumption) ?_
        case y1167 => (intro w hSw; unfold RPutS at hSw; go_simp; (try with_reducible rfl); (try omega))
        simp only [List.setIfInBounds_toArray, List.set_cons_zero, List.set_cons_succ]
        refine held_take (v := ?v1170) 4 rfl (by kernel_rfl) (by kernel_rfl) (by kernel_rfl) (fun _ _ _ h => h) (by rfl) ?y1170 (by assumption) ?_
        case y1170 => (intro w hSw; unfold RPutS at hSw; go_simp; (try with_reducible rfl); (try omega))
        simp only [List.setIfInBounds_toArray, List.set_cons_zero, List.set_cons_succ]
        refine held_take (v := ?v1173) 7 rfl (by kernel_rfl) (by kernel_rfl) (by kernel_rfl) (fun _ _ _ h => h) (by rfl) ?y1173 (by assumption) ?_
        case y1173 => (intro w hSw; unfold RPutS at hSw; go_simp; (try with_reducible rfl); (try omega))
        simp only [List.setIfInBounds_toArray, List.set_cons_zero, List.set_cons_succ]
        refine held_take (v := ?v1176) 8 rfl (by kernel_rfl) (by kernel_rfl) (by kernel_rfl) (fun _ _ _ h => h) (by rfl) ?y1176 (by assumption) ?_
        case y1176 => (intro w hSw; unfold RPutS at hSw; go_simp; (try with_reducible rfl); (try omega))
        simp only [List.setIfInBounds_toArray, List.set_cons_zero, List.set_cons_succ]
        refine held_one 2 rfl (by kernel_rfl) (by rfl) (fun K hK => ?_)
        go_simp
        refine (HT1.out _).mono ?_
        rintro e w4 ⟨rfl, b4⟩
        refine hK.out _ _ (hHeld.below b4) (fun hHeld4 => ?_)
        clear hK K hHeld b4
        refine held_one 5 rfl (by kernel_rfl) (by rfl) (fun K hK => ?_)
        go_simp
        refine (HT2.out _).mono ?_
        rintro e w5 ⟨rfl, b5⟩
        refine hK.out _ _ (hHeld4.below b5) (fun hHeld5 => ?_)
        clear hK K hHeld4 b5
        have nb : ¬ 9223372036854775807 < 8 + h.opt.length := by omega
        refine held_take (v := ?v1192) 6 rfl (by kernel_rfl) (by kernel_rfl) (by kernel_rfl) (fun _ _ _ h => h) (by rfl) ?y1192 (by assumption) ?_
        case y1192 => (intro w hSw; unfold RPutS at hSw; go_simp; (try with_reducible rfl); (try omega))
        simp only [List.setIfInBounds_toArray, List.set_cons_zero, List.set_cons_succ]
        refine held_take (v := ?v1195) 9 rfl (by kernel_rfl) (by kernel_rfl) (by kernel_rfl) (fun _ _ _ h => h) (by rfl) ?y1195 (by assumption) ?_
        case y1195 => (intro w hSw; unfold RPutS at hSw; go_simp; (try with_reducible rfl); (try omega))
        simp only [List.setIfInBounds_toArray, List.set_cons_zero, List.set_cons_succ]
        refine held_take (v := ?v1198) 10 rfl (by kernel_rfl) (by kernel_rfl) (by kernel_rfl) (fun _ _ _ h => h) (by rfl) ?y1198 (by assumption) ?_
        case y1198 => (intro w hSw; unfold RPutS at hSw; go_simp; (try with_reducible rfl); (try omega))
        simp only [List.setIfInBounds_toArray, List.set_cons_zero, List.set_cons_succ]
        clear nb
        refine wpAnyH_done (by kernel_rfl) ?_ _
        refine NoPanic.normal ?_
        have HS5 := Lib.hid hHeld5
        clear hHeld5
        go_wp2_with (first | (go_at_call 31; refine (HOf.out _).mono ?_; rintro e w' ⟨rfl, rfl⟩) | (go_at_call 29; refine (HBc.out _).mono ?_; rintro e w6 ⟨rfl, b6⟩))
        go_ret2
        refine ⟨?_, below_up HS5.out.2.1 b6 HS5.out.2.1.size⟩
        rw [EC.out, EL.out]; rfl
  · have eC : RC = 13 := by rw [← HRC.out, if_neg hN]
    have eL : RL = [] := by rw [← HRL.out, if_neg hN]
    have EC := Lib.hid eC
    have EL := Lib.hid eL
    clear eC eL
    have hN2 : 65535 < (h.size : Int) + (body.length : Int) := by omega
    go_wp2
    go_ret2
    exact ⟨by rw [EC.out, EL.out]; rfl, HS2.out.2.1⟩
end Go.Proofs.Ytchkbdgoghcgcaa
