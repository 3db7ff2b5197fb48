/- Package ip4: header. Proved: what it returns. -/
import Derived.Test.YtchkbdgoghcgcaaIpL
import Derived.Test.YtchkbdgoghcgcaaOrd
import Derived.Laws.IdiomStrings
import Derived.Test.YtchkbdgoghcgcaaBaseMore
namespace Go.Proofs.Ytchkbdgoghcgcaa
open Go Go.RowKit

/-- What header reads, and the room that it writes. -/
def HdrS (w : World) (h : Hdr) (W : World) : Prop :=
  W.heap[w.heap.size]? = some (.cells h.cells 27 (0, 0)) ∧ Below w.heap.size w W ∧ (∃ c : List UInt8, c.length = 60 ∧ W.heap[w.heap.size + 1]? = some (.cells (byteVals c).toArray 71 (0, 0))) ∧
    W.cell? ⟨w.heap.size, 0, none⟩ = some (.int .u8 (h.tos.toNat : Int)) ∧ W.cell? ⟨w.heap.size, 1, none⟩ = some (.int .i64 h.len) ∧ W.cell? ⟨w.heap.size, 2, none⟩ = some (.int .u16 (h.id : Int)) ∧
    W.cell? ⟨w.heap.size, 6, none⟩ = some (.int .u8 (h.ttl.toNat : Int)) ∧ W.cell? ⟨w.heap.size, 7, none⟩ = some (.int .u8 (h.proto.toNat : Int)) ∧ W.cell? ⟨w.heap.size, 16, none⟩ = some (.string ⟨h.opt.toArray⟩)
theorem HdrS.of {w : World} {h : Hdr} {W : World} (h1 : W.heap[w.heap.size]? = some (.cells h.cells 27 (0, 0))) (h2 : Below w.heap.size w W) (h3 : ∃ c : List UInt8, c.length = 60 ∧ W.heap[w.heap.size + 1]? = some (.cells (byteVals c).toArray 71 (0, 0))) : HdrS w h W :=
  ⟨h1, h2, h3, hdr_cell h1 0, hdr_cell h1 1, hdr_cell h1 2, hdr_cell h1 6, hdr_cell h1 7, hdr_cell h1 16⟩
theorem HdrS.below {w : World} {h : Hdr} {W W' : World} (hS : HdrS w h W) (hb : Below W.heap.size W W') : HdrS w h W' := by
  obtain ⟨h1, h2, ⟨c, h3, h4⟩, _⟩ := hS
  exact .of ((hb.block _ (Array.getElem?_eq_some_iff.1 h1).1).trans h1) (below_up h2 hb h2.size) ⟨c, h3, (hb.block _ (Array.getElem?_eq_some_iff.1 h4).1).trans h4⟩

theorem conv_x (g : Nat) (w : World) (l : List UInt8) (hm : l.length ≤ 1000000) (hg : g < w.heap.size) : ∃ v w', (convert 9 22 (.string ⟨l.toArray⟩)).run Try.prog w = .ok v w' ∧ IsX g w' v l ∧ Below w.heap.size w w' := by
  have h := run_bytes_of_string (P := Try.prog) w 9 22 5 ⟨l.toArray⟩ Try.underlying9 Try.underlying22 Try.underlying5
  have hs : (⟨l.toArray⟩ : ByteArray).size = l.length := by simp [ByteArray.size]
  rw [hs] at h
  have hG := grownCap_ge w l.length 0 5
  have hG63 := grownCap_le_maxLen w l.length 0 5 (by unfold maxLen; omega)
  refine ⟨_, _, h, ⟨_, _, rfl, hG, hG63, fun hp => ⟨w.heap.size, 0, rfl, by omega, by simp, fun i hi => ?_⟩⟩, (Below.refl _ _).drew.alloc (Nat.le_refl _) _⟩
  rw [cell_of_row _ w.heap.size (0 + i) _ _ _ (heap_alloc_new w.drew _), Nat.zero_add, bytesRow_at _ _ _ (by simpa using hi)]
  simp [byteAt, List.getD, hi]

/-- The fields of a header, its checksum 0. -/
def hdrRows (h : Hdr) (all : Nat) : List (List UInt8) := [[UInt8.ofNat (64 + h.size / 4), h.tos], lowB 2 all, lowB 2 h.id, lowB 2 h.flags, [h.ttl, h.proto], lowB 2 0, [h.s0, h.s1, h.s2, h.s3], [h.d0, h.d1, h.d2, h.d3], h.opt]
def hdr0 (h : Hdr) (all : Nat) : List UInt8 := frontL h all ++ lowB 2 0 ++ backL h
theorem rows_flat (h : Hdr) (all : Nat) : (hdrRows h all).flatten = hdr0 h all := by simp [hdrRows, hdr0, frontL, backL]
theorem hdr0_length (h : Hdr) (all : Nat) : (hdr0 h all).length = h.size := by
  unfold hdr0 frontL backL Hdr.size
  simp only [List.length_append, lowB_length, List.length_cons, List.length_nil]
  omega
/-- The room holds the header. -/
def DoneG (g : Nat) (L : List UInt8) (W : World) : Prop := ∃ c : List UInt8, c.length = 60 ∧ c.take L.length = L ∧ W.heap[g]? = some (.cells (byteVals c).toArray 71 (0, 0))
theorem isX_built (g : Nat) (W : World) (l : List UInt8) (cs : Array Value) (hcs : cs = (byteVals l).toArray) (n : Nat) (hn : n = l.length) (hm : l.length ≤ 1000) (hg : g < W.heap.size) : IsX g (W.alloc (.cells cs 5)) (.slice (some ⟨W.heap.size, 0, none⟩) n n) l := by
  subst hcs hn
  exact IsX.of_row (heap_alloc_new W _) (by unfold maxLen; omega) (by omega)
/-- Four bytes in the midst of a header's box. -/
theorem isX_box {W : World} {b : Nat} {h : Hdr} (g o : Nat) (hg : W.heap[b]? = some (.cells h.cells 27 (0, 0))) (hn : b ≠ g) (x0 x1 x2 x3 : UInt8) (h0 : h.cells[o]? = some (.int .u8 (x0.toNat : Int))) (h1 : h.cells[o + 1]? = some (.int .u8 (x1.toNat : Int)))
    (h2 : h.cells[o + 2]? = some (.int .u8 (x2.toNat : Int))) (h3 : h.cells[o + 3]? = some (.int .u8 (x3.toNat : Int))) : IsX g W (.slice (some ⟨b, o, none⟩) 4 4) [x0, x1, x2, x3] := by
  refine ⟨_, _, rfl, Nat.le_refl _, by unfold maxLen; omega, fun _ => ⟨b, o, rfl, hn, (Array.getElem?_eq_some_iff.1 hg).1, fun i hi => ?_⟩⟩
  rw [hdr_cell hg (o + i)]
  have : i = 0 ∨ i = 1 ∨ i = 2 ∨ i = 3 := by simp at hi; omega
  rcases this with rfl | rfl | rfl | rfl
  · exact h0
  · exact h1
  · exact h2
  · exact h3
theorem hdr_sum0 (h : Hdr) (all : Nat) : 65535 - fold16 (wsum false (hdr0 h all)) = hsum h all := by
  have : wsum false (frontL h all ++ [0, 0] ++ backL h) = _ := wsum_front h all 0 0
  unfold hdr0 hsum
  rw [show lowB 2 0 = [0, 0] from rfl, this, show (0 : UInt8).toNat * 256 + (0 : UInt8).toNat = 0 from rfl, Nat.add_zero]
theorem hdr_put (h : Hdr) (all : Nat) : inP (hdr0 h all) 10 2 (hsum h all) = true ∧ putL (hdr0 h all) 10 2 (hsum h all) = hdrL h all := by
  have hz := hdr0_length h all
  have hs : 20 ≤ h.size := by unfold Hdr.size; omega
  have hh := hsum_le h all
  have e1 : inP (hdr0 h all) 10 2 (hsum h all) = true := by
    have e2 : inG (hdr0 h all) 10 2 = true := decide_eq_true ⟨by omega, by omega, by omega, by omega⟩
    have e3 : fitB (hsum h all) 2 = true := decide_eq_true (by show _ < 256 ^ 2; omega)
    unfold inP; rw [e2, e3]; rfl
  refine ⟨e1, ?_⟩
  unfold putL
  rw [e1, if_pos rfl]
  show (hdr0 h all).take 10 ++ (lowB 2 (hsum h all) ++ (hdr0 h all).drop 12) = hdrL h all
  have hf : (frontL h all).length = 10 := by unfold frontL; simp [lowB_length]
  have e4 : (hdr0 h all).take 10 = frontL h all := by
    unfold hdr0
    rw [List.append_assoc, List.take_append_of_le_length (by omega), List.take_of_length_le (by omega)]
  have e5 : (hdr0 h all).drop 12 = backL h := by
    unfold hdr0
    rw [List.drop_append, List.drop_eq_nil_of_le (by rw [List.length_append, hf, lowB_length]; omega), List.length_append, hf, lowB_length]
    rfl
  rw [e4, e5]
  unfold hdrL
  rw [List.append_assoc]

/-- How worlds go on in header's great call. -/
def HdrE (g : Nat) (L : List UInt8) (W W' : World) : Prop := But g W W' ∧ (DoneG g L W → DoneG g L W')
theorem HdrE.of_below {g : Nat} {L : List UInt8} {W W' : World} (b : Below W.heap.size W W') : HdrE g L W W' := by
  refine ⟨But.of_below b, ?_⟩
  rintro ⟨c, h1, h2, h3⟩
  exact ⟨c, h1, h2, (b.block _ (Array.getElem?_eq_some_iff.1 h3).1).trans h3⟩
/-- What each of the operations yields that are left to the draw. -/
def HdrF (h : Hdr) (all g : Nat) (i : Nat) (v : Value) (W : World) : Prop :=
  match i with
  | 2 => v = .int .i64 (h.size : Int)
  | 3 => v = .int .i64 ((h.size / 4 : Nat) : Int)
  | 4 => v = .int .i64 ((64 + h.size / 4 : Nat) : Int)
  | 5 => v = .int .u8 ((64 + h.size / 4 : Nat) : Int)
  | 8 => IsX g W v [UInt8.ofNat (64 + h.size / 4), h.tos]
  | 11 => IsX g W v (lowB 2 all)
  | 15 => IsX g W v (lowB 2 h.id)
  | 17 => v = .int .i64 (h.flags : Int)
  | 18 => IsX g W v (lowB 2 h.flags)
  | 23 => IsX g W v [h.ttl, h.proto]
  | 24 => IsX g W v (lowB 2 0)
  | 31 => IsX g W v h.opt
  | 32 => RowsX g W v (hdrRows h all)
  | 33 => DoneG g (hdr0 h all) W
  | _ => True
/-- The frame of header's great call. -/
def hdrT (h : Hdr) (all : Nat) (w : World) (x : Nat → Value) : Array Value := #[.agg h.cells, .pointer (some ⟨w.heap.size, 0, none⟩), .slice none 0 0, .pointer (some ⟨w.heap.size + 1, 0, none⟩), .slice (some ⟨w.heap.size + 1, 0, none⟩) h.size 60, undef, undef, h.val,
    .int .i64 (h.size : Int), .slice (some ⟨w.heap.size + 1, 0, none⟩) h.size 60, .slice (some ⟨w.heap.size + 1, 0, none⟩) h.size 60, h.val, x 2, x 3, x 4, x 5,
    .pointer (some ⟨w.heap.size, 0, none⟩), .int .u8 (h.tos.toNat : Int), x 8, .pointer (some ⟨w.heap.size, 1, none⟩), .int .i64 (all : Int), x 11, .pointer (some ⟨w.heap.size, 2, none⟩), .int .u16 (h.id : Int), .int .i64 (IntKind.i64.wrap (h.id : Int)), x 15, h.val, x 17, x 18,
    .pointer (some ⟨w.heap.size, 6, none⟩), .int .u8 (h.ttl.toNat : Int), .pointer (some ⟨w.heap.size, 7, none⟩), .int .u8 (h.proto.toNat : Int), x 23, x 24, .pointer (some ⟨w.heap.size, 8, none⟩), .slice (some ⟨w.heap.size, 8, none⟩) 4 4,
    .pointer (some ⟨w.heap.size, 12, none⟩), .slice (some ⟨w.heap.size, 12, none⟩) 4 4, .pointer (some ⟨w.heap.size, 16, none⟩), .string ⟨h.opt.toArray⟩, x 31, x 32, x 33, undef, undef, undef, undef, undef, undef, undef, undef, undef, undef]
def hdrPend : List Nat := [2, 3, 4, 5, 8, 11, 15, 17, 18, 23, 24, 31, 32, 33]
theorem hdrF_mono (h : Hdr) (all g : Nat) : ∀ i v W W', i ∈ hdrPend → HdrE g (hdr0 h all) W W' → HdrF h all g i v W → HdrF h all g i v W' := by
  intro i v W W' hi hE hF
  simp only [hdrPend, List.mem_cons, List.not_mem_nil, or_false] at hi
  rcases hi with rfl | rfl | rfl | rfl | rfl | rfl | rfl | rfl | rfl | rfl | rfl | rfl | rfl | rfl
  all_goals first
    | exact hF
    | exact IsX.but hF hE.1
    | exact RowsX.but hF hE.1
    | exact hE.2 hF

set_option maxRecDepth 100000 in
set_option maxHeartbeats 4000000 in
theorem header_any (h : Hdr) (w : World) (f : h.fit) (hid : h.id ≤ 65535) (all : Nat) (hl : h.len = (all : Int)) (ha : all ≤ 65535) :
    Calls Try.prog 28 #[h.val] w fun r w' => (∃ a n cap, r = .returned (.slice a n cap) ∧ IsB w' (.slice a n cap) (hdrL h all)) ∧ Below w.heap.size w w' := by
  have hs := size_le f
  have HS := Lib.hid (fun W => size_any h W (by unfold Hdr.size at hs; omega))
  have sN : ((h.size : Int)).toNat = h.size := Int.toNat_natCast _
  have s60 : (h.size : Int) ≤ 60 := by omega
  have s0 : (0 : Int) ≤ (h.size : Int) := by omega
  have HG : Hid (∀ o, ((w.alloc (.cells h.cells 27)).alloc o).heap[w.heap.size]? = some (.cells h.cells 27 (0, 0))) := by
    intro o
    exact (Below.heap_alloc _ _ _ (by simp)).trans (heap_alloc_new w _)
  rw [show h.val = .agg h.cells from rfl]
  go_enter Try.func28, Try.ntmps28
  go_wp2_with (first | (refine wpList_load_hdr rfl (.tmp 1) rfl w.heap.size h rfl (HG.out _) ?_) | (go_at_call 16; refine (HS.out _).mono ?_; rintro e w2 ⟨rfl, b2⟩; refine Hid.out ?_))
  refine Lib.hid ?_
  have hg2 : w2.heap[w.heap.size + 1]? = some (.cells (byteVals (List.replicate 60 0)).toArray 71 (0, 0)) := (b2.block _ (by simp)).trans ((heap_alloc2_new w _ _).trans (by kernel_rfl))
  have hg1 : w2.heap[w.heap.size]? = some (.cells h.cells 27 (0, 0)) := (b2.block _ (by simp; omega)).trans (HG.out _)
  have hb2 : Below w.heap.size w w2 := below_up (((Below.refl _ _).alloc (Nat.le_refl _) _).alloc (by simp) _) b2 (by simp; omega)
  have hS2 : HdrS w h w2 := .of hg1 hb2 ⟨_, List.length_replicate, hg2⟩
  clear b2 hg1 hg2 hb2 HG
  go_wp2_with fail
  refine wp_region_noPanic ?_
  refine wp_region_held_drew (S := HdrS w h) (by kernel_rfl) (hS2.below (Below.refl _ _).drew) (fun hHeld => ?_)
  have exN : ∀ W, HdrS w h W → W.heap[w.heap.size]? = some (.cells h.cells 27 (0, 0)) := fun W hW => hW.1
  have HT := Lib.hid (fun W m (hm : m < 65536) => two_row m W hm)
  have hfl := flags_le f
  have WR : IntKind.i64.wrap (h.id : Int) = (h.id : Int) := by rw [IntKind.wrap_i64]; omega
  have HT15 := Lib.hid (fun W => two_row h.id W (by omega))
  rw [← WR] at HT15
  have HT18 : Hid (∀ W v, v = Value.int .i64 (h.flags : Int) → _) := fun W v (hv : v = Value.int .i64 (h.flags : Int)) => hv ▸ two_row h.flags W (by omega)
  have HT24 := Lib.hid (fun W => two_row 0 W (by omega))
  rw [show ((0 : Nat) : Int) = 0 from rfl] at HT24
  have HPc := Lib.hid (fun W => piece_any h W f.f0 f.f1)
  have GL : Hid (∀ W, HdrS w h W → w.heap.size + 1 < W.heap.size) := by
    rintro W ⟨-, -, ⟨c, -, hg⟩, -⟩
    exact (Array.getElem?_eq_some_iff.1 hg).1
  clear WR
  refine held_take (v := ?v160) 0 rfl (by kernel_rfl) (by kernel_rfl) (by kernel_rfl) (fun _ _ _ h => h) (by rfl) ?y160 (by assumption) ?_
  case y160 => (intro w hSw; unfold HdrS at hSw; go_simp; try with_reducible rfl)
  simp only [List.setIfInBounds_toArray, List.set_cons_zero, List.set_cons_succ]
  refine held_take (v := h.val) 1 rfl (by kernel_rfl) (by kernel_rfl) (by kernel_rfl) (fun _ _ _ h => h) (by rfl) (fun W hSw => exec_load_hdr (.tmp 1) rfl w.heap.size h rfl hSw.1) (by assumption) ?_
  simp only [List.setIfInBounds_toArray, List.set_cons_zero, List.set_cons_succ]
  refine held_take (v := ?v165) 6 rfl (by kernel_rfl) (by kernel_rfl) (by kernel_rfl) (fun _ _ _ h => h) (by rfl) ?y165 (by assumption) ?_
  case y165 => (intro w hSw; unfold HdrS at hSw; go_simp; try with_reducible rfl)
  simp only [List.setIfInBounds_toArray, List.set_cons_zero, List.set_cons_succ]
  refine held_take (v := ?v168) 7 rfl (by kernel_rfl) (by kernel_rfl) (by kernel_rfl) (fun _ _ _ h => h) (by rfl) ?y168 (by assumption) ?_
  case y168 => (intro w hSw; unfold HdrS at hSw; go_simp; try with_reducible rfl)
  simp only [List.setIfInBounds_toArray, List.set_cons_zero, List.set_cons_succ]
  refine held_take (v := ?v171) 9 rfl (by kernel_rfl) (by kernel_rfl) (by kernel_rfl) (fun _ _ _ h => h) (by rfl) ?y171 (by assumption) ?_
  case y171 => (intro w hSw; unfold HdrS at hSw; go_simp; try with_reducible rfl)
  simp only [List.setIfInBounds_toArray, List.set_cons_zero, List.set_cons_succ]
  refine held_take (v := ?v174) 10 rfl (by kernel_rfl) (by kernel_rfl) (by kernel_rfl) (fun _ _ _ h => h) (by rfl) ?y174 (by assumption) ?_
  case y174 => (intro w hSw; unfold HdrS at hSw; go_simp; try with_reducible rfl)
  simp only [List.setIfInBounds_toArray, List.set_cons_zero, List.set_cons_succ]
  refine held_take (v := ?v177) 12 rfl (by kernel_rfl) (by kernel_rfl) (by kernel_rfl) (fun _ _ _ h => h) (by rfl) ?y177 (by assumption) ?_
  case y177 => (intro w hSw; unfold HdrS at hSw; go_simp; try with_reducible rfl)
  simp only [List.setIfInBounds_toArray, List.set_cons_zero, List.set_cons_succ]
  refine held_take (v := ?v180) 13 rfl (by kernel_rfl) (by kernel_rfl) (by kernel_rfl) (fun _ _ _ h => h) (by rfl) ?y180 (by assumption) ?_
  case y180 => (intro w hSw; unfold HdrS at hSw; go_simp; try with_reducible rfl)
  simp only [List.setIfInBounds_toArray, List.set_cons_zero, List.set_cons_succ]
  refine held_take (v := ?v183) 14 rfl (by kernel_rfl) (by kernel_rfl) (by kernel_rfl) (fun _ _ _ h => h) (by rfl) ?y183 (by assumption) ?_
  case y183 => (intro w hSw; unfold HdrS at hSw; go_simp; try with_reducible rfl)
  simp only [List.setIfInBounds_toArray, List.set_cons_zero, List.set_cons_succ]
  refine held_take (v := h.val) 16 rfl (by kernel_rfl) (by kernel_rfl) (by kernel_rfl) (fun _ _ _ h => h) (by rfl) (fun W hSw => exec_load_hdr (.tmp 1) rfl w.heap.size h rfl hSw.1) (by assumption) ?_
  simp only [List.setIfInBounds_toArray, List.set_cons_zero, List.set_cons_succ]
  refine held_take (v := ?v188) 19 rfl (by kernel_rfl) (by kernel_rfl) (by kernel_rfl) (fun _ _ _ h => h) (by rfl) ?y188 (by assumption) ?_
  case y188 => (intro w hSw; unfold HdrS at hSw; go_simp; try with_reducible rfl)
  simp only [List.setIfInBounds_toArray, List.set_cons_zero, List.set_cons_succ]
  refine held_take (v := ?v191) 20 rfl (by kernel_rfl) (by kernel_rfl) (by kernel_rfl) (fun _ _ _ h => h) (by rfl) ?y191 (by assumption) ?_
  case y191 => (intro w hSw; unfold HdrS at hSw; go_simp; try with_reducible rfl)
  simp only [List.setIfInBounds_toArray, List.set_cons_zero, List.set_cons_succ]
  refine held_take (v := ?v194) 21 rfl (by kernel_rfl) (by kernel_rfl) (by kernel_rfl) (fun _ _ _ h => h) (by rfl) ?y194 (by assumption) ?_
  case y194 => (intro w hSw; unfold HdrS at hSw; go_simp; try with_reducible rfl)
  simp only [List.setIfInBounds_toArray, List.set_cons_zero, List.set_cons_succ]
  refine held_take (v := ?v197) 22 rfl (by kernel_rfl) (by kernel_rfl) (by kernel_rfl) (fun _ _ _ h => h) (by rfl) ?y197 (by assumption) ?_
  case y197 => (intro w hSw; unfold HdrS at hSw; go_simp; try with_reducible rfl)
  simp only [List.setIfInBounds_toArray, List.set_cons_zero, List.set_cons_succ]
  refine held_take (v := ?v200) 25 rfl (by kernel_rfl) (by kernel_rfl) (by kernel_rfl) (fun _ _ _ h => h) (by rfl) ?y200 (by assumption) ?_
  case y200 => (intro w hSw; unfold HdrS at hSw; go_simp; try with_reducible rfl)
  simp only [List.setIfInBounds_toArray, List.set_cons_zero, List.set_cons_succ]
  refine held_take (v := ?v203) 26 rfl (by kernel_rfl) (by kernel_rfl) (by kernel_rfl) (fun _ _ _ h => h) (by rfl) ?y203 (by assumption) ?_
  case y203 => (intro w hSw; unfold HdrS at hSw; go_simp; try with_reducible rfl)
  simp only [List.setIfInBounds_toArray, List.set_cons_zero, List.set_cons_succ]
  refine held_take (v := ?v206) 27 rfl (by kernel_rfl) (by kernel_rfl) (by kernel_rfl) (fun _ _ _ h => h) (by rfl) ?y206 (by assumption) ?_
  case y206 => (intro w hSw; unfold HdrS at hSw; go_simp; try with_reducible rfl)
  simp only [List.setIfInBounds_toArray, List.set_cons_zero, List.set_cons_succ]
  refine held_take (v := ?v209) 28 rfl (by kernel_rfl) (by kernel_rfl) (by kernel_rfl) (fun _ _ _ h => h) (by rfl) ?y209 (by assumption) ?_
  case y209 => (intro w hSw; unfold HdrS at hSw; go_simp; try with_reducible rfl)
  simp only [List.setIfInBounds_toArray, List.set_cons_zero, List.set_cons_succ]
  refine held_take (v := ?v212) 29 rfl (by kernel_rfl) (by kernel_rfl) (by kernel_rfl) (fun _ _ _ h => h) (by rfl) ?y212 (by assumption) ?_
  case y212 => (intro w hSw; unfold HdrS at hSw; go_simp; try with_reducible rfl)
  simp only [List.setIfInBounds_toArray, List.set_cons_zero, List.set_cons_succ]
  refine held_take (v := ?v215) 30 rfl (by kernel_rfl) (by kernel_rfl) (by kernel_rfl) (fun _ _ _ h => h) (by rfl) ?y215 (by assumption) ?_
  case y215 => (intro w hSw; unfold HdrS at hSw; go_simp; try with_reducible rfl)
  simp only [List.setIfInBounds_toArray, List.set_cons_zero, List.set_cons_succ]
  refine any_order0 (T := hdrT h all w)
    hdrPend (HdrF h all (w.heap.size + 1)) (HdrE (w.heap.size + 1) (hdr0 h all)) (fun _ => undef) (by kernel_rfl) (by kernel_rfl) (hdrF_mono h all _) hHeld ?_ ?_
  · intro i hi x W hS hd K hK0
    have hK : Shut (∀ v w', HdrS w h w' → HdrE (w.heap.size + 1) (hdr0 h all) W w' → HdrF h all (w.heap.size + 1) i v w' → K ⟨hdrT h all w (upd x i v), []⟩ w') := hK0
    clear hK0
    simp only [hdrPend, List.mem_cons, List.not_mem_nil, or_false] at hi
    rcases hi with rfl | rfl | rfl | rfl | rfl | rfl | rfl | rfl | rfl | rfl | rfl | rfl | rfl | rfl
    · -- Size
      refine op_one 2 rfl ?_
      unfold hdrT
      go_simp
      refine (HS.out _).mono ?_
      rintro e w' ⟨rfl, b⟩
      exact hK.out _ _ (hS.below b) (.of_below b) rfl
    · have e2 : x 2 = .int .i64 (h.size : Int) := hd 2 (by kernel_rfl) (by decide)
      refine op_value (T := hdrT h all w) 3 (.int .i64 ((h.size / 4 : Nat) : Int)) W rfl ?_ rfl (hK.out _ _ hS (.of_below (Below.refl _ _)) rfl)
      unfold hdrT
      go_simp
      rw [IntKind.wrap_i64]; omega
    · have e3 : x 3 = .int .i64 ((h.size / 4 : Nat) : Int) := hd 3 (by kernel_rfl) (by decide)
      refine op_value (T := hdrT h all w) 4 (.int .i64 ((64 + h.size / 4 : Nat) : Int)) W rfl ?_ rfl (hK.out _ _ hS (.of_below (Below.refl _ _)) rfl)
      unfold hdrT
      go_simp
      rw [IntKind.wrap_i64]; omega
    · have e4 : x 4 = .int .i64 ((64 + h.size / 4 : Nat) : Int) := hd 4 (by kernel_rfl) (by decide)
      refine op_value (T := hdrT h all w) 5 (.int .u8 ((64 + h.size / 4 : Nat) : Int)) W rfl ?_ rfl (hK.out _ _ hS (.of_below (Below.refl _ _)) rfl)
      unfold hdrT
      go_simp
      rw [IntKind.wrap_u8]; omega
    · have e5 : x 5 = .int .u8 ((64 + h.size / 4 : Nat) : Int) := hd 5 (by kernel_rfl) (by decide)
      have b : Below W.heap.size W (W.alloc (.cells #[.int .u8 ((64 + h.size / 4 : Nat) : Int), .int .u8 (h.tos.toNat : Int)] 5)) := (Below.refl _ _).alloc (Nat.le_refl _) _
      refine op_value (T := hdrT h all w) 8 (.slice (some ⟨W.heap.size, 0, none⟩) 2 2) (W.alloc (.cells #[.int .u8 ((64 + h.size / 4 : Nat) : Int), .int .u8 (h.tos.toNat : Int)] 5)) rfl ?_ rfl (hK.out _ _ (hS.below b) (.of_below b) ?_)
      · unfold hdrT
        go_simp
      · exact isX_built _ W [UInt8.ofNat (64 + h.size / 4), h.tos] _ (by show _ = #[Value.int .u8 ((UInt8.ofNat (64 + h.size / 4)).toNat : Int), .int .u8 (h.tos.toNat : Int)]; rw [first_byte f]) 2 rfl (by simp) (GL.out W hS)
    · refine op_one 11 rfl ?_
      unfold hdrT
      go_simp
      refine (HT.out _ all (by omega)).mono ?_
      rintro e w' ⟨gg, rfl, hge, hr, b⟩
      exact hK.out _ _ (hS.below b) (.of_below b) (IsX.of_row hr (by rw [lowB_length]; unfold maxLen; omega) (by have := GL.out W hS; omega))
    · refine op_one 15 rfl ?_
      unfold hdrT
      go_simp
      refine (HT15.out _).mono ?_
      rintro e w' ⟨gg, rfl, hge, hr, b⟩
      exact hK.out _ _ (hS.below b) (.of_below b) (IsX.of_row hr (by rw [lowB_length]; unfold maxLen; omega) (by have := GL.out W hS; omega))
    · refine op_one 17 rfl ?_
      unfold hdrT
      go_simp
      refine (HPc.out _).mono ?_
      rintro e w' ⟨rfl, b⟩
      exact hK.out _ _ (hS.below b) (.of_below b) rfl
    · have E17 : Hid (x 17 = .int .i64 (h.flags : Int)) := hd 17 (by kernel_rfl) (by decide)
      refine op_one 18 rfl ?_
      unfold hdrT
      go_simp
      refine (HT18.out _ _ E17.out).mono ?_
      rintro e w' ⟨gg, rfl, hge, hr, b⟩
      exact hK.out _ _ (hS.below b) (.of_below b) (IsX.of_row hr (by rw [lowB_length]; unfold maxLen; omega) (by have := GL.out W hS; omega))
    · have b : Below W.heap.size W (W.alloc (.cells #[.int .u8 (h.ttl.toNat : Int), .int .u8 (h.proto.toNat : Int)] 5)) := (Below.refl _ _).alloc (Nat.le_refl _) _
      refine op_value (T := hdrT h all w) 23 (.slice (some ⟨W.heap.size, 0, none⟩) 2 2) (W.alloc (.cells #[.int .u8 (h.ttl.toNat : Int), .int .u8 (h.proto.toNat : Int)] 5)) rfl ?_ rfl (hK.out _ _ (hS.below b) (.of_below b) ?_)
      · unfold hdrT
        go_simp
      · exact isX_built _ W [h.ttl, h.proto] _ rfl 2 rfl (by simp) (GL.out W hS)
    · refine op_one 24 rfl ?_
      unfold hdrT
      go_simp
      refine (HT24.out _).mono ?_
      rintro e w' ⟨gg, rfl, hge, hr, b⟩
      exact hK.out _ _ (hS.below b) (.of_below b) (IsX.of_row hr (by rw [lowB_length]; unfold maxLen; omega) (by have := GL.out W hS; omega))
    · obtain ⟨v, w', hr, hx, b⟩ := conv_x (w.heap.size + 1) W h.opt (by have := f.o1; omega) (GL.out W hS)
      refine op_value (T := hdrT h all w) 31 v w' rfl ?_ rfl (hK.out _ _ (hS.below b) (.of_below b) hx)
      unfold hdrT
      go_simp
    · have i8 : IsX (w.heap.size + 1) W (x 8) [UInt8.ofNat (64 + h.size / 4), h.tos] := hd 8 (by kernel_rfl) (by decide)
      have i11 : IsX (w.heap.size + 1) W (x 11) (lowB 2 all) := hd 11 (by kernel_rfl) (by decide)
      have i15 : IsX (w.heap.size + 1) W (x 15) (lowB 2 h.id) := hd 15 (by kernel_rfl) (by decide)
      have i18 : IsX (w.heap.size + 1) W (x 18) (lowB 2 h.flags) := hd 18 (by kernel_rfl) (by decide)
      have i23 : IsX (w.heap.size + 1) W (x 23) [h.ttl, h.proto] := hd 23 (by kernel_rfl) (by decide)
      have i24 : IsX (w.heap.size + 1) W (x 24) (lowB 2 0) := hd 24 (by kernel_rfl) (by decide)
      have i31 : IsX (w.heap.size + 1) W (x 31) h.opt := hd 31 (by kernel_rfl) (by decide)
      have i26 := isX_box (w.heap.size + 1) 8 hS.1 (by omega) h.s0 h.s1 h.s2 h.s3 rfl rfl rfl rfl
      have i28 := isX_box (w.heap.size + 1) 12 hS.1 (by omega) h.d0 h.d1 h.d2 h.d3 rfl rfl rfl rfl
      have hrows := rowsX_built (w.heap.size + 1) W [x 8, x 11, x 15, x 18, x 23, x 24, .slice (some ⟨w.heap.size, 8, none⟩) 4 4, .slice (some ⟨w.heap.size, 12, none⟩) 4 4, x 31] (hdrRows h all) _ rfl 9 rfl rfl (by show 9 ≤ 1000; omega) (GL.out W hS) (fun i h1 _ => by
        match i, h1 with
        | 0, _ => exact i8
        | 1, _ => exact i11
        | 2, _ => exact i15
        | 3, _ => exact i18
        | 4, _ => exact i23
        | 5, _ => exact i24
        | 6, _ => exact i26
        | 7, _ => exact i28
        | 8, _ => exact i31)
      have b : Below W.heap.size W (W.alloc (.cells #[x 8, x 11, x 15, x 18, x 23, x 24, .slice (some ⟨w.heap.size, 8, none⟩) 4 4, .slice (some ⟨w.heap.size, 12, none⟩) 4 4, x 31] 22)) := (Below.refl _ _).alloc (Nat.le_refl _) _
      refine op_value (T := hdrT h all w) 32 (.slice (some ⟨W.heap.size, 0, none⟩) 9 9) (W.alloc (.cells #[x 8, x 11, x 15, x 18, x 23, x 24, .slice (some ⟨w.heap.size, 8, none⟩) 4 4, .slice (some ⟨w.heap.size, 12, none⟩) 4 4, x 31] 22)) rfl ?_ rfl (hK.out _ _ (hS.below b) (.of_below b) hrows)
      obtain ⟨a8, c8, e8, -⟩ := i8
      obtain ⟨a11, c11, e11, -⟩ := i11
      obtain ⟨a15, c15, e15, -⟩ := i15
      obtain ⟨a18, c18, e18, -⟩ := i18
      obtain ⟨a23, c23, e23, -⟩ := i23
      obtain ⟨a24, c24, e24, -⟩ := i24
      obtain ⟨a31, c31, e31, -⟩ := i31
      clear hrows b i26 i28
      unfold hdrT
      go_simp
    · have hr : RowsX (w.heap.size + 1) W (x 32) (hdrRows h all) := hd 32 (by kernel_rfl) (by decide)
      obtain ⟨c, hc, hg⟩ := id hS.2.2.1
      have HL := Lib.hid (lay_any (w.heap.size + 1) c h.size (x 32) (hdrRows h all) W _ hg hr (by rw [rows_flat, hdr0_length]) (by omega) (by omega))
      rw [hc, rows_flat] at HL
      have hdn : DoneG (w.heap.size + 1) (hdr0 h all) (W.setRow (w.heap.size + 1) (byteVals (hdr0 h all ++ c.drop h.size)).toArray) := by
        refine ⟨hdr0 h all ++ c.drop h.size, ?_, List.take_left, setRow_heap _ _ _ _ _ _ hg⟩
        rw [List.length_append, hdr0_length, List.length_drop]; omega
      have hS3 : HdrS w h (W.setRow (w.heap.size + 1) (byteVals (hdr0 h all ++ c.drop h.size)).toArray) := by
        obtain ⟨c2, h1, h2, h3⟩ := hdn
        exact .of ((setRow_other _ _ _ _ (by omega)).trans hS.1) ((But.setRow _ W _).below hS.2.1 (by omega) hS.2.1.size) ⟨c2, h1, h3⟩
      have HF := Lib.hid (And.intro hS3 hdn)
      clear hS3 hdn hr hg hc
      refine op_one 33 rfl ?_
      unfold hdrT
      go_simp
      refine HL.out.mono ?_
      rintro e w' ⟨rfl, rfl⟩
      exact hK.out _ _ HF.out.1 ⟨But.setRow _ _ _, fun _ => HF.out.2⟩ HF.out.2
  · intro x W hS hF
    have hdn : DoneG (w.heap.size + 1) (hdr0 h all) W := hF 33 (by decide)
    clear hF
    refine NoPanic.normal ?_
    unfold hdrT
    obtain ⟨c, hc, hct, hg⟩ := hdn
    have hB : Below w.heap.size w W := hS.2.1
    have i1 : IsB W (.slice (some ⟨w.heap.size + 1, 0, none⟩) h.size 60) (hdr0 h all) := by
      have i0 := IsB.of_row hg (by unfold maxLen; omega)
      rw [hc] at i0
      have i2 := i0.head (k := h.size) (by omega)
      rw [hdr0_length] at hct
      rw [hct] at i2
      exact i2
    have HO := Lib.hid (of_any _ _ _ (rows_one W W.heap.size rfl _ _ i1) (by simp [hdr0_length]; omega))
    rw [show ([hdr0 h all] : List (List UInt8)).flatten = hdr0 h all by simp, hdr_sum0] at HO
    have HU := Lib.hid (fun W' (hb : Below W.heap.size W W') => put_any _ _ _ _ 10 2 (hsum h all) W' (i1.below hb) (by rw [hdr0_length]; omega) (by have := hsum_le h all; omega))
    rw [(hdr_put h all).1, (hdr_put h all).2] at HU
    have hh := hsum_le h all
    have HBel := Lib.hid hB
    clear hS hc hct hg hB i1 hHeld hS2 HT HT15 HT18 HT24 HPc GL exN HS
    generalize hsum h all = hc at *
    generalize h.size = Z at *
    go_wp2_with (go_at_call 45; refine HO.out.mono ?_; rintro e w3 ⟨rfl, b3⟩; refine Hid.out ?_)
    refine Lib.hid ?_
    have B3 := Lib.hid (below_up ((Below.refl _ _).alloc (Nat.le_refl _) _) b3 (by simp))
    clear b3
    go_wp2_with (go_at_call 33; refine (HU.out _ B3.out).mono ?_; rintro e w4 ⟨⟨a4, n4, c4, rfl, i4⟩, b4⟩)
    go_ret
    exact ⟨⟨_, _, _, rfl, i4⟩, below_up (below_up HBel.out B3.out HBel.out.size) b4 (Nat.le_trans HBel.out.size B3.out.size)⟩
end Go.Proofs.Ytchkbdgoghcgcaa
