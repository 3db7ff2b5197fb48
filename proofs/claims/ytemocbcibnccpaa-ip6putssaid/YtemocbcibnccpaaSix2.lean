/- Package ip6: read's two closures. Proved: what each returns. -/
import Derived.Test.YtemocbcibnccpaaSix1
import Derived.Test.YtemocbcibnccpaaOct4
import Derived.Test.YtemocbcibnccpaaApart
namespace Go.Proofs.Ytemocbcibnccpaa
open Go Go.RowKit

/-- A number of one to four bytes at a place. -/
def numAt (l : List UInt8) (k n : Nat) : Nat := numOf ((l.drop k).take n)
theorem getAt (l : List UInt8) (k n : Nat) (h : k + n ≤ l.length) (h1 : 1 ≤ n) (h8 : n ≤ 8) : inG l k n = true ∧ getN l k n = numAt l k n := by
  have e1 : inG l k n = true := decide_eq_true ⟨by omega, by omega, by omega, by omega⟩
  refine ⟨e1, ?_⟩
  unfold getN numAt
  rw [if_pos e1, Int.toNat_natCast, Int.toNat_natCast]
theorem numAt_lt (l : List UInt8) (k n : Nat) (hn : n ≤ 4) : numAt l k n < 4294967296 := by
  unfold numAt
  have h := fold_lt ((l.drop k).take n) 0
  have hl : ((l.drop k).take n).length ≤ n := by simp; omega
  have h2 : 256 ^ ((l.drop k).take n).length ≤ 256 ^ 4 := Nat.pow_le_pow_right (by omega) (by omega)
  unfold numOf
  omega
set_option maxHeartbeats 1000000 in
theorem read1_any (a : Option Addr) (n cap : Nat) (l : List UInt8) (k m : Nat) (g : Nat) (w : World) (hv : IsB w (.slice a n cap) l) (hg : w.cell? ⟨g, 0, none⟩ = some (.slice a n cap)) (hk : k + m ≤ l.length) (h1 : 1 ≤ m) (h4 : m ≤ 4) :
    Calls Try.prog 24 #[.int .i64 (k : Int), .int .i64 (m : Int), .pointer (some ⟨g, 0, none⟩)] w fun r w' => r = .returned (.int .i64 (numAt l k m : Int)) ∧ w = w' := by
  have HG := Lib.hid (get_any a n cap l k m w hv)
  rw [(getAt l k m hk h1 (by omega)).1, (getAt l k m hk h1 (by omega)).2] at HG
  have hle := numAt_lt l k m h4
  generalize numAt l k m = N at *
  clear hv hk h1 h4
  go_enter Try.func24, Try.ntmps24
  go_wp2_with (go_at_call 25; refine HG.out.mono ?_; rintro e w2 ⟨rfl, rfl⟩)
  go_ret
  exact ⟨ret_int (by go_num), rfl⟩

theorem cut16 (l : List UInt8) (k : Nat) (h : k + 16 ≤ l.length) : cutL l (k : Int) 16 = (l.drop k).take 16 ∧ ((l.drop k).take 16).length = 16 := by
  unfold cutL
  rw [if_pos (show inC l (k : Int) 16 = true from decide_eq_true ⟨by omega, by omega, by omega⟩)]
  exact ⟨by simp, by simp; omega⟩
set_option maxHeartbeats 1000000 in
theorem read2_any (a : Option Addr) (n cap : Nat) (l : List UInt8) (k : Nat) (g : Nat) (w : World) (hv : IsB w (.slice a n cap) l) (hlim : l.length ≤ 1000000) (hg : w.cell? ⟨g, 0, none⟩ = some (.slice a n cap)) (hgl : g < w.heap.size) (hk : k + 16 ≤ l.length) :
    Calls Try.prog 26 #[.int .i64 (k : Int), .pointer (some ⟨g, 0, none⟩)] w fun r w' => r = .returned (arrV ((l.drop k).take 16)) ∧ Below w.heap.size w w' := by
  have HC := Lib.hid (fun W (hb : Below w.heap.size w W) => cut_any a n cap l k 16 W (hv.below hb) hlim)
  rw [(cut16 l k hk).1] at HC
  have hl := (cut16 l k hk).2
  have hg2 : ∀ o, (w.alloc o).cell? ⟨g, 0, none⟩ = some (.slice a n cap) := fun o => (((Below.refl _ _).alloc (Nat.le_refl _) o).cell (p := ⟨g, 0, none⟩) hgl).trans hg
  have g0 : ∀ o, Below w.heap.size w (w.alloc o) := fun o => (Below.refl _ _).alloc (Nat.le_refl _) o
  have G0 := Lib.hid g0
  have hne := heap_alloc_new w
  have HNe := Lib.hid hne
  generalize (l.drop k).take 16 = L at *
  have HL := Lib.hid hl
  have hat : ∀ (W : World) (a : Option Addr) (c : Nat), (Instr.arrayAt 24 (.slice a 16 c)).run Try.prog W = .ok (.pointer a) W := fun W a c => run_arrayAt W _ _ 16 a 16 c Try.underlying24 (Nat.le_refl _)
  clear hv hk g0 hne hl hg
  go_enter Try.func26, Try.ntmps26
  go_wp2_with (go_at_call 19; refine (HC.out _ (G0.out _)).mono ?_; rintro e w2 ⟨⟨a2, n2, c2, rfl, i2⟩, b2⟩; refine Hid.out ?_)
  refine Lib.hid ?_
  obtain ⟨b, o, rfl, hn, hlt, hr⟩ := range_of_isB i2 (by rw [HL.out]; omega)
  rw [HL.out] at hn
  subst hn
  have HR := Lib.hid hr
  have HG2 := Lib.hid ((b2.block w.heap.size (by simp)).trans (HNe.out _))
  have B2 := Lib.hid (below_up (G0.out _) b2 (G0.out _).size)
  clear i2 b2 hr hg2 HC HNe
  go_wp2_with (first | (refine wpList_load_arr rfl (.tmp 13) rfl b o L HL.out rfl HR.out ?_) | (refine wpList_store_arr rfl (.tmp 3) (.tmp 14) rfl w.heap.size L HL.out _ rfl rfl HG2.out rfl ?_))
  exact bodyPost_ret (results_arr Try.results26 _ _ w.heap.size L HL.out rfl (setRow_heap _ _ _ _ _ _ HG2.out)) rfl ⟨rfl, below_setRow B2.out (Nat.le_refl _) _⟩
end Go.Proofs.Ytemocbcibnccpaa
