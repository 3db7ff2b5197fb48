/- Package ip4: read. Proved: what it returns. -/
import Derived.Test.YtchkbdgoghcgcaaIp1
import Derived.Test.YtchkbdgoghcgcaaReg
import Derived.Test.YtchkbdgoghcgcaaIpW
import Derived.Test.YtchkbdgoghcgcaaBaseMore
import Derived.Laws.Cover3
namespace Go.Proofs.Ytchkbdgoghcgcaa
open Go Go.RowKit

section
variable {P : Program} {md : Region.Mode} {ops : Array Oper} {Q : Exit → Act → World → Prop} {S : World → Prop}
/-- Number i alone may come up, and yields to no slot. -/
theorem held_none {op : Op} {ty : TypeId} {pos : String} {af : Array Edge} {gd : Option (Nat × Bool)} {fuel : Nat} {listed : Array Bool} {a : Act} {w : World} (i : Nat)
    (hi : ops[i]? = some ⟨none, op, ty, pos, af, gd⟩) (hr : Region.ready md ops listed = [i])
    (hw : Region.wanted ⟨none, op, ty, pos, af, gd⟩ (yielded ops a.tmps) = true)
    (h : ∀ K : Act → World → Prop, Shut (∀ a w, S w → (S w → wpAnyH P md ops Q S fuel (listed.setIfInBounds i true) a w) → K a w) → Oper.wp P ⟨none, op, ty, pos, af, gd⟩ a w K Q) :
    wpAnyH P md ops Q S (fuel + 1) listed a w :=
  wpAnyH_ready hr (by simp) (AllReadyH.cons hi (fun K hK => by rw [if_pos hw]; exact h K hK) AllReadyH.nil)
end

def zero4 : Array Value := #[.int .u8 0, .int .i64 0, .int .u16 0, .bool false, .bool false, .int .i64 0, .int .u8 0, .int .u8 0, .int .u8 0, .int .u8 0, .int .u8 0, .int .u8 0, .int .u8 0, .int .u8 0, .int .u8 0, .int .u8 0, .string ⟨#[]⟩]

/-- The header of just its bytes. -/
def readH (l : List UInt8) : Hdr :=
  ⟨l.getD 1 0, (wordAt l 2 : Nat), wordAt l 4, decide (wordAt l 6 / 16384 % 2 = 1), decide (wordAt l 6 / 8192 % 2 = 1), (wordAt l 6 % 8192 : Nat), l.getD 8 0, l.getD 9 0,
    l.getD 12 0, l.getD 13 0, l.getD 14 0, l.getD 15 0, l.getD 16 0, l.getD 17 0, l.getD 18 0, l.getD 19 0, l.drop 20⟩
theorem and_off (n : Nat) (h : n ≤ 65535) : bits .and .i64 (n : Int) 8191 = ((n % 8192 : Nat) : Int) := by
  rw [show (8191 : Int) = ((8191 : Nat) : Int) from rfl, i64_and_small n 8191 (by omega) (by omega), show 8191 = 2 ^ 13 - 1 from rfl, Nat.and_two_pow_sub_one_eq_mod]
theorem nat_bit (n k : Nat) : (n &&& 2 ^ k = 0) ↔ n / 2 ^ k % 2 = 0 := by
  have e : n.testBit k = decide (n / 2 ^ k % 2 = 1) := Nat.testBit_eq_decide_div_mod_eq
  constructor
  · intro h
    have h2 : (n &&& 2 ^ k).testBit k = false := by rw [h, Nat.zero_testBit]
    rw [Nat.testBit_and, Nat.testBit_two_pow, e] at h2
    simp at h2
    omega
  · intro h
    refine Nat.eq_of_testBit_eq fun i => ?_
    rw [Nat.testBit_and, Nat.testBit_two_pow, Nat.zero_testBit]
    by_cases hk : k = i
    · subst hk
      rw [e, h]; rfl
    · simp [hk]
theorem and_bit (n k m : Nat) (hm : m = 2 ^ k) (h : n ≤ 65535) (h2 : m < 65536) : (bits .and .i64 (n : Int) (m : Int) != 0) = decide (n / m % 2 = 1) := by
  rw [i64_and_small n m (by omega) h2, hm]
  have e := nat_bit n k
  by_cases hz : n / 2 ^ k % 2 = 0
  · rw [e.2 hz, hz]; rfl
  · have h1 : n / 2 ^ k % 2 = 1 := by omega
    rw [decide_eq_true h1]
    have : n &&& 2 ^ k ≠ 0 := fun h => hz (e.1 h)
    rw [bne_iff_ne]
    omega
theorem and_keep (n : Nat) (h : n ≤ 65535) : (bits .and .i64 (n : Int) 16384 != 0) = decide (n / 16384 % 2 = 1) := and_bit n 14 16384 rfl h (by omega)
theorem and_more (n : Nat) (h : n ≤ 65535) : (bits .and .i64 (n : Int) 8192 != 0) = decide (n / 8192 % 2 = 1) := and_bit n 13 8192 rfl h (by omega)

/-- What read reads. -/
def ReadS (b off cap : Nat) (l : List UInt8) (N : Nat) (W : World) : Prop :=
  W.cell? ⟨b, off + 1, none⟩ = some (.int .u8 (byteAt l 1)) ∧ W.cell? ⟨b, off + 8, none⟩ = some (.int .u8 (byteAt l 8)) ∧ W.cell? ⟨b, off + 9, none⟩ = some (.int .u8 (byteAt l 9)) ∧
      W.cell? ⟨b, off + 12, none⟩ = some (.int .u8 (byteAt l 12)) ∧ W.cell? ⟨b, off + 13, none⟩ = some (.int .u8 (byteAt l 13)) ∧ W.cell? ⟨b, off + 14, none⟩ = some (.int .u8 (byteAt l 14)) ∧ W.cell? ⟨b, off + 15, none⟩ = some (.int .u8 (byteAt l 15)) ∧
      W.cell? ⟨b, off + 16, none⟩ = some (.int .u8 (byteAt l 16)) ∧ W.cell? ⟨b, off + 17, none⟩ = some (.int .u8 (byteAt l 17)) ∧ W.cell? ⟨b, off + 18, none⟩ = some (.int .u8 (byteAt l 18)) ∧ W.cell? ⟨b, off + 19, none⟩ = some (.int .u8 (byteAt l 19)) ∧
      (convert 22 9 (.slice (if cap = 20 then some ⟨b, off, none⟩ else some ⟨b, off + 20, none⟩) (N - 20) (cap - 20))).run Try.prog W = .ok (.string ⟨(l.drop 20).toArray⟩) W

set_option maxRecDepth 100000 in
set_option maxHeartbeats 4000000 in
theorem read_any (a : Option Addr) (n cap : Nat) (l : List UInt8) (w : World) (hv : IsB w (.slice a n cap) l) (h20 : 20 ≤ l.length) (h60 : l.length ≤ 60) :
    Calls Try.prog 22 #[.slice a n cap] w fun r w' => r = .returned (readH l).val ∧ Below w.heap.size w w' := by
  obtain ⟨a2, cap2, he, h1, h2, h3⟩ := id hv
  simp only [Value.slice.injEq] at he
  obtain ⟨rfl, rfl, rfl⟩ := he
  obtain ⟨b, off, rfl, hlt, hc⟩ := h3 (by omega)
  unfold maxLen at h2
  have HN := Lib.hid (fun W (hb : Below w.heap.size w W) k (hk : k + 2 ≤ l.length) => number_any4 (some ⟨b, off, none⟩) l.length cap l k W (hv.below hb) hk)
  have HC : Hid (∀ W, Below w.heap.size w W → ReadS b off cap l l.length W) := by
    intro W hb
    have hvW : IsB W (.slice (some ⟨b, off, none⟩) l.length cap) l := hv.below hb
    have hk : ∀ k, k < 20 → W.cell? ⟨b, off + k, none⟩ = some (.int .u8 (byteAt l k)) := fun k hk => (hb.cell (p := ⟨b, off + k, none⟩) hlt).trans (hc k (by omega))
    refine ⟨hk 1 (by omega), hk 8 (by omega), hk 9 (by omega), hk 12 (by omega), hk 13 (by omega), hk 14 (by omega), hk 15 (by omega), hk 16 (by omega), hk 17 (by omega), hk 18 (by omega), hk 19 (by omega), ?_⟩
    have := hvW.tail (k := 20) h20
    rw [Option.map_some, plain_add] at this
    exact this.conv Try.underlying22 Try.underlying5 Try.underlying9
  have HV := Lib.hid hv
  clear hv hc h3
  generalize hN : l.length = N at *
  go_enter Try.func22, Try.ntmps22
  go_wp2_with (go_at_call 20; refine (HN.out _ ((Below.refl _ _).alloc (Nat.le_refl _) _) 6 (by omega)).mono ?_; rintro e w2 ⟨rfl, rfl⟩; refine Hid.out ?_)
  refine Lib.hid ?_
  go_wp2_with fail
  have q1 : (1 : Int) < (N : Int) := by omega
  have q8 : (8 : Int) < (N : Int) := by omega
  have q9 : (9 : Int) < (N : Int) := by omega
  have q20 : (20 : Int) ≤ (N : Int) := by omega
  have p16 : (16 : Int) ≤ (cap : Int) := by omega
  have p20 : (20 : Int) ≤ (cap : Int) := by omega
  have n12 : ¬ cap = 12 := by omega
  have n16 : ¬ cap = 16 := by omega
  have hAr : ∀ (W : World) (x : Option Addr) (c : Nat), (Instr.arrayAt 25 (.slice x 4 c)).run Try.prog W = .ok (.pointer x) W := fun W x c => run_arrayAt W _ 5 4 x 4 c Try.underlying25 (Nat.le_refl _)
  refine wp_region_noPanic ?_
  refine wp_region_held_drew (S := ReadS b off cap l N) (by kernel_rfl) (HC.out _ (((Below.refl _ _).alloc (Nat.le_refl _) _).drew)) (fun hHeld => ?_)
  refine held_take (v := ?v99) 0 rfl (by kernel_rfl) (by kernel_rfl) (by kernel_rfl) (fun _ _ _ h => h) (by rfl) ?y99 (by assumption) ?_
  case y99 => (intro w hSw; unfold ReadS at hSw; go_simp; try with_reducible rfl)
  simp only [List.setIfInBounds_toArray, List.set_cons_zero, List.set_cons_succ]
  refine held_take (v := ?v102) 1 rfl (by kernel_rfl) (by kernel_rfl) (by kernel_rfl) (fun _ _ _ h => h) (by rfl) ?y102 (by assumption) ?_
  case y102 => (intro w hSw; unfold ReadS at hSw; go_simp; try with_reducible rfl)
  simp only [List.setIfInBounds_toArray, List.set_cons_zero, List.set_cons_succ]
  refine held_take (v := ?v105) 2 rfl (by kernel_rfl) (by kernel_rfl) (by kernel_rfl) (fun _ _ _ h => h) (by rfl) ?y105 (by assumption) ?_
  case y105 => (intro w hSw; unfold ReadS at hSw; go_simp; try with_reducible rfl)
  simp only [List.setIfInBounds_toArray, List.set_cons_zero, List.set_cons_succ]
  refine held_take (v := ?v108) 3 rfl (by kernel_rfl) (by kernel_rfl) (by kernel_rfl) (fun _ _ _ h => h) (by rfl) ?y108 (by assumption) ?_
  case y108 => (intro w hSw; unfold ReadS at hSw; go_simp; try with_reducible rfl)
  simp only [List.setIfInBounds_toArray, List.set_cons_zero, List.set_cons_succ]
  refine held_take (v := ?v111) 5 rfl (by kernel_rfl) (by kernel_rfl) (by kernel_rfl) (fun _ _ _ h => h) (by rfl) ?y111 (by assumption) ?_
  case y111 => (intro w hSw; unfold ReadS at hSw; go_simp; try with_reducible rfl)
  simp only [List.setIfInBounds_toArray, List.set_cons_zero, List.set_cons_succ]
  refine held_take (v := ?v114) 8 rfl (by kernel_rfl) (by kernel_rfl) (by kernel_rfl) (fun _ _ _ h => h) (by rfl) ?y114 (by assumption) ?_
  case y114 => (intro w hSw; unfold ReadS at hSw; go_simp; try with_reducible rfl)
  simp only [List.setIfInBounds_toArray, List.set_cons_zero, List.set_cons_succ]
  refine held_take (v := ?v117) 9 rfl (by kernel_rfl) (by kernel_rfl) (by kernel_rfl) (fun _ _ _ h => h) (by rfl) ?y117 (by assumption) ?_
  case y117 => (intro w hSw; unfold ReadS at hSw; go_simp; try with_reducible rfl)
  simp only [List.setIfInBounds_toArray, List.set_cons_zero, List.set_cons_succ]
  refine held_take (v := ?v120) 10 rfl (by kernel_rfl) (by kernel_rfl) (by kernel_rfl) (fun _ _ _ h => h) (by rfl) ?y120 (by assumption) ?_
  case y120 => (intro w hSw; unfold ReadS at hSw; go_simp; try with_reducible rfl)
  simp only [List.setIfInBounds_toArray, List.set_cons_zero, List.set_cons_succ]
  refine held_take (v := ?v123) 11 rfl (by kernel_rfl) (by kernel_rfl) (by kernel_rfl) (fun _ _ _ h => h) (by rfl) ?y123 (by assumption) ?_
  case y123 => (intro w hSw; unfold ReadS at hSw; go_simp; try with_reducible rfl)
  simp only [List.setIfInBounds_toArray, List.set_cons_zero, List.set_cons_succ]
  refine held_take (v := ?v126) 12 rfl (by kernel_rfl) (by kernel_rfl) (by kernel_rfl) (fun _ _ _ h => h) (by rfl) ?y126 (by assumption) ?_
  case y126 => (intro w hSw; unfold ReadS at hSw; go_simp; try with_reducible rfl)
  simp only [List.setIfInBounds_toArray, List.set_cons_zero, List.set_cons_succ]
  refine held_take (v := ?v129) 13 rfl (by kernel_rfl) (by kernel_rfl) (by kernel_rfl) (fun _ _ _ h => h) (by rfl) ?y129 (by assumption) ?_
  case y129 => (intro w hSw; unfold ReadS at hSw; go_simp; try with_reducible rfl)
  simp only [List.setIfInBounds_toArray, List.set_cons_zero, List.set_cons_succ]
  refine held_take (v := ?v132) 14 rfl (by kernel_rfl) (by kernel_rfl) (by kernel_rfl) (fun _ _ _ h => h) (by rfl) ?y132 (by assumption) ?_
  case y132 => (intro w hSw; unfold ReadS at hSw; go_simp; try with_reducible rfl)
  simp only [List.setIfInBounds_toArray, List.set_cons_zero, List.set_cons_succ]
  refine held_take (v := ?v135) 15 rfl (by kernel_rfl) (by kernel_rfl) (by kernel_rfl) (fun _ _ _ h => h) (by rfl) ?y135 (by assumption) ?_
  case y135 => (intro w hSw; unfold ReadS at hSw; go_simp; try with_reducible rfl)
  simp only [List.setIfInBounds_toArray, List.set_cons_zero, List.set_cons_succ]
  refine held_take (v := ?v138) 16 rfl (by kernel_rfl) (by kernel_rfl) (by kernel_rfl) (fun _ _ _ h => h) (by rfl) ?y138 (by assumption) ?_
  case y138 => (intro w hSw; unfold ReadS at hSw; go_simp; try with_reducible rfl)
  simp only [List.setIfInBounds_toArray, List.set_cons_zero, List.set_cons_succ]
  refine held_take (v := ?v141) 17 rfl (by kernel_rfl) (by kernel_rfl) (by kernel_rfl) (fun _ _ _ h => h) (by rfl) ?y141 (by assumption) ?_
  case y141 => (intro w hSw; unfold ReadS at hSw; go_simp; try with_reducible rfl)
  simp only [List.setIfInBounds_toArray, List.set_cons_zero, List.set_cons_succ]
  refine held_take (v := ?v144) 18 rfl (by kernel_rfl) (by kernel_rfl) (by kernel_rfl) (fun _ _ _ h => h) (by rfl) ?y144 (by assumption) ?_
  case y144 => (intro w hSw; unfold ReadS at hSw; go_simp; try with_reducible rfl)
  simp only [List.setIfInBounds_toArray, List.set_cons_zero, List.set_cons_succ]
  refine held_take (v := ?v147) 19 rfl (by kernel_rfl) (by kernel_rfl) (by kernel_rfl) (fun _ _ _ h => h) (by rfl) ?y147 (by assumption) ?_
  case y147 => (intro w hSw; unfold ReadS at hSw; go_simp; try with_reducible rfl)
  simp only [List.setIfInBounds_toArray, List.set_cons_zero, List.set_cons_succ]
  refine held_take (v := ?v150) 20 rfl (by kernel_rfl) (by kernel_rfl) (by kernel_rfl) (fun _ _ _ h => h) (by rfl) ?y150 (by assumption) ?_
  case y150 => (intro w hSw; unfold ReadS at hSw; go_simp; try with_reducible rfl)
  simp only [List.setIfInBounds_toArray, List.set_cons_zero, List.set_cons_succ]
  refine held_take (v := ?v153) 21 rfl (by kernel_rfl) (by kernel_rfl) (by kernel_rfl) (fun _ _ _ h => h) (by rfl) ?y153 (by assumption) ?_
  case y153 => (intro w hSw; unfold ReadS at hSw; go_simp; try with_reducible rfl)
  simp only [List.setIfInBounds_toArray, List.set_cons_zero, List.set_cons_succ]
  refine held_take (v := ?v156) 22 rfl (by kernel_rfl) (by kernel_rfl) (by kernel_rfl) (fun _ _ _ h => h) (by rfl) ?y156 (by assumption) ?_
  case y156 => (intro w hSw; unfold ReadS at hSw; go_simp; try with_reducible rfl)
  simp only [List.setIfInBounds_toArray, List.set_cons_zero, List.set_cons_succ]
  refine held_take (v := ?v159) 23 rfl (by kernel_rfl) (by kernel_rfl) (by kernel_rfl) (fun _ _ _ h => h) (by rfl) ?y159 (by assumption) ?_
  case y159 => (intro w hSw; unfold ReadS at hSw; go_simp; try with_reducible rfl)
  simp only [List.setIfInBounds_toArray, List.set_cons_zero, List.set_cons_succ]
  refine held_take (v := ?v162) 24 rfl (by kernel_rfl) (by kernel_rfl) (by kernel_rfl) (fun _ _ _ h => h) (by rfl) ?y162 (by assumption) ?_
  case y162 => (intro w hSw; unfold ReadS at hSw; go_simp; try with_reducible rfl)
  simp only [List.setIfInBounds_toArray, List.set_cons_zero, List.set_cons_succ]
  refine held_take (v := ?v165) 25 rfl (by kernel_rfl) (by kernel_rfl) (by kernel_rfl) (fun _ _ _ h => h) (by rfl) ?y165 (by assumption) ?_
  case y165 => (intro w hSw; unfold ReadS at hSw; go_simp; try with_reducible rfl)
  simp only [List.setIfInBounds_toArray, List.set_cons_zero, List.set_cons_succ]
  refine held_take (v := ?v168) 26 rfl (by kernel_rfl) (by kernel_rfl) (by kernel_rfl) (fun _ _ _ h => h) (by rfl) ?y168 (by assumption) ?_
  case y168 => (intro w hSw; unfold ReadS at hSw; go_simp; try with_reducible rfl)
  simp only [List.setIfInBounds_toArray, List.set_cons_zero, List.set_cons_succ]
  refine held_take (v := ?v171) 27 rfl (by kernel_rfl) (by kernel_rfl) (by kernel_rfl) (fun _ _ _ h => h) (by rfl) ?y171 (by assumption) ?_
  case y171 => (intro w hSw; unfold ReadS at hSw; go_simp; try with_reducible rfl)
  simp only [List.setIfInBounds_toArray, List.set_cons_zero, List.set_cons_succ]
  refine held_take (v := ?v174) 28 rfl (by kernel_rfl) (by kernel_rfl) (by kernel_rfl) (fun _ _ _ h => h) (by rfl) ?y174 (by assumption) ?_
  case y174 => (intro w hSw; unfold ReadS at hSw; go_simp; try with_reducible rfl)
  simp only [List.setIfInBounds_toArray, List.set_cons_zero, List.set_cons_succ]
  refine held_take (v := ?v177) 29 rfl (by kernel_rfl) (by kernel_rfl) (by kernel_rfl) (fun _ _ _ h => h) (by rfl) ?y177 (by assumption) ?_
  case y177 => (intro w hSw; unfold ReadS at hSw; go_simp; try with_reducible rfl)
  simp only [List.setIfInBounds_toArray, List.set_cons_zero, List.set_cons_succ]
  refine held_take (v := ?v180) 30 rfl (by kernel_rfl) (by kernel_rfl) (by kernel_rfl) (fun _ _ _ h => h) (by rfl) ?y180 (by assumption) ?_
  case y180 => (intro w hSw; unfold ReadS at hSw; go_simp; try with_reducible rfl)
  simp only [List.setIfInBounds_toArray, List.set_cons_zero, List.set_cons_succ]
  refine held_take (v := ?v183) 31 rfl (by kernel_rfl) (by kernel_rfl) (by kernel_rfl) (fun _ _ _ h => h) (by rfl) ?y183 (by assumption) ?_
  case y183 => (intro w hSw; unfold ReadS at hSw; go_simp; try with_reducible rfl)
  simp only [List.setIfInBounds_toArray, List.set_cons_zero, List.set_cons_succ]
  refine held_take (v := ?v186) 32 rfl (by kernel_rfl) (by kernel_rfl) (by kernel_rfl) (fun _ _ _ h => h) (by rfl) ?y186 (by assumption) ?_
  case y186 => (intro w hSw; unfold ReadS at hSw; go_simp; try with_reducible rfl)
  simp only [List.setIfInBounds_toArray, List.set_cons_zero, List.set_cons_succ]
  generalize (if cap = 20 then some (⟨b, off, none⟩ : Addr) else some ⟨b, off + 20, none⟩) = A20
  refine held_one 4 rfl (by kernel_rfl) (by rfl) (fun K hK => ?_)
  go_simp
  refine (HN.out _ (((Below.refl _ _).alloc (Nat.le_refl _) _).drew) 2 (by omega)).mono ?_
  rintro e w' ⟨rfl, rfl⟩
  refine hK.out _ _ hHeld (fun hHeld => ?_)
  clear hK K
  refine held_one 6 rfl (by kernel_rfl) (by rfl) (fun K hK => ?_)
  go_simp
  refine (HN.out _ (((Below.refl _ _).alloc (Nat.le_refl _) _).drew) 4 (by omega)).mono ?_
  rintro e w' ⟨rfl, rfl⟩
  refine hK.out _ _ hHeld (fun hHeld => ?_)
  clear hK K
  refine held_take (v := ?v202) 7 rfl (by kernel_rfl) (by kernel_rfl) (by kernel_rfl) (fun _ _ _ h => h) (by rfl) ?y202 (by assumption) ?_
  case y202 => (intro w hSw; unfold ReadS at hSw; go_simp; try with_reducible rfl)
  simp only [List.setIfInBounds_toArray, List.set_cons_zero, List.set_cons_succ]
  refine held_take (v := ?v205) 33 rfl (by kernel_rfl) (by kernel_rfl) (by kernel_rfl) (fun _ _ _ h => h) (by rfl) ?y205 (by assumption) ?_
  case y205 => (intro w hSw; unfold ReadS at hSw; go_simp; try with_reducible rfl)
  simp only [List.setIfInBounds_toArray, List.set_cons_zero, List.set_cons_succ]
  have hR : (.agg #[.int .u8 (byteAt l 1), .int .i64 (wordAt l 2 : Int), .int .u16 (IntKind.u16.wrap (wordAt l 4 : Int)), .bool (bits .and .i64 (wordAt l 6 : Int) 16384 != 0), .bool (bits .and .i64 (wordAt l 6 : Int) 8192 != 0), .int .i64 (bits .and .i64 (wordAt l 6 : Int) 8191),
    .int .u8 (byteAt l 8), .int .u8 (byteAt l 9), .int .u8 (byteAt l 12), .int .u8 (byteAt l 13), .int .u8 (byteAt l 14), .int .u8 (byteAt l 15), .int .u8 (byteAt l 16), .int .u8 (byteAt l 17), .int .u8 (byteAt l 18), .int .u8 (byteAt l 19), .string ⟨(l.drop 20).toArray⟩] : Value) = .agg (readH l).cells := by
    have hle := wordAt_le l 4
    rw [and_keep _ (wordAt_le l 6), and_more _ (wordAt_le l 6), and_off _ (wordAt_le l 6), show IntKind.u16.wrap (wordAt l 4 : Int) = (wordAt l 4 : Int) by rw [IntKind.wrap_u16]; omega]
    rfl
  refine held_none 34 rfl (by kernel_rfl) (by rfl) (fun K hK => ?_)
  refine wp_store_row _ (.tmp 2) (.tmp 39) rfl w.heap.size (readH l).cells rfl hR _ _ (heap_alloc_new w _) (hdr_infoC _) rfl (hdr_one _) ?_
  have gS : Below w.heap.size w ((w.alloc (.cells #[.int .u8 0, .int .i64 0, .int .u16 0, .bool false, .bool false, .int .i64 0, .int .u8 0, .int .u8 0, .int .u8 0, .int .u8 0, .int .u8 0, .int .u8 0, .int .u8 0, .int .u8 0, .int .u8 0, .int .u8 0, .string ⟨#[]⟩] 27)).drew.setRow w.heap.size (readH l).cells) := below_setRow ((Below.refl _ _).alloc (Nat.le_refl _) _).drew (Nat.le_refl _) _
  have gH : ((w.alloc (.cells #[.int .u8 0, .int .i64 0, .int .u16 0, .bool false, .bool false, .int .i64 0, .int .u8 0, .int .u8 0, .int .u8 0, .int .u8 0, .int .u8 0, .int .u8 0, .int .u8 0, .int .u8 0, .int .u8 0, .int .u8 0, .string ⟨#[]⟩] 27)).drew.setRow w.heap.size (readH l).cells).heap[w.heap.size]? = _ := setRow_heap _ _ _ _ _ _ (heap_alloc_new w _)
  refine hK.out _ _ (HC.out _ gS) (fun hHeld1 => ?_)
  clear hK K
  refine wpAnyH_done (by kernel_rfl) ?_ _
  refine NoPanic.normal ?_
  clear hHeld1 hHeld hR
  go_wp2
  exact bodyPost_ret (results_hdr Try.results22 _ _ w.heap.size (readH l) rfl gH) rfl ⟨rfl, gS⟩
end Go.Proofs.Ytchkbdgoghcgcaa
