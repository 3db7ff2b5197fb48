/- Package slots: a table in memory; check, Len, turn, home. -/
import Derived.Test.YtoliijajhikhgaaRws
import Derived.Test.YtoliijajhikhgaaRegX
import Derived.Test.YtoliijajhikhgaaM13
import Derived.BigQuiet
namespace Go.Proofs.Ytoliijajhikhgaa
open Go Go.RowKit Go.Shelf
attribute [local go_sem] Oper.semAt_some

def slR (s : Slt) : List Value := [.int .i64 s.l, .int .i64 s.v, .bool s.h]
def slV (s : Slt) : Value := .agg (slR s).toArray
theorem slR_all (l : List Slt) : ∀ x ∈ l, (slR x).length = 3 := fun _ _ => rfl
theorem slR_one (s : Slt) : ∀ v ∈ slR s, v.oneCell' = true := by
  intro v h
  simp only [slR, List.mem_cons, List.not_mem_nil, or_false] at h
  rcases h with rfl | rfl | rfl <;> rfl
theorem sl_info : (Try.prog.info? 58).map (·.size) = some 3 := by kernel_rfl
/-- A table: how many it may hold, how many it holds, how many bits are left out, the slots. -/
def tbR (room cnt : Int) (wd g n : Nat) : List Value := [.int .i64 room, .int .i64 cnt, .int .i64 (32 - (wd : Int)), .slice (some ⟨g, 0, none⟩) n n]
structure TbM (W : World) (pt g wd : Nat) (room cnt : Int) (sl : List Slt) : Prop where
  tb : Bx W pt 56 (tbR room cnt wd g sl.length)
  sb : Bx W g 58 (sl.flatMap slR)
  len : sl.length = 2 ^ wd
  w1 : 1 ≤ wd
  w2 : wd ≤ 17
theorem TbM.up {W W' : World} {pt g wd : Nat} {room cnt : Int} {sl : List Slt} (h : TbM W pt g wd room cnt sl) (hb : Below W.heap.size W W') : TbM W' pt g wd room cnt sl := ⟨h.tb.up hb, h.sb.up hb, h.len, h.w1, h.w2⟩
theorem TbM.ne {W : World} {pt g wd : Nat} {room cnt : Int} {sl : List Slt} (h : TbM W pt g wd room cnt sl) : pt ≠ g := fun e => by
  have h1 := h.tb
  have h2 := h.sb
  rw [e] at h1
  unfold Bx at h1 h2
  rw [h1] at h2
  have h3 := Option.some.inj h2
  injection h3 with _ h4
  exact absurd h4 (by decide)
theorem TbM.range {W : World} {pt g wd : Nat} {room cnt : Int} {sl : List Slt} (h : TbM W pt g wd room cnt sl) (i : Nat) (x : Slt) (hx : sl[i]? = some x) : W.rangeAt g (i * 3) (slR x) := by
  have := flat_range (slR_all sl) (w := W) (b := g) (k := 0) (rangeAll h.sb) i x hx
  rwa [Nat.zero_add] at this
theorem TbM.low {W : World} {pt g wd : Nat} {room cnt : Int} {sl : List Slt} (h : TbM W pt g wd room cnt sl) : 2 ≤ sl.length ∧ sl.length ≤ 131072 := by
  rw [h.len]
  have h1 := Nat.pow_le_pow_right (show 0 < 2 by decide) h.w1
  have h2 := Nat.pow_le_pow_right (show 0 < 2 by decide) h.w2
  exact ⟨h1, h2⟩
/-- the places that go round, over ints -/
theorem and_mask (n : Int) (wd : Nat) (h : wd ≤ 17) : bits .and .i64 n (((2 ^ wd : Nat) : Int) - 1) = n % ((2 ^ wd : Nat) : Int) := by
  have hp : 0 < 2 ^ wd := Nat.two_pow_pos wd
  have hle : 2 ^ wd ≤ 2 ^ 17 := Nat.pow_le_pow_right (by decide) h
  have e1 : ((2 ^ wd : Nat) : Int) - 1 = ((2 ^ wd - 1 : Nat) : Int) := by omega
  have h2 : (BitVec.ofInt 64 ((2 ^ wd - 1 : Nat) : Int)).toNat = 2 ^ wd - 1 := by
    rw [BitVec.ofInt_natCast, BitVec.toNat_ofNat]
    exact Nat.mod_eq_of_lt (by omega)
  have key : (BitVec.ofInt 64 n &&& BitVec.ofInt 64 ((2 ^ wd - 1 : Nat) : Int)).toNat = (n % ((2 ^ 64 : Nat) : Int)).toNat % 2 ^ wd := by
    rw [BitVec.toNat_and, h2, BitVec.toNat_ofInt, Nat.and_two_pow_sub_one_eq_mod]
  have hd : ((2 ^ wd : Nat) : Int) ∣ ((2 ^ 64 : Nat) : Int) := Int.natCast_dvd_natCast.2 (Nat.pow_dvd_pow 2 (by omega))
  have e3 : (((n % ((2 ^ 64 : Nat) : Int)).toNat % 2 ^ wd : Nat) : Int) = n % ((2 ^ wd : Nat) : Int) := by
    rw [Int.natCast_emod, Int.toNat_of_nonneg (Int.emod_nonneg _ (by decide)), Int.emod_emod_of_dvd _ hd]
  rw [e1]
  show IntKind.i64.wrap ((BitVec.ofInt 64 n &&& BitVec.ofInt 64 ((2 ^ wd - 1 : Nat) : Int)).toNat : Int) = _
  rw [key, e3, IntKind.wrap_i64]
  have h5 := Int.emod_nonneg n (show ((2 ^ wd : Nat) : Int) ≠ 0 by omega)
  have h6 := Int.emod_lt_of_pos n (show 0 < ((2 ^ wd : Nat) : Int) by omega)
  omega
theorem turn_wrp {N x : Nat} (hx : x < N + N) : ((x : Int) % (N : Int)) = ((wrp N x : Nat) : Int) := by
  unfold wrp
  split
  · exact Int.emod_eq_of_lt (by omega) (by omega)
  · rw [show (x : Int) = ((x - N : Nat) : Int) + (N : Int) by omega, Int.add_emod_right]
    exact Int.emod_eq_of_lt (by omega) (by omega)
theorem turn_dst {N a b : Nat} (ha : a < N) (hb : b < N) : (((b : Int) - (a : Int)) % (N : Int)) = ((dst N a b : Nat) : Int) := by
  unfold dst
  split
  · rw [show (b : Int) - (a : Int) = ((b - a : Nat) : Int) by omega]
    exact Int.emod_eq_of_lt (by omega) (by omega)
  · rw [show (b : Int) - (a : Int) = ((b + N - a : Nat) : Int) + (N : Int) * (-1) by omega, Int.add_mul_emod_self_left]
    exact Int.emod_eq_of_lt (by omega) (by omega)
set_option maxRecDepth 100000 in
theorem turn_any {pt g wd n : Nat} {room cnt : Int} (z : Int) (w : World) (h : Bx w pt 56 (tbR room cnt wd g n)) (hn : n = 2 ^ wd) (hw : wd ≤ 17) :
    Calls Try.prog 29 #[.pointer (some ⟨pt, 0, none⟩), .int .i64 z] w fun e w' => e = .returned (.int .i64 (z % (n : Int))) ∧ w = w' := by
  have c3 : w.cell? ⟨pt, 3, none⟩ = some (.slice (some ⟨g, 0, none⟩) n n) := by rw [h.cell]; rfl
  have h2 := Nat.pow_le_pow_right (show 0 < 2 by decide) hw
  have hp : 0 < 2 ^ wd := Nat.two_pow_pos wd
  have HM := Lib.hid (and_mask z wd hw)
  rw [← hn] at HM h2 hp
  have k1 : IntKind.i64.wrap ((n : Int) - 1) = (n : Int) - 1 := by simp [IntKind.wrap, IntKind.bits, IntKind.signed]; omega
  clear hn hp h2 h
  go_enter Try.func29, Try.ntmps29
  go_wp2
  rw [HM.out]
  go_ret
  exact ⟨rfl, rfl⟩
/-- where a label is looked for first -/
def homeI (wd : Nat) (a : Int) : Nat := (a % 4294967296 * 2654433280 % 4294967296 / 2 ^ (32 - wd)).toNat
theorem homeI_eq (wd : Nat) (a : Int) : a % 4294967296 * 2654433280 % 4294967296 / 2 ^ (32 - wd) = (homeI wd a : Int) := by
  have h0 : 0 ≤ a % 4294967296 * 2654433280 % 4294967296 := Int.emod_nonneg _ (by decide)
  have hp : (0 : Int) < 2 ^ (32 - wd) := Int.pow_pos (by decide)
  exact (Int.toNat_of_nonneg (Int.ediv_nonneg h0 (Int.le_of_lt hp))).symm
theorem homeI_lt {wd : Nat} (hw : wd ≤ 17) (a : Int) : homeI wd a < 2 ^ wd := by
  have h1 : a % 4294967296 * 2654433280 % 4294967296 < 4294967296 := Int.emod_lt_of_pos _ (by decide)
  have hp : (0 : Int) < 2 ^ (32 - wd) := Int.pow_pos (by decide)
  have e : (4294967296 : Int) = 2 ^ wd * 2 ^ (32 - wd) := by
    rw [← Int.pow_add, show wd + (32 - wd) = 32 by omega]
    rfl
  have h2 : a % 4294967296 * 2654433280 % 4294967296 / 2 ^ (32 - wd) < 2 ^ wd := Int.ediv_lt_of_lt_mul hp (by rw [← e]; exact h1)
  rw [homeI_eq] at h2
  have h3 : ((2 ^ wd : Nat) : Int) = 2 ^ wd := by simp
  rw [← h3] at h2
  omega
set_option maxRecDepth 100000 in
theorem home_any {pt g wd n : Nat} {room cnt : Int} (a : Int) (w : World) (h : Bx w pt 56 (tbR room cnt wd g n)) (hw : wd ≤ 17) :
    Calls Try.prog 28 #[.pointer (some ⟨pt, 0, none⟩), .int .i64 a] w fun e w' => e = .returned (.int .i64 (homeI wd a : Int)) ∧ w = w' := by
  have c2 : w.cell? ⟨pt, 2, none⟩ = some (.int .i64 (32 - (wd : Int))) := by rw [h.cell]; rfl
  have hs0 : (0 : Int) ≤ 32 - (wd : Int) := by omega
  have hs1 : ¬ (32 - (wd : Int)) < 0 := by omega
  have HE := Lib.hid (homeI_eq wd a)
  have hlt := homeI_lt hw a
  have h2 := Nat.pow_le_pow_right (show 0 < 2 by decide) hw
  have HW := Lib.hid (show wrap64 (homeI wd a : Int) = (homeI wd a : Int) by
    have h3 : homeI wd a < 131072 := Nat.lt_of_lt_of_le hlt h2
    first | (simp [wrap64]; omega) | (unfold wrap64; omega))
  clear h hlt h2
  go_enter Try.func28, Try.ntmps28
  go_wp2
  rw [HE.out, HW.out]
  go_ret
  exact ⟨rfl, rfl⟩
/-- why a label may not be in a table -/
def chk13 (a : Int) : Int := if a < 0 ∨ 1048575 < a then 40 else 0
set_option maxRecDepth 100000 in
theorem check_any (pt : Nat) (a : Int) (w : World) : Calls Try.prog 18 #[.pointer (some ⟨pt, 0, none⟩), .int .i64 a] w fun e w' => e = .returned (.int .i64 (chk13 a)) ∧ w = w' := by
  unfold chk13
  by_cases h1 : a < 0
  · rw [if_pos (.inl h1)]
    go_enter Try.func18, Try.ntmps18
    go_wp2
    go_ret
    exact ⟨rfl, rfl⟩
  · by_cases h2 : 1048575 < a
    · rw [if_pos (.inr h2)]
      go_enter Try.func18, Try.ntmps18
      go_wp2
      go_ret
      exact ⟨rfl, rfl⟩
    · rw [if_neg (by omega)]
      go_enter Try.func18, Try.ntmps18
      go_wp2
      go_ret
      exact ⟨rfl, rfl⟩
set_option maxRecDepth 100000 in
theorem check_nil (a : Int) (w : World) : Calls Try.prog 18 #[.pointer none, .int .i64 a] w fun e w' => e = .returned (.int .i64 1) ∧ w = w' := by
  go_enter Try.func18, Try.ntmps18
  go_wp2
  go_ret
  exact ⟨rfl, rfl⟩
set_option maxRecDepth 100000 in
theorem len_nil (w : World) : Calls Try.prog 15 #[.pointer none] w fun e w' => e = .returned (.int .i64 0) ∧ w = w' := by
  go_enter Try.func15, Try.ntmps15
  go_wp2
  go_ret
  exact ⟨rfl, rfl⟩
set_option maxRecDepth 100000 in
theorem tlen_any {pt g wd n : Nat} {room cnt : Int} (w : World) (h : Bx w pt 56 (tbR room cnt wd g n)) : Calls Try.prog 15 #[.pointer (some ⟨pt, 0, none⟩)] w fun e w' => e = .returned (.int .i64 cnt) ∧ w = w' := by
  have c1 : w.cell? ⟨pt, 1, none⟩ = some (.int .i64 cnt) := by rw [h.cell]; rfl
  clear h
  go_enter Try.func15, Try.ntmps15
  go_wp2
  go_ret
  exact ⟨rfl, rfl⟩
set_option maxHeartbeats 1000000 in
theorem places_in (n pt : Nat) (f : Int) (w : World) :
    CallsIn Fence.wide n Try.prog 27 #[.pointer (some ⟨pt, 0, none⟩), .int .i64 f] w fun e w' => e = .returned (.func (.func 32) #[] #[.pointer (some ⟨w.heap.size, 0, none⟩), .pointer (some ⟨w.heap.size + 1, 0, none⟩)]) ∧
      w' = (w.alloc (.cells #[.pointer (some ⟨pt, 0, none⟩)] 24)).alloc (.cells #[.int .i64 f] 3) := by
  refine callsIn_of_wp Try.func27 rfl trivial ?_ rfl
  simp only [Try.ntmps27, List.size_toArray, List.length_cons, List.length_nil, Nat.reduceAdd, Nat.reduceSub, Array.replicate_succ, Array.replicate_zero, List.push_toArray, List.append_toArray, List.nil_append, List.cons_append]
  gi_wp2
  go_ret
  exact ⟨rfl, rfl⟩
end Go.Proofs.Ytoliijajhikhgaa
