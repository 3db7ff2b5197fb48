/- Of, Check, Has, Bit and Covers of package prefix. Common and Compare of package prefix. -/
import Derived.Test.YtgimcapcnidjjaaPreA
import Derived.Test.YtgimcapcnidjjaaAwake
import Derived.Lib.BytesEntry
import Derived.Laws.Externs
namespace Go.Proofs.Ytgimcapcnidjjaa
open Go Go.RowKit

def zeroP : Pfx := ⟨false, List.replicate 16 0, 0⟩
theorem zeroP_cells : (#[.bool false, .int .u8 0, .int .u8 0, .int .u8 0, .int .u8 0, .int .u8 0, .int .u8 0, .int .u8 0, .int .u8 0, .int .u8 0, .int .u8 0, .int .u8 0, .int .u8 0, .int .u8 0, .int .u8 0, .int .u8 0, .int .u8 0, .int .i64 0] : Array Value) = zeroP.cells := rfl
theorem clamp_in (s : Bool) (n : Int) : ∃ N : Nat, N ≤ 128 ∧ max 0 (min n (mostP s)) = (N : Int) ∧ ∀ l, ofP s l n = ⟨s, maskL l N, (N : Int)⟩ := by
  have h := clamp_le s n
  have e : max 0 (min n (mostP s)) = clampP s n := by
    have : 0 ≤ mostP s := by unfold mostP; cases s <;> simp
    unfold clampP
    omega
  refine ⟨(clampP s n).toNat, by omega, by omega, fun l => ?_⟩
  unfold ofP
  rw [show ((clampP s n).toNat : Int) = clampP s n by omega]
/-- The boxes of Of. -/
def OfZ (w : World) (l : List UInt8) (W : World) : Prop := ArrT 23 W w.heap.size l ∧ PfxT W (w.heap.size + 1) zeroP ∧ Below w.heap.size w W
set_option maxRecDepth 100000 in
set_option maxHeartbeats 4000000 in
theorem pof_any (s : Bool) (l : List UInt8) (n : Int) (w : World) (hl : l.length = 16) :
    Calls Try.prog 59 #[.bool s, arrV l, .int .i64 n] w fun r w' => r = .returned (ofP s l n).val ∧ Below w.heap.size w w' := by
  obtain ⟨N, hN, hc, hof⟩ := clamp_in s n
  have HO := Lib.hid (hof l)
  have HW := Lib.hid (fun W => within_any n (mostP s) W)
  rw [hc] at HW
  have HLo := Lib.hid (fun W => plongest_any s W)
  have HH := Lib.hid (fun W => head_any l N W hl hN)
  have HM := Lib.hid (maskL_length l N)
  have HL := Lib.hid hl
  generalize hW : ((w.alloc (.cells (byteVals l).toArray 23)).alloc (.cells zeroP.cells 25)) = W
  have z : OfZ w l W := by
    refine ⟨?_, ?_, ?_⟩
    · rw [← hW]; exact (arrT_new w l).allocO _
    · have := pfxT_new (w.alloc (.cells (byteVals l).toArray 23)) zeroP
      rw [World.size_alloc, hW] at this
      exact this
    · rw [← hW]; exact ((Below.refl _ _).alloc (Nat.le_refl _) _).alloc (by simp) _
  have Z := Lib.hid z
  rw [← hW, ← zeroP_cells] at Z
  clear hW z hc hof hl hN
  clear W
  rw [show arrV l = .agg (byteVals l).toArray from rfl]
  generalize mostP s = ms at *
  generalize maskL l N = L at *
  go_enter Try.func59, Try.ntmps59
  go_wp2_with (first | (go_at_call 72; refine (HLo.out _).mono ?_; rintro e w1 ⟨rfl, rfl⟩) | (go_at_call 71; refine (HW.out _).mono ?_; rintro e w1 ⟨rfl, rfl⟩) | (refine wpList_load_arrT rfl (.tmp 4) rfl w.heap.size l (by rw [HL.out]; exact arr16P) rfl Z.out.1 ?_) | (go_at_call 73; refine (HH.out _).mono ?_; rintro e w2 ⟨rfl, b2⟩; refine Hid.out ?_))
  refine Lib.hid ?_
  have Z2 : Hid (OfZ w l w2) := ⟨Z.out.1.up b2, Z.out.2.1.up b2, below_up Z.out.2.2 b2 Z.out.2.2.size⟩
  clear Z b2
  go_wp2_with (first | (refine wpList_build_pfx rfl (.tmp 12) (.tmp 15) (.tmp 16) rfl ⟨s, L, (N : Int)⟩ HM.out rfl rfl rfl ?_) | (refine wpList_store_pfx rfl (.tmp 6) (.tmp 17) rfl (w.heap.size + 1) ⟨s, L, (N : Int)⟩ HM.out _ rfl rfl Z2.out.2.1 rfl ?_))
  exact bodyPost_ret (results_pfx Try.results59 _ _ (w.heap.size + 1) ⟨s, L, (N : Int)⟩ HM.out rfl (pfxT_setRow Z2.out.2.1 _)) rfl ⟨by rw [HO.out], below_setRow Z2.out.2.2 (by omega) _⟩
theorem exec_load_six {ρ : Operand → Value} {o : Oper} {W : World} (x : Operand) (ho : o.op = .load 4 x) (g : Nat) (p : Pfx) (hx : ρ x = .pointer (some ⟨g, 0, none⟩)) (hg : PfxT W g p) : (execOp ρ o).run Try.prog W = .ok (.value (.bool p.six)) W := by
  have := hg.six
  unfold execOp
  go_simp
theorem exec_load_len {ρ : Operand → Value} {o : Oper} {W : World} (x : Operand) (ho : o.op = .load 3 x) (g : Nat) (p : Pfx) (f : p.addr.length = 16) (hx : ρ x = .pointer (some ⟨g, 17, none⟩)) (hg : PfxT W g p) : (execOp ρ o).run Try.prog W = .ok (.value (.int .i64 p.len)) W := by
  have := hg.len f
  unfold execOp
  go_simp
theorem exec_load_adr {ρ : Operand → Value} {o : Oper} {W : World} (x : Operand) (ho : o.op = .load 23 x) (g : Nat) (p : Pfx) (f : p.addr.length = 16) (hx : ρ x = .pointer (some ⟨g, 1, none⟩)) (hg : PfxT W g p) : (execOp ρ o).run Try.prog W = .ok (.value (arrV p.addr)) W :=
  exec_load_arrR x ho g 1 p.addr f hx hg.range
theorem chk_of (p : Pfx) (f : p.addr.length = 16) : eqP p (ofP p.six p.addr p.len) = chkP p := by
  cases h : chkP p
  · refine eqP_no fun e => ?_
    have := of_chk p.six p.addr p.len
    rw [← e, h] at this
    cases this
  · refine eqP_iff.2 ?_
    obtain ⟨⟨h0, h1⟩, hb⟩ := (chk_iff p).1 h
    have hc : clampP p.six p.len = p.len := by unfold clampP; omega
    obtain ⟨s, l, n⟩ := p
    simp only at *
    unfold ofP
    rw [hc]
    congr 1
    refine addr_ext f (maskL_length _ _) fun i hi => ?_
    rw [maskL_bit _ _ i hi]
    by_cases hl : (i : Int) < n
    · rw [decide_eq_true (by omega)]; rfl
    · rw [hb i hi (by omega)]; simp
theorem of_len (s : Bool) (l : List UInt8) (n : Int) : (ofP s l n).addr.length = 16 := maskL_length _ _
/-- A box with a prefix. -/
def OneZ (w : World) (p : Pfx) (W : World) : Prop := PfxT W w.heap.size p ∧ Below w.heap.size w W
theorem OneZ.up {w : World} {p : Pfx} {W W' : World} (h : OneZ w p W) (hb : Below W.heap.size W W') : OneZ w p W' := ⟨h.1.up hb, below_up h.2 hb h.2.size⟩
theorem OneZ.drew {w : World} {p : Pfx} {W : World} (h : OneZ w p W) : OneZ w p W.drew := ⟨h.1, h.2.drew⟩
theorem oneZ_new (w : World) (p : Pfx) : OneZ w p (w.alloc (.cells p.cells 25)) := ⟨pfxT_new w p, (Below.refl _ _).alloc (Nat.le_refl _) _⟩
set_option maxRecDepth 100000 in
set_option maxHeartbeats 4000000 in
theorem pcheck_any (p : Pfx) (w : World) (f : p.addr.length = 16) :
    Calls Try.prog 62 #[p.val] w fun r w' => r = .returned (.int .i64 (if chkP p then 0 else 1)) ∧ Below w.heap.size w w' := by
  have HO := Lib.hid (fun W => pof_any p.six p.addr p.len W f)
  have hc := chk_of p f
  have HOL := Lib.hid (of_len p.six p.addr p.len)
  have Z := Lib.hid (oneZ_new w p)
  have HL := Lib.hid f
  rw [show p.val = .agg p.cells from rfl]
  generalize ofP p.six p.addr p.len = q at *
  generalize chkP p = b at *
  have HC := Lib.hid hc
  clear hc f
  go_enter Try.func62, Try.ntmps62
  go_wp2_with fail
  refine wp_region_noPanic ?_
  refine wp_region_held_drew (S := OneZ w p) (by kernel_rfl) Z.out.drew (fun hHeld => ?_)
  clear Z
  refine held_take (v := p.val) 0 rfl (by kernel_rfl) (by kernel_rfl) (by kernel_rfl) (fun _ _ _ h => h) (by rfl) (fun W hSw => exec_load_pfx (.tmp 1) rfl w.heap.size p HL.out rfl hSw.1) (by assumption) ?_
  simp only [List.setIfInBounds_toArray, List.set_cons_zero, List.set_cons_succ]
  refine held_take (v := ?v111) 1 rfl (by kernel_rfl) (by kernel_rfl) (by kernel_rfl) (fun _ _ _ h => h) (by rfl) ?y111 (by assumption) ?_
  case y111 => (intro w hSw; unfold OneZ at hSw; go_simp; (try with_reducible rfl); (try omega))
  simp only [List.setIfInBounds_toArray, List.set_cons_zero, List.set_cons_succ]
  refine held_take (v := ?v114) 3 rfl (by kernel_rfl) (by kernel_rfl) (by kernel_rfl) (fun _ _ _ h => h) (by rfl) ?y114 (by assumption) ?_
  case y114 => (intro w hSw; unfold OneZ at hSw; go_simp; (try with_reducible rfl); (try omega))
  simp only [List.setIfInBounds_toArray, List.set_cons_zero, List.set_cons_succ]
  refine held_take (v := ?v117) 5 rfl (by kernel_rfl) (by kernel_rfl) (by kernel_rfl) (fun _ _ _ h => h) (by rfl) ?y117 (by assumption) ?_
  case y117 => (intro w hSw; unfold OneZ at hSw; go_simp; (try with_reducible rfl); (try omega))
  simp only [List.setIfInBounds_toArray, List.set_cons_zero, List.set_cons_succ]
  refine held_take (v := .bool p.six) 2 rfl (by kernel_rfl) (by kernel_rfl) (by kernel_rfl) (fun _ _ _ h => h) (by rfl) (fun W hSw => exec_load_six (.tmp 4) rfl w.heap.size p rfl hSw.1) (by assumption) ?_
  simp only [List.setIfInBounds_toArray, List.set_cons_zero, List.set_cons_succ]
  refine held_take (v := arrV p.addr) 4 rfl (by kernel_rfl) (by kernel_rfl) (by kernel_rfl) (fun _ _ _ h => h) (by rfl) (fun W hSw => exec_load_adr (.tmp 6) rfl w.heap.size p HL.out rfl hSw.1) (by assumption) ?_
  simp only [List.setIfInBounds_toArray, List.set_cons_zero, List.set_cons_succ]
  refine held_take (v := .int .i64 p.len) 6 rfl (by kernel_rfl) (by kernel_rfl) (by kernel_rfl) (fun _ _ _ h => h) (by rfl) (fun W hSw => exec_load_len (.tmp 8) rfl w.heap.size p HL.out rfl hSw.1) (by assumption) ?_
  simp only [List.setIfInBounds_toArray, List.set_cons_zero, List.set_cons_succ]
  refine held_one 7 rfl (by kernel_rfl) (by rfl) (fun K hK => ?_)
  go_simp
  refine (HO.out _).mono ?_
  rintro e w1 ⟨rfl, b1⟩
  refine hK.out _ _ (OneZ.up hHeld b1) (fun hHeld => ?_)
  clear hK K
  refine held_take (v := .bool (!b)) 8 rfl (by kernel_rfl) (by kernel_rfl) (by kernel_rfl) (fun _ _ _ h => h) (by rfl) (fun W hSw => by rw [exec_neq_pfx 3 10 _ rfl p q HL.out HOL.out rfl rfl, HC.out]) (by assumption) ?_
  simp only [List.setIfInBounds_toArray, List.set_cons_zero, List.set_cons_succ]
  refine wpAnyH_done (by kernel_rfl) ?_ _
  refine NoPanic.normal ?_
  have HH := Lib.hid hHeld
  clear hHeld
  cases b
  · go_wp2
    go_ret
    exact ⟨rfl, HH.out.2⟩
  · go_wp2
    go_ret
    exact ⟨rfl, HH.out.2⟩
theorem has_mask (p : Pfx) (a : List UInt8) (N : Nat) (hN : max 0 (min p.len 128) = (N : Int)) : decide (maskL p.addr N = maskL a N) = hasP p a := by
  cases h : hasP p a
  · refine decide_eq_false fun e => ?_
    have : hasP p a = true := by
      rw [has_iff]
      intro i hi hl
      have h1 := maskL_bit p.addr N i hi
      have h2 := maskL_bit a N i hi
      rw [e, h2, decide_eq_true (show i < N by omega)] at h1
      exact h1.symm
    rw [h] at this
    cases this
  · refine decide_eq_true (addr_ext (maskL_length _ _) (maskL_length _ _) fun i hi => ?_)
    rw [maskL_bit _ _ i hi, maskL_bit _ _ i hi]
    by_cases hl : i < N
    · rw [(has_iff p a).1 h i hi (by omega)]
    · rw [decide_eq_false hl]; rfl
/-- A box with a prefix, and one with an address. -/
def TwoZ (w : World) (p : Pfx) (a : List UInt8) (W : World) : Prop := PfxT W w.heap.size p ∧ ArrT 23 W (w.heap.size + 1) a ∧ Below w.heap.size w W
theorem TwoZ.up {w : World} {p : Pfx} {a : List UInt8} {W W' : World} (h : TwoZ w p a W) (hb : Below W.heap.size W W') : TwoZ w p a W' := ⟨h.1.up hb, h.2.1.up hb, below_up h.2.2 hb h.2.2.size⟩
theorem TwoZ.drew {w : World} {p : Pfx} {a : List UInt8} {W : World} (h : TwoZ w p a W) : TwoZ w p a W.drew := ⟨h.1, h.2.1, h.2.2.drew⟩
theorem twoZ_new (w : World) (p : Pfx) (a : List UInt8) : TwoZ w p a ((w.alloc (.cells p.cells 25)).alloc (.cells (byteVals a).toArray 23)) := by
  refine ⟨(pfxT_new w p).al _, ?_, ((Below.refl _ _).alloc (Nat.le_refl _) _).alloc (by simp) _⟩
  have := arrT_new (t := 23) (w.alloc (.cells p.cells 25)) a
  rw [World.size_alloc] at this
  exact this
set_option maxRecDepth 100000 in
set_option maxHeartbeats 4000000 in
theorem has_any (p : Pfx) (a : List UInt8) (w : World) (f : p.addr.length = 16) (ha : a.length = 16) :
    Calls Try.prog 64 #[p.val, arrV a] w fun r w' => r = .returned (.bool (hasP p a)) ∧ Below w.heap.size w w' := by
  obtain ⟨N, hN⟩ : ∃ N : Nat, max 0 (min p.len 128) = (N : Int) := ⟨(max 0 (min p.len 128)).toNat, by omega⟩
  have hN2 : N ≤ 128 := by omega
  have hm := has_mask p a N hN
  have HW := Lib.hid (fun W => within_any p.len 128 W)
  rw [hN] at HW
  have H1 := Lib.hid (fun W => head_any p.addr N W f hN2)
  have H2 := Lib.hid (fun W => head_any a N W ha hN2)
  have Z := Lib.hid (twoZ_new w p a)
  have hlen := Z.out.1.len f
  have HL := Lib.hid f
  have HA := Lib.hid ha
  have HL1 := Lib.hid (maskL_length p.addr N)
  have HL2 := Lib.hid (maskL_length a N)
  rw [show p.val = .agg p.cells from rfl, show arrV a = .agg (byteVals a).toArray from rfl]
  generalize maskL p.addr N = L at *
  generalize maskL a N = M at *
  generalize hasP p a = b at *
  have HM := Lib.hid hm
  clear hm f ha hN hN2
  go_enter Try.func64, Try.ntmps64
  go_wp2_with (go_at_call 71; refine (HW.out _).mono ?_; rintro e w1 ⟨rfl, rfl⟩)
  refine wp_region_noPanic ?_
  refine wp_region_held_drew (S := TwoZ w p a) (by kernel_rfl) Z.out.drew (fun hHeld => ?_)
  clear Z hlen
  refine held_take (v := ?v199) 0 rfl (by kernel_rfl) (by kernel_rfl) (by kernel_rfl) (fun _ _ _ h => h) (by rfl) ?y199 (by assumption) ?_
  case y199 => (intro w hSw; unfold TwoZ at hSw; go_simp; (try with_reducible rfl); (try omega))
  simp only [List.setIfInBounds_toArray, List.set_cons_zero, List.set_cons_succ]
  refine held_take (v := ?v202) 2 rfl (by kernel_rfl) (by kernel_rfl) (by kernel_rfl) (fun _ _ _ h => h) (by rfl) ?y202 (by assumption) ?_
  case y202 => (intro w hSw; unfold TwoZ at hSw; go_simp; (try with_reducible rfl); (try omega))
  simp only [List.setIfInBounds_toArray, List.set_cons_zero, List.set_cons_succ]
  refine held_take (v := ?v205) 5 rfl (by kernel_rfl) (by kernel_rfl) (by kernel_rfl) (fun _ _ _ h => h) (by rfl) ?y205 (by assumption) ?_
  case y205 => (intro w hSw; unfold TwoZ at hSw; go_simp; (try with_reducible rfl); (try omega))
  simp only [List.setIfInBounds_toArray, List.set_cons_zero, List.set_cons_succ]
  refine held_take (v := arrV p.addr) 1 rfl (by kernel_rfl) (by kernel_rfl) (by kernel_rfl) (fun _ _ _ h => h) (by rfl) (fun W hSw => exec_load_adr (.tmp 9) rfl w.heap.size p HL.out rfl hSw.1) (by assumption) ?_
  simp only [List.setIfInBounds_toArray, List.set_cons_zero, List.set_cons_succ]
  refine held_take (v := arrV a) 4 rfl (by kernel_rfl) (by kernel_rfl) (by kernel_rfl) (fun _ _ _ h => h) (by rfl) (fun W hSw => exec_load_arrT (.tmp 3) rfl (w.heap.size + 1) a (by rw [HA.out]; exact arr16P) rfl hSw.2.1) (by assumption) ?_
  simp only [List.setIfInBounds_toArray, List.set_cons_zero, List.set_cons_succ]
  refine held_one 3 rfl (by kernel_rfl) (by rfl) (fun K hK => ?_)
  go_simp
  refine (H1.out _).mono ?_
  rintro e w1 ⟨rfl, b1⟩
  refine hK.out _ _ (TwoZ.up hHeld b1) (fun hHeld => ?_)
  clear hK K
  refine held_one 6 rfl (by kernel_rfl) (by rfl) (fun K hK => ?_)
  go_simp
  refine (H2.out _).mono ?_
  rintro e w2 ⟨rfl, b2⟩
  refine hK.out _ _ (TwoZ.up hHeld b2) (fun hHeld => ?_)
  clear hK K
  refine held_take (v := .bool b) 7 rfl (by kernel_rfl) (by kernel_rfl) (by kernel_rfl) (fun _ _ _ h => h) (by rfl) (fun W hSw => by rw [exec_eql_arr arr16P (.tmp 12) (.tmp 15) _ rfl L M HL1.out HL2.out rfl rfl, HM.out]) (by assumption) ?_
  simp only [List.setIfInBounds_toArray, List.set_cons_zero, List.set_cons_succ]
  refine held_take (v := ?v226) 8 rfl (by kernel_rfl) (by kernel_rfl) (by kernel_rfl) (fun _ _ _ h => h) (by rfl) ?y226 (by assumption) ?_
  case y226 => (intro w hSw; unfold TwoZ at hSw; go_simp; (try with_reducible rfl); (try omega))
  simp only [List.setIfInBounds_toArray, List.set_cons_zero, List.set_cons_succ]
  refine wpAnyH_done (by kernel_rfl) ?_ _
  refine NoPanic.normal ?_
  have HH := Lib.hid hHeld
  clear hHeld
  go_wp2
  go_ret
  exact ⟨rfl, HH.out.2.2⟩
theorem bit_table : ∀ (j : Fin 8) (x : Fin 256), wrap64 (bits BinOp.and IntKind.u8 ((x.val : Int) / 2 ^ (7 - j.val)) 1) = if x.val.testBit (7 - j.val) = true then 1 else 0 := by decide +kernel
/-- A bit as a number. -/
def bitI (a : List UInt8) (i : Int) : Int := if 0 ≤ i ∧ i < 128 ∧ bitL a i.toNat = true then 1 else 0
set_option maxRecDepth 100000 in
set_option maxHeartbeats 4000000 in
theorem bit_any (a : List UInt8) (i : Int) (w : World) (ha : a.length = 16) :
    Calls Try.prog 76 #[arrV a, .int .i64 i] w fun r w' => r = .returned (.int .i64 (bitI a i)) ∧ Below w.heap.size w w' := by
  have hb : Below w.heap.size w (w.alloc (.cells (byteVals a).toArray 23)) := (Below.refl _ _).alloc (Nat.le_refl _) _
  have HB := Lib.hid hb
  rw [show arrV a = .agg (byteVals a).toArray from rfl]
  clear hb
  by_cases h0 : i < 0
  · have e : bitI a i = 0 := by unfold bitI; rw [if_neg (by omega)]
    rw [e]
    clear ha
    go_enter Try.func76, Try.ntmps76
    go_wp2
    go_ret
    exact ⟨rfl, HB.out⟩
  by_cases h1 : 128 ≤ i
  · have e : bitI a i = 0 := by unfold bitI; rw [if_neg (by omega)]
    rw [e]
    clear ha
    go_enter Try.func76, Try.ntmps76
    go_wp2
    go_ret
    exact ⟨rfl, HB.out⟩
  obtain ⟨k, rfl⟩ : ∃ k : Nat, i = (k : Int) := ⟨i.toNat, by omega⟩
  have hk : k < 128 := by omega
  have c := (arrT_new (t := 23) w a).cell (k / 8) (by omega)
  go_enter Try.func76, Try.ntmps76
  go_wp2
  go_ret
  refine ⟨?_, HB.out⟩
  have e : wrap64 (bits BinOp.and IntKind.u8 (byteAt a (k / 8) / 2 ^ (7 - k % 8)) 1) = bitI a (k : Int) := by
    have := bit_table ⟨k % 8, by omega⟩ ⟨(a.getD (k / 8) 0).toNat, UInt8.toNat_lt _⟩
    refine this.trans ?_
    unfold bitI bitL
    rw [Int.toNat_natCast]
    by_cases hq : (a.getD (k / 8) 0).toNat.testBit (7 - k % 8) = true
    · rw [if_pos hq, if_pos ⟨by omega, by omega, hq⟩]
    · rw [if_neg hq, if_neg (fun h => hq h.2.2)]
  show Ending.returned (.int .i64 (wrap64 (bits BinOp.and IntKind.u8 (byteAt a (k / 8) / 2 ^ (7 - k % 8)) 1))) = _
  rw [e]
/-- Two boxes with prefixes. -/
def PairZ (w : World) (p q : Pfx) (W : World) : Prop := PfxT W w.heap.size p ∧ PfxT W (w.heap.size + 1) q ∧ Below w.heap.size w W
theorem PairZ.up {w : World} {p q : Pfx} {W W' : World} (h : PairZ w p q W) (hb : Below W.heap.size W W') : PairZ w p q W' := ⟨h.1.up hb, h.2.1.up hb, below_up h.2.2 hb h.2.2.size⟩
theorem PairZ.drew {w : World} {p q : Pfx} {W : World} (h : PairZ w p q W) : PairZ w p q W.drew := ⟨h.1, h.2.1, h.2.2.drew⟩
theorem PairZ.al {w : World} {p q : Pfx} {W : World} (h : PairZ w p q W) (o : Obj) : PairZ w p q (W.alloc o) := h.up ((Below.refl _ _).alloc (Nat.le_refl _) _)
theorem pairZ_new (w : World) (p q : Pfx) : PairZ w p q ((w.alloc (.cells p.cells 25)).alloc (.cells q.cells 25)) := by
  refine ⟨(pfxT_new w p).al _, ?_, ((Below.refl _ _).alloc (Nat.le_refl _) _).alloc (by simp) _⟩
  have := pfxT_new (w.alloc (.cells p.cells 25)) q
  rw [World.size_alloc] at this
  exact this
set_option maxRecDepth 100000 in
set_option maxHeartbeats 4000000 in
theorem covers_any (p q : Pfx) (w : World) (f : p.addr.length = 16) (g : q.addr.length = 16) :
    Calls Try.prog 47 #[p.val, q.val] w fun r w' => r = .returned (.bool (covP p q)) ∧ Below w.heap.size w w' := by
  have HH := Lib.hid (fun W => has_any p q.addr W f g)
  have Z := Lib.hid (pairZ_new w p q)
  have c1 := Z.out.1.six
  have c2 := Z.out.2.1.six
  have c3 := Z.out.1.len f
  have c4 := Z.out.2.1.len g
  have HF := Lib.hid f
  have HG := Lib.hid g
  rw [show p.val = .agg p.cells from rfl, show q.val = .agg q.cells from rfl]
  have hcov : covP p q = ((p.six == q.six) && decide (p.len ≤ q.len) && hasP p q.addr) := rfl
  clear f g
  by_cases h6 : p.six = q.six
  · by_cases hle : p.len ≤ q.len
    · rw [beq_iff_eq.2 h6, decide_eq_true hle, Bool.true_and, Bool.true_and] at hcov
      rw [hcov]
      rw [h6] at c1
      clear hcov h6
      generalize hasP p q.addr = b at *
      generalize q.six = s at *
      generalize p.len = m at *
      generalize q.len = n at *
      go_enter Try.func47, Try.ntmps47
      cases s
      · go_wp2_with (first | (refine wpList_load_pfxG rfl (.tmp 2) rfl w.heap.size p HF.out rfl Z.out.1 ?_) | (refine wpList_load_arrRG rfl (.tmp 19) rfl (w.heap.size + 1) 1 q.addr HG.out rfl Z.out.2.1.range ?_) | (go_at_call 64; refine (HH.out _).mono ?_; rintro e w1 ⟨rfl, b1⟩))
        go_ret
        exact ⟨rfl, (Z.out.up b1).2.2⟩
      · go_wp2_with (first | (refine wpList_load_pfxG rfl (.tmp 2) rfl w.heap.size p HF.out rfl Z.out.1 ?_) | (refine wpList_load_arrRG rfl (.tmp 19) rfl (w.heap.size + 1) 1 q.addr HG.out rfl Z.out.2.1.range ?_) | (go_at_call 64; refine (HH.out _).mono ?_; rintro e w1 ⟨rfl, b1⟩))
        go_ret
        exact ⟨rfl, (Z.out.up b1).2.2⟩
    · rw [decide_eq_false hle, Bool.and_false, Bool.false_and] at hcov
      rw [hcov]
      rw [h6] at c1
      clear hcov h6 HH
      generalize q.six = s at *
      generalize p.len = m at *
      generalize q.len = n at *
      go_enter Try.func47, Try.ntmps47
      cases s <;> (go_wp2; go_ret; exact ⟨rfl, Z.out.2.2⟩)
  · rw [beq_eq_false_iff_ne.2 h6, Bool.false_and, Bool.false_and] at hcov
    rw [hcov]
    clear hcov HH
    generalize p.six = s at *
    generalize q.six = u at *
    go_enter Try.func47, Try.ntmps47
    cases s <;> cases u
    · exact absurd rfl h6
    · go_wp2
      go_ret
      exact ⟨rfl, Z.out.2.2⟩
    · go_wp2
      go_ret
      exact ⟨rfl, Z.out.2.2⟩
    · exact absurd rfl h6
end Go.Proofs.Ytgimcapcnidjjaa
namespace Go.Proofs.Ytgimcapcnidjjaa
open Go Go.RowKit

def CommZ (w : World) (p q : Pfx) (W : World) : Prop := PairZ w p q W ∧ PfxT W (w.heap.size + 1 + 1) zeroP
theorem CommZ.up {w : World} {p q : Pfx} {W W' : World} (h : CommZ w p q W) (hb : Below W.heap.size W W') : CommZ w p q W' := ⟨h.1.up hb, h.2.up hb⟩
theorem CommZ.drew {w : World} {p q : Pfx} {W : World} (h : CommZ w p q W) : CommZ w p q W.drew := ⟨h.1.drew, h.2⟩
theorem commZ_new (w : World) (p q : Pfx) : CommZ w p q (((w.alloc (.cells p.cells 25)).alloc (.cells q.cells 25)).alloc (.cells zeroP.cells 25)) := by
  refine ⟨(pairZ_new w p q).al _, ?_⟩
  have := pfxT_new ((w.alloc (.cells p.cells 25)).alloc (.cells q.cells 25)) zeroP
  rw [World.size_alloc, World.size_alloc] at this
  exact this
theorem bitI_nat (a : List UInt8) (n : Nat) (hn : n < 128) : bitI a (n : Int) = if bitL a n = true then 1 else 0 := by
  unfold bitI
  rw [Int.toNat_natCast]
  by_cases h : bitL a n = true
  · rw [if_pos ⟨by omega, by omega, h⟩, if_pos h]
  · rw [if_neg (fun e => h e.2.2), if_neg h]
theorem bitI_eq (a b : List UInt8) (n : Nat) (hn : n < 128) : bitI a (n : Int) = bitI b (n : Int) ↔ bitL a n = bitL b n := by
  rw [bitI_nat a n hn, bitI_nat b n hn]
  cases bitL a n <;> cases bitL b n <;> simp
theorem com_step (p q : Pfx) (n : Nat) (hn : n < 128) (h1 : (n : Int) < p.len) (h2 : (n : Int) < q.len) (hb : bitI p.addr (n : Int) = bitI q.addr (n : Int)) : comF p q (128 - n) n = comF p q (128 - (n + 1)) (n + 1) := by
  rw [show 128 - n = (128 - (n + 1)) + 1 by omega, comF, if_pos ⟨h1, h2, hn, (bitI_eq _ _ n hn).1 hb⟩]
theorem com_stop (p q : Pfx) (n : Nat) (h : ¬ ((n : Int) < p.len ∧ (n : Int) < q.len ∧ n < 128 ∧ bitI p.addr (n : Int) = bitI q.addr (n : Int))) : comF p q (128 - n) n = n := by
  cases hf : 128 - n with
  | zero => rfl
  | succ f =>
    rw [comF, if_neg]
    intro hc
    exact h ⟨hc.1, hc.2.1, hc.2.2.1, (bitI_eq _ _ n hc.2.2.1).2 hc.2.2.2⟩
/-- The common one. -/
def comV (p q : Pfx) : Pfx := if p.six = q.six then ofP p.six p.addr (comP p q) else zeroP
set_option maxRecDepth 100000 in
set_option maxHeartbeats 8000000 in
theorem common_any (p q : Pfx) (w : World) (f : p.addr.length = 16) (g : q.addr.length = 16) :
    Calls Try.prog 77 #[p.val, q.val] w fun r w' => r = .returned (.tuple #[(comV p q).val, .bool (p.six == q.six)]) ∧ Below w.heap.size w w' := by
  have Z := Lib.hid (commZ_new w p q)
  rw [← zeroP_cells] at Z
  have c1 := Z.out.1.1.six
  have c2 := Z.out.1.2.1.six
  have HF := Lib.hid f
  have HG := Lib.hid g
  rw [show p.val = .agg p.cells from rfl, show q.val = .agg q.cells from rfl]
  by_cases h6 : p.six = q.six
  · have e : comV p q = ofP p.six p.addr (comP p q) := by unfold comV; rw [if_pos h6]
    rw [e, beq_iff_eq.2 h6]
    have c3 := Z.out.1.1.len f
    have c4 := Z.out.1.2.1.len g
    have HO := Lib.hid (fun n W => pof_any p.six p.addr n W f)
    have HOL := Lib.hid (of_len p.six p.addr (comP p q))
    have HB1 := Lib.hid (fun n W => bit_any p.addr n W f)
    have HB2 := Lib.hid (fun n W => bit_any q.addr n W g)
    have HC := Lib.hid (show comP p q = comF p q (128 - 0) 0 from rfl)
    have HST := Lib.hid (com_step p q)
    have HSP := Lib.hid (com_stop p q)
    rw [← h6] at c2
    clear e f g h6
    obtain ⟨M, hM, hM2⟩ : ∃ M : Int, M ≤ 128 ∧ (∀ n : Nat, (n : Int) < M ↔ ((n : Int) < p.len ∧ (n : Int) < q.len ∧ n < 128)) ∧ ∀ ts t W, (Builtin.min_ ts t #[.int .i64 p.len, .int .i64 q.len, .int .i64 128]).run Try.prog W = .ok (.int .i64 M) W := by
      refine ⟨min (min p.len q.len) 128, by omega, fun n => by omega, fun ts t W => ?_⟩
      rw [run_min_int3]
      congr 2
      split <;> split <;> omega
    have hmin3 := hM2.2
    have HMM := Lib.hid hM2.1
    clear hM2
    generalize hs : p.six = s at *
    generalize p.len = pl at *
    generalize q.len = ql at *
    generalize hcc : comP p q = cc at *
    go_enter Try.func77, Try.ntmps77
    go_wp2
    go_loopw [7] (fun i wr => ∃ n : Nat, n ≤ 128 ∧ i = .int .i64 (n : Int) ∧ cc = comF p q (128 - n) n ∧ CommZ w p q wr) (fun i _ => 128 - (intOf i).toNat)
    case atStart => exact ⟨0, by omega, rfl, HC.out, Z.out⟩
    case round =>
      obtain ⟨n, hn, rfl, hcom, hz⟩ := hrel
      clear Z
      have H1 := Lib.hid (fun W => HB1.out (n : Int) W)
      have H2 := Lib.hid (fun W => HB2.out (n : Int) W)
      by_cases hlt : (n : Int) < M
      · have hcnd := (HMM.out n).1 hlt
        by_cases hxy : bitI p.addr (n : Int) = bitI q.addr (n : Int)
        · rw [HST.out n hcnd.2.2 hcnd.1 hcnd.2.1 hxy] at hcom
          have HCN := Lib.hid hcom
          have HN := Lib.hid hcnd
          rw [hxy] at H1
          clear hcom hcnd hxy
          generalize bitI q.addr (n : Int) = x at *
          go_wp2_with fail
          refine wp_region_noPanic ?_
          refine wp_region_held_drew (S := CommZ w p q) (by kernel_rfl) hz.drew (fun hHeld => ?_)
          clear hz
          refine held_take (v := ?v438) 0 rfl (by kernel_rfl) (by kernel_rfl) (by kernel_rfl) (fun _ _ _ h => h) (by rfl) ?y438 (by assumption) ?_
          case y438 => (intro w hSw; unfold CommZ at hSw; go_simp; (try with_reducible rfl); (try omega))
          simp only [List.setIfInBounds_toArray, List.set_cons_zero, List.set_cons_succ]
          refine held_take (v := ?v441) 1 rfl (by kernel_rfl) (by kernel_rfl) (by kernel_rfl) (fun _ _ _ h => h) (by rfl) ?y441 (by assumption) ?_
          case y441 => (intro w hSw; unfold CommZ at hSw; go_simp; (try with_reducible rfl); (try omega))
          simp only [List.setIfInBounds_toArray, List.set_cons_zero, List.set_cons_succ]
          refine held_take (v := ?v444) 2 rfl (by kernel_rfl) (by kernel_rfl) (by kernel_rfl) (fun _ _ _ h => h) (by rfl) ?y444 (by assumption) ?_
          case y444 => (intro w hSw; unfold CommZ at hSw; go_simp; (try with_reducible rfl); (try omega))
          simp only [List.setIfInBounds_toArray, List.set_cons_zero, List.set_cons_succ]
          refine held_take (v := ?v447) 3 rfl (by kernel_rfl) (by kernel_rfl) (by kernel_rfl) (fun _ _ _ h => h) (by rfl) ?y447 (by assumption) ?_
          case y447 => (intro w hSw; unfold CommZ at hSw; go_simp; (try with_reducible rfl); (try omega))
          simp only [List.setIfInBounds_toArray, List.set_cons_zero, List.set_cons_succ]
          refine held_take (v := ?v450) 4 rfl (by kernel_rfl) (by kernel_rfl) (by kernel_rfl) (fun _ _ _ h => h) (by rfl) ?y450 (by assumption) ?_
          case y450 => (intro w hSw; unfold CommZ at hSw; go_simp; (try with_reducible rfl); (try omega))
          simp only [List.setIfInBounds_toArray, List.set_cons_zero, List.set_cons_succ]
          refine held_take (v := ?v453) 6 rfl (by kernel_rfl) (by kernel_rfl) (by kernel_rfl) (fun _ _ _ h => h) (by rfl) ?y453 (by assumption) ?_
          case y453 => (intro w hSw; unfold CommZ at hSw; go_simp; (try with_reducible rfl); (try omega))
          simp only [List.setIfInBounds_toArray, List.set_cons_zero, List.set_cons_succ]
          refine held_take (v := ?v456) 8 rfl (by kernel_rfl) (by kernel_rfl) (by kernel_rfl) (fun _ _ _ h => h) (by rfl) ?y456 (by assumption) ?_
          case y456 => (intro w hSw; unfold CommZ at hSw; go_simp; (try with_reducible rfl); (try omega))
          simp only [List.setIfInBounds_toArray, List.set_cons_zero, List.set_cons_succ]
          refine held_take (v := ?v459) 10 rfl (by kernel_rfl) (by kernel_rfl) (by kernel_rfl) (fun _ _ _ h => h) (by rfl) ?y459 (by assumption) ?_
          case y459 => (intro w hSw; unfold CommZ at hSw; go_simp; (try with_reducible rfl); (try omega))
          simp only [List.setIfInBounds_toArray, List.set_cons_zero, List.set_cons_succ]
          refine held_take (v := arrV p.addr) 5 rfl (by kernel_rfl) (by kernel_rfl) (by kernel_rfl) (fun _ _ _ h => h) (by rfl) (fun W hSw => exec_load_adr (.tmp 23) rfl w.heap.size p HF.out rfl hSw.1.1) (by assumption) ?_
          simp only [List.setIfInBounds_toArray, List.set_cons_zero, List.set_cons_succ]
          refine held_take (v := arrV q.addr) 9 rfl (by kernel_rfl) (by kernel_rfl) (by kernel_rfl) (fun _ _ _ h => h) (by rfl) (fun W hSw => exec_load_adr (.tmp 27) rfl (w.heap.size + 1) q HG.out rfl hSw.1.2.1) (by assumption) ?_
          simp only [List.setIfInBounds_toArray, List.set_cons_zero, List.set_cons_succ]
          refine held_one 7 rfl (by kernel_rfl) (by rfl) (fun K hK => ?_)
          go_simp
          refine (H1.out _).mono ?_
          rintro e w1 ⟨rfl, b1⟩
          refine hK.out _ _ (CommZ.up hHeld b1) (fun hHeld => ?_)
          clear hK K
          refine held_one 11 rfl (by kernel_rfl) (by rfl) (fun K hK => ?_)
          go_simp
          refine (H2.out _).mono ?_
          rintro e w2 ⟨rfl, b2⟩
          refine hK.out _ _ (CommZ.up hHeld b2) (fun hHeld => ?_)
          clear hK K
          refine held_take (v := ?v478) 12 rfl (by kernel_rfl) (by kernel_rfl) (by kernel_rfl) (fun _ _ _ h => h) (by rfl) ?y478 (by assumption) ?_
          case y478 => (intro w hSw; unfold CommZ at hSw; go_simp; (try with_reducible rfl); (try omega))
          simp only [List.setIfInBounds_toArray, List.set_cons_zero, List.set_cons_succ]
          refine held_take (v := ?v481) 13 rfl (by kernel_rfl) (by kernel_rfl) (by kernel_rfl) (fun _ _ _ h => h) (by rfl) ?y481 (by assumption) ?_
          case y481 => (intro w hSw; unfold CommZ at hSw; go_simp; (try with_reducible rfl); (try omega))
          simp only [List.setIfInBounds_toArray, List.set_cons_zero, List.set_cons_succ]
          refine wpAnyH_done (by kernel_rfl) ?_ _
          refine NoPanic.normal ?_
          have HZ := Lib.hid hHeld
          clear hHeld
          go_wp2
          go_roundw
          case rel => exact ⟨n + 1, by have := HN.out.2.2; omega, by go_num, HCN.out, HZ.out⟩
          case measure => simp [intOf]; have := HN.out.2.2; omega
        · rw [HSP.out n (fun h => hxy h.2.2.2)] at hcom
          have HCN := Lib.hid hcom
          clear hcnd
          generalize bitI p.addr (n : Int) = y at *
          generalize bitI q.addr (n : Int) = x at *
          go_wp2_with fail
          refine wp_region_noPanic ?_
          refine wp_region_held_drew (S := CommZ w p q) (by kernel_rfl) hz.drew (fun hHeld => ?_)
          clear hz
          refine held_take (v := ?v501) 0 rfl (by kernel_rfl) (by kernel_rfl) (by kernel_rfl) (fun _ _ _ h => h) (by rfl) ?y501 (by assumption) ?_
          case y501 => (intro w hSw; unfold CommZ at hSw; go_simp; (try with_reducible rfl); (try omega))
          simp only [List.setIfInBounds_toArray, List.set_cons_zero, List.set_cons_succ]
          refine held_take (v := ?v504) 1 rfl (by kernel_rfl) (by kernel_rfl) (by kernel_rfl) (fun _ _ _ h => h) (by rfl) ?y504 (by assumption) ?_
          case y504 => (intro w hSw; unfold CommZ at hSw; go_simp; (try with_reducible rfl); (try omega))
          simp only [List.setIfInBounds_toArray, List.set_cons_zero, List.set_cons_succ]
          refine held_take (v := ?v507) 2 rfl (by kernel_rfl) (by kernel_rfl) (by kernel_rfl) (fun _ _ _ h => h) (by rfl) ?y507 (by assumption) ?_
          case y507 => (intro w hSw; unfold CommZ at hSw; go_simp; (try with_reducible rfl); (try omega))
          simp only [List.setIfInBounds_toArray, List.set_cons_zero, List.set_cons_succ]
          refine held_take (v := ?v510) 3 rfl (by kernel_rfl) (by kernel_rfl) (by kernel_rfl) (fun _ _ _ h => h) (by rfl) ?y510 (by assumption) ?_
          case y510 => (intro w hSw; unfold CommZ at hSw; go_simp; (try with_reducible rfl); (try omega))
          simp only [List.setIfInBounds_toArray, List.set_cons_zero, List.set_cons_succ]
          refine held_take (v := ?v513) 4 rfl (by kernel_rfl) (by kernel_rfl) (by kernel_rfl) (fun _ _ _ h => h) (by rfl) ?y513 (by assumption) ?_
          case y513 => (intro w hSw; unfold CommZ at hSw; go_simp; (try with_reducible rfl); (try omega))
          simp only [List.setIfInBounds_toArray, List.set_cons_zero, List.set_cons_succ]
          refine held_take (v := ?v516) 6 rfl (by kernel_rfl) (by kernel_rfl) (by kernel_rfl) (fun _ _ _ h => h) (by rfl) ?y516 (by assumption) ?_
          case y516 => (intro w hSw; unfold CommZ at hSw; go_simp; (try with_reducible rfl); (try omega))
          simp only [List.setIfInBounds_toArray, List.set_cons_zero, List.set_cons_succ]
          refine held_take (v := ?v519) 8 rfl (by kernel_rfl) (by kernel_rfl) (by kernel_rfl) (fun _ _ _ h => h) (by rfl) ?y519 (by assumption) ?_
          case y519 => (intro w hSw; unfold CommZ at hSw; go_simp; (try with_reducible rfl); (try omega))
          simp only [List.setIfInBounds_toArray, List.set_cons_zero, List.set_cons_succ]
          refine held_take (v := ?v522) 10 rfl (by kernel_rfl) (by kernel_rfl) (by kernel_rfl) (fun _ _ _ h => h) (by rfl) ?y522 (by assumption) ?_
          case y522 => (intro w hSw; unfold CommZ at hSw; go_simp; (try with_reducible rfl); (try omega))
          simp only [List.setIfInBounds_toArray, List.set_cons_zero, List.set_cons_succ]
          refine held_take (v := arrV p.addr) 5 rfl (by kernel_rfl) (by kernel_rfl) (by kernel_rfl) (fun _ _ _ h => h) (by rfl) (fun W hSw => exec_load_adr (.tmp 23) rfl w.heap.size p HF.out rfl hSw.1.1) (by assumption) ?_
          simp only [List.setIfInBounds_toArray, List.set_cons_zero, List.set_cons_succ]
          refine held_take (v := arrV q.addr) 9 rfl (by kernel_rfl) (by kernel_rfl) (by kernel_rfl) (fun _ _ _ h => h) (by rfl) (fun W hSw => exec_load_adr (.tmp 27) rfl (w.heap.size + 1) q HG.out rfl hSw.1.2.1) (by assumption) ?_
          simp only [List.setIfInBounds_toArray, List.set_cons_zero, List.set_cons_succ]
          refine held_one 7 rfl (by kernel_rfl) (by rfl) (fun K hK => ?_)
          go_simp
          refine (H1.out _).mono ?_
          rintro e w1 ⟨rfl, b1⟩
          refine hK.out _ _ (CommZ.up hHeld b1) (fun hHeld => ?_)
          clear hK K
          refine held_one 11 rfl (by kernel_rfl) (by rfl) (fun K hK => ?_)
          go_simp
          refine (H2.out _).mono ?_
          rintro e w2 ⟨rfl, b2⟩
          refine hK.out _ _ (CommZ.up hHeld b2) (fun hHeld => ?_)
          clear hK K
          refine held_take (v := ?v541) 12 rfl (by kernel_rfl) (by kernel_rfl) (by kernel_rfl) (fun _ _ _ h => h) (by rfl) ?y541 (by assumption) ?_
          case y541 => (intro w hSw; unfold CommZ at hSw; go_simp; (try with_reducible rfl); (try omega))
          simp only [List.setIfInBounds_toArray, List.set_cons_zero, List.set_cons_succ]
          refine held_take (v := ?v544) 13 rfl (by kernel_rfl) (by kernel_rfl) (by kernel_rfl) (fun _ _ _ h => h) (by rfl) ?y544 (by assumption) ?_
          case y544 => (intro w hSw; unfold CommZ at hSw; go_simp; (try with_reducible rfl); (try omega))
          simp only [List.setIfInBounds_toArray, List.set_cons_zero, List.set_cons_succ]
          refine wpAnyH_done (by kernel_rfl) ?_ _
          refine NoPanic.normal ?_
          have HZ := Lib.hid hHeld
          clear hHeld
          have hs0 := HZ.out.1.1.six
          rw [hs] at hs0
          have HOn := Lib.hid (fun W => HO.out (n : Int) W)
          clear hcom
          go_wp2_with (first | (refine wpList_load_arrR rfl (.tmp 37) rfl w.heap.size 1 p.addr HF.out rfl HZ.out.1.1.range ?_) | (go_at_call 59; refine (HOn.out _).mono ?_; rintro e w3 ⟨rfl, b3⟩; refine Hid.out ?_))
          refine Lib.hid ?_
          have Z3 := Lib.hid (HZ.out.up b3)
          clear HZ b3 hs0
          go_wp2_with (refine wpList_store_pfx rfl (.tmp 4) (.tmp 40) rfl (w.heap.size + 1 + 1) (ofP s p.addr (n : Int)) (of_len _ _ _) _ rfl rfl Z3.out.2 rfl ?_)
          exact bodyPost_ret (results_pfx2 Try.results77 _ _ (w.heap.size + 1 + 1) (ofP s p.addr (n : Int)) (of_len _ _ _) rfl (pfxT_setRow Z3.out.2 _)) rfl ⟨by rw [HCN.out]; rfl, below_setRow Z3.out.1.2.2 (by omega) _⟩
      · have hcnd := fun h => hlt ((HMM.out n).2 h)
        rw [HSP.out n (fun h => hcnd ⟨h.1, h.2.1, h.2.2.1⟩)] at hcom
        have HCN := Lib.hid hcom
        have hlt2 : M ≤ (n : Int) := by omega
        clear hcnd hlt
        go_wp2_with fail
        refine wp_region_noPanic ?_
        refine wp_region_held_drew (S := CommZ w p q) (by kernel_rfl) hz.drew (fun hHeld => ?_)
        clear hz
        refine held_take (v := ?v570) 0 rfl (by kernel_rfl) (by kernel_rfl) (by kernel_rfl) (fun _ _ _ h => h) (by rfl) ?y570 (by assumption) ?_
        case y570 => (intro w hSw; unfold CommZ at hSw; go_simp; (try with_reducible rfl); (try omega))
        simp only [List.setIfInBounds_toArray, List.set_cons_zero, List.set_cons_succ]
        refine held_take (v := ?v573) 1 rfl (by kernel_rfl) (by kernel_rfl) (by kernel_rfl) (fun _ _ _ h => h) (by rfl) ?y573 (by assumption) ?_
        case y573 => (intro w hSw; unfold CommZ at hSw; go_simp; (try with_reducible rfl); (try omega))
        simp only [List.setIfInBounds_toArray, List.set_cons_zero, List.set_cons_succ]
        refine held_take (v := ?v576) 2 rfl (by kernel_rfl) (by kernel_rfl) (by kernel_rfl) (fun _ _ _ h => h) (by rfl) ?y576 (by assumption) ?_
        case y576 => (intro w hSw; unfold CommZ at hSw; go_simp; (try with_reducible rfl); (try omega))
        simp only [List.setIfInBounds_toArray, List.set_cons_zero, List.set_cons_succ]
        rw [decide_eq_false (show ¬ (n : Int) < M by omega)]
        refine held_take (v := ?v580) 3 rfl (by kernel_rfl) (by kernel_rfl) (by kernel_rfl) (fun _ _ _ h => h) (by rfl) ?y580 (by assumption) ?_
        case y580 => (intro w hSw; unfold CommZ at hSw; go_simp; (try with_reducible rfl); (try omega))
        simp only [List.setIfInBounds_toArray, List.set_cons_zero, List.set_cons_succ]
        refine held_skip 4 rfl (by kernel_rfl) (by kernel_rfl) (by kernel_rfl) (fun _ _ _ h => h) (by rfl) (by assumption) ?_
        simp only [List.setIfInBounds_toArray, List.set_cons_zero, List.set_cons_succ]
        refine held_skip 5 rfl (by kernel_rfl) (by kernel_rfl) (by kernel_rfl) (fun _ _ _ h => h) (by rfl) (by assumption) ?_
        simp only [List.setIfInBounds_toArray, List.set_cons_zero, List.set_cons_succ]
        refine held_skip 6 rfl (by kernel_rfl) (by kernel_rfl) (by kernel_rfl) (fun _ _ _ h => h) (by rfl) (by assumption) ?_
        simp only [List.setIfInBounds_toArray, List.set_cons_zero, List.set_cons_succ]
        refine held_skip 7 rfl (by kernel_rfl) (by kernel_rfl) (by kernel_rfl) (fun _ _ _ h => h) (by rfl) (by assumption) ?_
        simp only [List.setIfInBounds_toArray, List.set_cons_zero, List.set_cons_succ]
        refine held_skip 8 rfl (by kernel_rfl) (by kernel_rfl) (by kernel_rfl) (fun _ _ _ h => h) (by rfl) (by assumption) ?_
        simp only [List.setIfInBounds_toArray, List.set_cons_zero, List.set_cons_succ]
        refine held_skip 9 rfl (by kernel_rfl) (by kernel_rfl) (by kernel_rfl) (fun _ _ _ h => h) (by rfl) (by assumption) ?_
        simp only [List.setIfInBounds_toArray, List.set_cons_zero, List.set_cons_succ]
        refine held_skip 10 rfl (by kernel_rfl) (by kernel_rfl) (by kernel_rfl) (fun _ _ _ h => h) (by rfl) (by assumption) ?_
        simp only [List.setIfInBounds_toArray, List.set_cons_zero, List.set_cons_succ]
        refine held_skip 11 rfl (by kernel_rfl) (by kernel_rfl) (by kernel_rfl) (fun _ _ _ h => h) (by rfl) (by assumption) ?_
        simp only [List.setIfInBounds_toArray, List.set_cons_zero, List.set_cons_succ]
        refine held_skip 12 rfl (by kernel_rfl) (by kernel_rfl) (by kernel_rfl) (fun _ _ _ h => h) (by rfl) (by assumption) ?_
        simp only [List.setIfInBounds_toArray, List.set_cons_zero, List.set_cons_succ]
        refine held_take (v := ?v601) 13 rfl (by kernel_rfl) (by kernel_rfl) (by kernel_rfl) (fun _ _ _ h => h) (by rfl) ?y601 (by assumption) ?_
        case y601 => (intro w hSw; unfold CommZ at hSw; go_simp; (try with_reducible rfl); (try omega))
        simp only [List.setIfInBounds_toArray, List.set_cons_zero, List.set_cons_succ]
        refine wpAnyH_done (by kernel_rfl) ?_ _
        refine NoPanic.normal ?_
        have HZ := Lib.hid hHeld
        clear hHeld
        have hs0 := HZ.out.1.1.six
        rw [hs] at hs0
        have HOn := Lib.hid (fun W => HO.out (n : Int) W)
        clear hcom
        go_wp2_with (first | (refine wpList_load_arrR rfl (.tmp 37) rfl w.heap.size 1 p.addr HF.out rfl HZ.out.1.1.range ?_) | (go_at_call 59; refine (HOn.out _).mono ?_; rintro e w3 ⟨rfl, b3⟩; refine Hid.out ?_))
        refine Lib.hid ?_
        have Z3 := Lib.hid (HZ.out.up b3)
        clear HZ b3 hs0
        go_wp2_with (refine wpList_store_pfx rfl (.tmp 4) (.tmp 40) rfl (w.heap.size + 1 + 1) (ofP s p.addr (n : Int)) (of_len _ _ _) _ rfl rfl Z3.out.2 rfl ?_)
        exact bodyPost_ret (results_pfx2 Try.results77 _ _ (w.heap.size + 1 + 1) (ofP s p.addr (n : Int)) (of_len _ _ _) rfl (pfxT_setRow Z3.out.2 _)) rfl ⟨by rw [HCN.out]; rfl, below_setRow Z3.out.1.2.2 (by omega) _⟩
  · have e : comV p q = zeroP := by unfold comV; rw [if_neg h6]
    rw [e, beq_eq_false_iff_ne.2 h6]
    clear e f g
    generalize p.six = s at *
    generalize q.six = u at *
    go_enter Try.func77, Try.ntmps77
    cases s <;> cases u
    · exact absurd rfl h6
    · go_wp2_with (first | (refine wpList_build_pfx0 rfl rfl ?_) | (refine wpList_store_pfx rfl (.tmp 4) (.tmp 13) rfl (w.heap.size + 1 + 1) zeroP rfl _ rfl rfl Z.out.2 rfl ?_))
      exact bodyPost_ret (results_pfx2 Try.results77 _ _ (w.heap.size + 1 + 1) zeroP rfl rfl (pfxT_setRow Z.out.2 _)) rfl ⟨rfl, below_setRow Z.out.1.2.2 (by omega) _⟩
    · go_wp2_with (first | (refine wpList_build_pfx0 rfl rfl ?_) | (refine wpList_store_pfx rfl (.tmp 4) (.tmp 13) rfl (w.heap.size + 1 + 1) zeroP rfl _ rfl rfl Z.out.2 rfl ?_))
      exact bodyPost_ret (results_pfx2 Try.results77 _ _ (w.heap.size + 1 + 1) zeroP rfl rfl (pfxT_setRow Z.out.2 _)) rfl ⟨rfl, below_setRow Z.out.1.2.2 (by omega) _⟩
    · exact absurd rfl h6
theorem run_bytes {w : World} (b k c : Nat) (l : List UInt8) (h : w.rangeAt b k (byteVals l)) : (Extern.Bytes.bytesOf (.slice (some ⟨b, k, none⟩) l.length c)).run Try.prog w = .ok ⟨l.toArray⟩ w := by
  have hl := Lib.run_loadBytesX (P := Try.prog) w (l.map fun x => (x.toNat : Int)) ⟨b, k, none⟩ .empty (fun j x hj => by
    have e : (⟨b, k, none⟩ : Addr).add j = ⟨b, k + j, none⟩ := by unfold Addr.add; split <;> simp_all
    rw [e]
    refine h j _ ?_
    rw [List.getElem?_map] at hj
    unfold byteVals
    rw [List.getElem?_map]
    cases hx : l[j]? with
    | none => rw [hx] at hj; cases hj
    | some y => rw [hx] at hj; cases hj; rfl)
  rw [List.length_map] at hl
  have e : Lib.bytesOf (l.map fun x => (x.toNat : Int)) = l := by
    unfold Lib.bytesOf
    rw [List.map_map]
    conv => rhs; rw [← List.map_id l]
    apply List.map_congr_left
    intro x _
    simp
  rw [e] at hl
  simp only [Extern.Bytes.bytesOf]
  rw [hl]
  congr 1
  apply ByteArray.ext
  show (#[] : Array UInt8) ++ l.toArray = l.toArray
  simp
theorem run_cmp {w : World} (b1 k1 c1 b2 k2 c2 : Nat) (l m : List UInt8) (h1 : w.rangeAt b1 k1 (byteVals l)) (h2 : w.rangeAt b2 k2 (byteVals m)) :
    (Extern.BytealgCompare.compare #[.slice (some ⟨b1, k1, none⟩) l.length c1, .slice (some ⟨b2, k2, none⟩) m.length c2]).run Try.prog w = .ok (.int .i64 (Lib.compareBytes l m)) w := by
  change Sem.run Try.prog (do pure (goInt (Extern.BytealgCompare.cmp (← Extern.Bytes.bytesOf (.slice (some ⟨b1, k1, none⟩) l.length c1)) (← Extern.Bytes.bytesOf (.slice (some ⟨b2, k2, none⟩) m.length c2))))) w = _
  simp only [Sem.run_bind, Sem.run_pure, Result.andThen, run_bytes b1 k1 c1 l h1, run_bytes b2 k2 c2 m h2]
  rw [Lib.cmp_eq]
  rfl
/-- Bytes compared. -/
theorem cmpB_eq : ∀ (l m : List UInt8), l.length = m.length → Lib.compareBytes l m = cmpB l m
  | [], [], _ => rfl
  | [], _ :: _, h => by simp at h
  | _ :: _, [], h => by simp at h
  | x :: l, y :: m, h => by
    have ih := cmpB_eq l m (by simpa using h)
    unfold Lib.compareBytes cmpB
    rw [ih]
    simp only [UInt8.lt_iff_toNat_lt]
def cmpI (m n : Int) : Int := if m < n then -1 else if n < m then 1 else 0
theorem wpList_neq_arrB8 {ops : Array Oper} {rest : List Oper} {o : Oper} {a : Act} {w : World} {Q : Exit → Act → World → Prop} {t : TypeId} {n : Nat} (hgd : o.guard = none) (ht : IsArr t n) (x y : Operand) (ty : TypeId) (ho : o.op = .binOp .neq t x y ty) (l m : List UInt8) (hl : l.length = n) (hm : m.length = n) (b : Bool) (hb : (!decide (l = m)) = b) (hx : a.eval x = arrV l) (hy : a.eval y = arrV m)
    (hR : wpList Try.prog ops Q rest (a.put o.dst (.bool b)) w) : wpList Try.prog ops Q (o :: rest) a w := by
  subst hb
  exact wpList_plain hgd fun K hK => by
    have h := eq_arrV ht 9998 l m hl hm w
    have hg := ht.guard
    have : (do eqGuard .neq t x y (arrV l) (arrV m); binOp .neq t (arrV l) (arrV m) : Sem Value).run Try.prog w = .ok (.bool (!decide (l = m))) w := by
      unfold arrV at *
      go_simp
    unfold Oper.wp execOp
    simp only [ho, hx, hy, Sem.run_bind] at this ⊢
    rw [this]
    exact hK _ _ hR
end Go.Proofs.Ytgimcapcnidjjaa
