/- Package slots: all places, from a first one on and round. -/
import Derived.Test.YtoliijajhikhgaaSl1
namespace Go.Proofs.Ytoliijajhikhgaa
open Go Go.RowKit Go.Shelf
attribute [local go_sem] Oper.semAt_some

def placesF (N : Nat) (hN : 0 < N) (f : Nat) : List (Fin N) := (List.range N).map fun i => ⟨(f + i) % N, Nat.mod_lt _ hN⟩
theorem placesF_len (N : Nat) (hN : 0 < N) (f : Nat) : (placesF N hN f).length = N := by simp [placesF]
theorem placesF_get {N : Nat} {hN : 0 < N} {f i : Nat} (hi : i < N) : (placesF N hN f)[i]? = some ⟨(f + i) % N, Nat.mod_lt _ hN⟩ := by
  unfold placesF
  rw [List.getElem?_map, List.getElem?_range hi]
  rfl
theorem placesF_take {N : Nat} {hN : 0 < N} {f i : Nat} (hi : i < N) : (placesF N hN f).take (i + 1) = (placesF N hN f).take i ++ [⟨(f + i) % N, Nat.mod_lt _ hN⟩] := by
  rw [List.take_add_one, placesF_get hi]
  rfl
theorem mod_wrp {N x : Nat} (hx : x < N + N) : x % N = wrp N x := by
  unfold wrp
  split
  · exact Nat.mod_eq_of_lt (by assumption)
  · rw [Nat.mod_eq_sub_mod (by omega)]
    exact Nat.mod_eq_of_lt (by omega)
/-- the boxes that the places are told from -/
structure PlZ (Bt Bf pt g wd N : Nat) (room cnt : Int) (f : Nat) (W : World) : Prop where
  t : Bx W Bt 24 [.pointer (some ⟨pt, 0, none⟩)]
  f : Bx W Bf 3 [.int .i64 (f : Int)]
  p : Bx W pt 56 (tbR room cnt wd g N)
section
variable {Bt Bf pt g wd N : Nat} {room cnt : Int} {f : Nat} {W W' : World}
theorem PlZ.up (h : PlZ Bt Bf pt g wd N room cnt f W) (hb : Below W.heap.size W W') : PlZ Bt Bf pt g wd N room cnt f W' := ⟨h.t.up hb, h.f.up hb, h.p.up hb⟩
theorem PlZ.kp {O : Nat → Prop} (h : PlZ Bt Bf pt g wd N room cnt f W) (hk : KpW O W W') (h1 : ¬ O Bt) (h2 : ¬ O Bf) (h3 : ¬ O pt) : PlZ Bt Bf pt g wd N room cnt f W' := ⟨h.t.kpw hk h1, h.f.kpw hk h2, h.p.kpw hk h3⟩
end
set_option maxRecDepth 100000 in
set_option maxHeartbeats 4000000 in
theorem places1_in (n l Bt Bf pt g wd N : Nat) (room cnt : Int) (f : Nat) (O : Nat → Prop) (hN : N = 2 ^ wd) (hw : wd ≤ 17) (hp : 0 < N) (hf : f ≤ N) (J Jx : List (Fin N) → World → Prop)
    (hY : ∀ pre x W, J pre W → pre.length < N → YieldAt Fence.wide (n - 1) Try.prog l #[.int .i64 (x.val : Int)] W fun e W' =>
      (e = .returned (.bool true) ∧ J (pre ++ [x]) W' ∧ KpW O W W') ∨ (e = .returned (.bool false) ∧ Jx (pre ++ [x]) W'))
    (W : World) (hZ : PlZ Bt Bf pt g wd N room cnt f W) (h1 : ¬ O Bt) (h2 : ¬ O Bf) (h3 : ¬ O pt) (h0 : J [] W) :
    CallsIn Fence.wide n Try.prog 32 #[.func (.yield l) #[] #[], .pointer (some ⟨Bt, 0, none⟩), .pointer (some ⟨Bf, 0, none⟩)] W fun e W' => (∃ v, e = .returned v) ∧
      ((∃ ys, ys = placesF N hp f ∧ J ys W') ∨ (∃ pre, pre <+: placesF N hp f ∧ Jx pre W')) := by
  have c0 : W.cell? ⟨Bt, 0, none⟩ = some (.pointer (some ⟨pt, 0, none⟩)) := by rw [hZ.t.cell]; rfl
  have c3 : W.cell? ⟨pt, 3, none⟩ = some (.slice (some ⟨g, 0, none⟩) N N) := by rw [hZ.p.cell]; rfl
  have HZ := Lib.hid hZ
  have HN := Lib.hid hN
  have hNle : N ≤ 131072 := by rw [hN]; exact Nat.pow_le_pow_right (show 0 < 2 by decide) hw
  clear hZ hN
  refine callsIn_of_wp Try.func32 rfl trivial ?_ rfl
  simp only [Try.ntmps32, List.size_toArray, List.length_cons, List.length_nil, Nat.reduceAdd, Nat.reduceSub, Array.replicate_succ, Array.replicate_zero, List.push_toArray, List.append_toArray, List.nil_append, List.cons_append]
  gi_wp2
  gi_loopw [10] (fun r wr => ∃ (i : Nat), r = .int .i64 (i : Int) ∧ i ≤ N ∧ Hid (J ((placesF N hp f).take i) wr) ∧ Hid (PlZ Bt Bf pt g wd N room cnt f wr)) (fun r _ => N - intOf9 r)
  case atStart => exact ⟨0, rfl, Nat.zero_le _, Lib.hid (by rw [List.take_zero]; exact h0), HZ⟩
  case round =>
    obtain ⟨i, rfl, hi, HJS, HZR⟩ := hrel
    clear c0 c3
    by_cases hlt : i < N
    · have hlti : (i : Int) < (N : Int) := by omega
      have c0 : wr.cell? ⟨Bt, 0, none⟩ = some (.pointer (some ⟨pt, 0, none⟩)) := by rw [HZR.out.t.cell]; rfl
      have c1 : wr.cell? ⟨Bf, 0, none⟩ = some (.int .i64 (f : Int)) := by rw [HZR.out.f.cell]; rfl
      obtain ⟨z, hz⟩ : ∃ z : Int, z = ((f + i : Nat) : Int) := ⟨_, rfl⟩
      have k1 : IntKind.i64.wrap ((f : Int) + (i : Int)) = z := by rw [hz]; simp [IntKind.wrap, IntKind.bits, IntKind.signed]; omega
      obtain ⟨x, hx⟩ : ∃ x : Fin N, x = ⟨(f + i) % N, Nat.mod_lt _ hp⟩ := ⟨_, rfl⟩
      have hzx : z % (N : Int) = (x.val : Int) := by rw [hz, hx]; exact (Int.natCast_emod _ _).symm
      have htk : (placesF N hp f).take (i + 1) = (placesF N hp f).take i ++ [x] := by rw [placesF_take hlt, hx]
      have hct := turn_any z wr HZR.out.p HN.out hw
      rw [hzx] at hct
      have HCT := Lib.hid hct
      have HTK := Lib.hid htk
      have HPL := Lib.hid (show ((placesF N hp f).take i).length < N by rw [List.length_take, placesF_len]; omega)
      clear hz hzx hx htk hct
      gi_wp2_with (refine ⟨trivial, fun h => (by cases h), ?_⟩; refine (callsIn_wide.2 HCT.out).mono ?_; rintro e w4 ⟨rfl, rfl⟩; refine Hid.out ?_)
      refine Lib.hid ?_
      obtain ⟨fn, tmps, assign, body, hy, hR2⟩ := hY ((placesF N hp f).take i) x wr HJS.out HPL.out
      (try dsimp only at hy)
      clear c0 c1 k1
      gi_wp2
      refine ⟨fun h => (by cases h), hR2.mono ?_⟩
      clear hR2 hy
      rintro e W3 (⟨rfl, hJ3, hk3⟩ | ⟨rfl, hJx3⟩)
      · have HZ3 := Lib.hid (HZR.out.kp hk3 h1 h2 h3)
        have HJ3 := Lib.hid (show J ((placesF N hp f).take (i + 1)) W3 by rw [HTK.out]; exact hJ3)
        clear hJ3 hk3
        gi_wp2
        go_roundw
        case rel => exact ⟨i + 1, rfl, hlt, HJ3, HZ3⟩
        case measure => simp only [intOf9]; omega
      · have HJX := Lib.hid (show Jx ((placesF N hp f).take (i + 1)) W3 by rw [HTK.out]; exact hJx3)
        clear hJx3
        gi_wp2
        refine bodyPost_ret (results_none rfl _ _ _) rfl ?_
        exact ⟨⟨_, rfl⟩, .inr ⟨_, List.take_prefix _ _, HJX.out⟩⟩
    · obtain hie : N ≤ i := by omega
      have hlti : ¬ (i : Int) < (N : Int) := by omega
      have HJE := Lib.hid (show J (placesF N hp f) wr by
        have h9 := HJS.out
        rw [List.take_of_length_le (by rw [placesF_len]; exact hie)] at h9
        exact h9)
      gi_wp2
      go_end0
      exact ⟨⟨_, rfl⟩, .inl HJE.out⟩
theorem places_stops (n Bt Bf pt g wd N : Nat) (room cnt : Int) (f : Nat) (O : Nat → Prop) (hN : N = 2 ^ wd) (hw : wd ≤ 17) (hp : 0 < N) (hf : f ≤ N) (w : World) (hZ : PlZ Bt Bf pt g wd N room cnt f w) (h1 : ¬ O Bt) (h2 : ¬ O Bf) (h3 : ¬ O pt) :
    SeqStopsK Fence.wide n Try.prog 32 #[.pointer (some ⟨Bt, 0, none⟩), .pointer (some ⟨Bf, 0, none⟩)] (fun x : Fin N => #[.int .i64 (x.val : Int)]) (KpW O) (fun ys => ys = placesF N hp f) (fun pre => pre <+: placesF N hp f) N w :=
  fun l J Jx W hW _ _ hY h0 => places1_in n l Bt Bf pt g wd N room cnt f O hN hw hp hf J Jx hY W (hZ.up hW) h1 h2 h3 h0
end Go.Proofs.Ytoliijajhikhgaa
