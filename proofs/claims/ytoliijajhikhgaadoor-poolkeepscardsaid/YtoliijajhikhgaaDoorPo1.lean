/- Package pool: a pool in memory; New, Len, at, check, Uses. -/
import Derived.Test.YtoliijajhikhgaaDoorOwnG
import Derived.Test.YtoliijajhikhgaaDoorRegX
import Derived.Test.YtoliijajhikhgaaDoorM14
import Derived.Shelf.Spec.TrailingZeros
namespace Go.Proofs.YtoliijajhikhgaaDoor
open Go Go.RowKit Go.Shelf
attribute [local go_sem] Oper.semAt_some

/-- A thing's cells: what it is, how often it is used. -/
def thR (x : Value × Int) : List Value := [x.1, .int .i64 x.2]
def kR (k : Nat) : List Value := [.int .u64 (k : Int)]
theorem thR_all (l : List (Value × Int)) : ∀ x ∈ l, (thR x).length = 2 := fun _ _ => rfl
theorem kR_all (l : List Nat) : ∀ x ∈ l, (kR x).length = 1 := fun _ _ => rfl
theorem th_info : (Tryd.prog.info? 74).map (·.size) = some 2 := by kernel_rfl
theorem th_infoF : (Tryd.prog.info? 74).map (fun i => (i.zero, i.size, i.bytes)) = some (some (.agg (thR (.nilIface, 0)).toArray), 2, 24) := by kernel_rfl
theorem thR_one {x : Value × Int} (h : x.1.oneCell' = true) : ∀ v ∈ thR x, v.oneCell' = true := by
  intro v hv
  simp only [thR, List.mem_cons, List.not_mem_nil, or_false] at hv
  rcases hv with rfl | rfl
  · exact h
  · rfl
def usT (T : List (Value × Int)) : List Int := T.map (·.2)
theorem usT_len (T : List (Value × Int)) : (usT T).length = T.length := List.length_map _
theorem usT_at {T : List (Value × Int)} {i : Nat} {x : Value × Int} (h : T[i]? = some x) : usN (usT T) i = x.2 := usN_of (by unfold usT; rw [List.getElem?_map, h]; rfl)
theorem usT_set (T : List (Value × Int)) (i : Nat) (x : Value × Int) : usT (T.set i x) = (usT T).set i x.2 := List.map_set
/-- the thing that has a number -/
def atT (T : List (Value × Int)) (id : Int) : Value × Int := if 0 ≤ id ∧ id < T.length then T.getD id.toNat (.nilIface, 0) else (.nilIface, 0)
theorem atT_of {T : List (Value × Int)} {i : Nat} {x : Value × Int} (h : T[i]? = some x) : atT T (i : Int) = x := by
  have hl := (List.getElem?_eq_some_iff.1 h).1
  unfold atT
  rw [if_pos (by omega), Int.toNat_natCast, List.getD_eq_getElem?_getD, h]
  rfl
theorem atT_out {T : List (Value × Int)} {id : Int} (h : ¬ (0 ≤ id ∧ id < T.length)) : atT T id = (.nilIface, 0) := if_neg h
theorem atT_us (T : List (Value × Int)) (id : Int) : (atT T id).2 = useAt (usT T) id := by
  unfold atT useAt
  rw [usT_len]
  split
  · rename_i h
    rw [List.getD_eq_getElem?_getD]
    unfold usN usT
    rw [List.getD_eq_getElem?_getD, List.getElem?_map]
    cases T[id.toNat]? <;> rfl
  · rfl
/-- The table of package bits, that lies ahead of all. -/
def TzE (W : World) (base : Nat) : Prop := 0 < base ∧ base ≤ W.heap.size ∧ TabAt 0 Lib.deBruijn64tab W
theorem TzE.kp {O : Nat → Prop} {W W' : World} {base : Nat} (h : TzE W base) (hk : KpO O W W') (hO : ∀ k, O k → base ≤ k) : TzE W' base :=
  ⟨h.1, Nat.le_trans h.2.1 hk.size, fun j hj => (World.cell?_of_block (a := ⟨0, j, none⟩) (hk.all 0 (fun e => Nat.not_le_of_lt h.1 (hO _ e)) (Nat.lt_of_lt_of_le h.1 h.2.1))).trans (h.2.2 j hj)⟩
theorem TzE.up {W W' : World} {base : Nat} (h : TzE W base) (hb : Below W.heap.size W W') : TzE W' base := h.kp (O := fun _ => False) (KpO.below hb) (fun _ e => e.elim)
/-- A pool in memory. -/
structure PoolM (W : World) (base pt : Nat) (room : Int) (T : List (Value × Int)) (vt vk : Value) (ks : List Nat) : Prop where
  bx : Bx W pt 64 [.int .i64 room, .int .i64 (cntU (usT T)), vt, vk]
  kt : W.ownsRow base 74 2 vt T.length (T.flatMap thR)
  kk : W.ownsRow base 79 1 vk ks.length (ks.flatMap kR)
  hb : base ≤ pt
  tk : Taken (usT T) ks
  ca : ∀ x ∈ T, x.1.oneCell' = true
  tz : TzE W base
/-- how many things, and how often each is used, at most -/
def BdT (T : List (Value × Int)) (n : Nat) : Prop := T.length ≤ n ∧ ∀ x ∈ T, 0 ≤ x.2 ∧ x.2 ≤ (n : Int)
section
variable {W W' : World} {base pt : Nat} {room : Int} {T : List (Value × Int)} {vt vk : Value} {ks : List Nat}
theorem PoolM.up (h : PoolM W base pt room T vt vk ks) (hb : Below W.heap.size W W') : PoolM W' base pt room T vt vk ks := ⟨h.bx.up hb, own_below h.kt hb, own_below h.kk hb, h.hb, h.tk, h.ca, h.tz.up hb⟩
/-- the blocks of a pool -/
def OwnP (pt : Nat) (vt vk : Value) (k : Nat) : Prop := k = pt ∨ vt.ownBlock = some k ∨ vk.ownBlock = some k
theorem PoolM.low (h : PoolM W base pt room T vt vk ks) : ∀ k, OwnP pt vt vk k → base ≤ k := fun k hk => by
  rcases hk with rfl | hk | hk
  · exact h.hb
  · exact (h.kt.lt k hk).1
  · exact (h.kk.lt k hk).1
theorem PoolM.kp {O : Nat → Prop} (h : PoolM W base pt room T vt vk ks) (hk : KpO O W W') (h1 : ∀ k, OwnP pt vt vk k → ¬ O k) (h2 : ¬ O 0) : PoolM W' base pt room T vt vk ks := ⟨h.bx.kp hk (h1 _ (.inl rfl)), own_kp h.kt hk (fun k e => h1 k (.inr (.inl e))), own_kp h.kk hk (fun k e => h1 k (.inr (.inr e))), h.hb, h.tk, h.ca,
  ⟨h.tz.1, Nat.le_trans h.tz.2.1 hk.size, fun j hj => (World.cell?_of_block (a := ⟨0, j, none⟩) (hk.all 0 h2 (Nat.lt_of_lt_of_le h.tz.1 h.tz.2.1))).trans (h.tz.2.2 j hj)⟩⟩
theorem own_type14 (h : PoolM W base pt room T vt vk ks) : ∀ k, OwnP pt vt vk k → ∃ cur t, W.heap[k]? = some (.cells cur t (0, 0)) ∧ (t = 64 ∨ t = 74 ∨ t = 79) := fun k hk => by
  rcases hk with rfl | hk | hk
  · exact ⟨_, _, h.bx, .inl rfl⟩
  · obtain ⟨cur, hc⟩ := own_type h.kt k hk
    exact ⟨_, _, hc, .inr (.inl rfl)⟩
  · obtain ⟨cur, hc⟩ := own_type h.kk k hk
    exact ⟨_, _, hc, .inr (.inr rfl)⟩
/-- Blocks that lie behind base, of a pool's types. -/
def OT14 (w : World) (base : Nat) (k : Nat) : Prop := base ≤ k ∧ ∃ cur t, w.heap[k]? = some (.cells cur t (0, 0)) ∧ (t = 64 ∨ t = 74 ∨ t = 79)
theorem PoolM.ot (h : PoolM W base pt room T vt vk ks) : ∀ k, OwnP pt vt vk k → OT14 W base k := fun k hk => ⟨h.low k hk, own_type14 h k hk⟩
theorem KpO.widen {O O' : Nat → Prop} {W W' : World} (h : KpO O W W') (hO : ∀ k, O k → O' k) : KpO O' W W' := .of h.size (fun k ho hk => h.all k (fun e => ho (hO k e)) hk) h.os h.tape h.output
theorem KpO.grown14 {W W' : World} {row : Option Nat} (hg : W.grownBy W' row) : KpO (fun k => row = some k) W W' := .of hg.size (fun k ho hk => hg.block k hk (fun e => ho e.symm)) hg.os hg.tape hg.output
/-- What becomes of a pool by a step: a pool again; all else as it was. -/
structure PoTo (w w' : World) (base pt : Nat) (room : Int) (T' : List (Value × Int)) (vt' vk' : Value) (ks' : List Nat) : Prop where
  m : PoolM w' base pt room T' vt' vk' ks'
  k : KpO (OT14 w base) w w'
theorem ot_trans {w w1 w2 : World} (h : KpO (OT14 w base) w w1) (g : KpO (OT14 w1 base) w1 w2) : KpO (OT14 w base) w w2 := by
  refine .of (Nat.le_trans h.size g.size) (fun k ho hk => ?_) (g.os.trans h.os) (g.tape.trans h.tape) (g.output.trans h.output)
  have e1 := h.all k ho hk
  refine (g.all k (fun e => ho ?_) (Nat.lt_of_lt_of_le hk h.size)).trans e1
  obtain ⟨hb, cur, t, hc, ht⟩ := e
  exact ⟨hb, cur, t, by rw [← e1]; exact hc, ht⟩
theorem PoTo.trans {w w1 w2 : World} {T1 T2 : List (Value × Int)} {vt1 vk1 vt2 vk2 : Value} {ks1 ks2 : List Nat} (h : PoTo w w1 base pt room T1 vt1 vk1 ks1) (g : PoTo w1 w2 base pt room T2 vt2 vk2 ks2) : PoTo w w2 base pt room T2 vt2 vk2 ks2 := ⟨g.m, ot_trans h.k g.k⟩
theorem PoTo.below {w w1 : World} (hb : Below w.heap.size w w1) (h : PoolM w base pt room T vt vk ks) : PoTo w w1 base pt room T vt vk ks := ⟨h.up hb, KpO.below hb⟩
/-- A box of another type stays. -/
theorem ot_bx {w w' : World} (g : KpO (OT14 w base) w w') {b : Nat} {t : TypeId} {l : List Value} (hx : Bx w b t l) (h1 : t ≠ 64) (h2 : t ≠ 74) (h3 : t ≠ 79) : Bx w' b t l := by
  refine hx.kp g (fun e => ?_)
  obtain ⟨_, cur, u, hc, hu⟩ := e
  unfold Bx at hx
  rw [hx] at hc
  have h4 := Option.some.inj hc
  injection h4 with _ h5
  rcases hu with hu | hu | hu
  · exact h1 (h5.trans hu)
  · exact h2 (h5.trans hu)
  · exact h3 (h5.trans hu)
/-- A row of another type stays. -/
theorem ot_own {w w' : World} (g : KpO (OT14 w base) w w') {c n base' : Nat} {t : TypeId} {v : Value} {xs : List Value} (hx : w.ownsRow base' t c v n xs) (h1 : t ≠ 64) (h2 : t ≠ 74) (h3 : t ≠ 79) : w'.ownsRow base' t c v n xs := by
  refine own_kp hx g (fun k ek e => ?_)
  obtain ⟨_, cur, u, hc, hu⟩ := e
  obtain ⟨cur2, hc2⟩ := own_type hx k ek
  rw [hc2] at hc
  have h4 := Option.some.inj hc
  injection h4 with _ h5
  rcases hu with hu | hu | hu
  · exact h1 (h5.trans hu)
  · exact h2 (h5.trans hu)
  · exact h3 (h5.trans hu)
/-- What lies ahead stays. -/
theorem ot_base {w w' : World} (g : KpO (OT14 w base) w w') (hB : base ≤ w.heap.size) : Below base w w' := g.base (fun _ e => e.1) hB
theorem PoolM.net (h : PoolM W base pt room T vt vk ks) : vt.ownBlock ≠ some pt := fun e => by
  obtain ⟨cur, hc⟩ := own_type h.kt pt e
  have h2 := h.bx
  unfold Bx at h2
  rw [hc] at h2
  have h3 := Option.some.inj h2
  injection h3 with _ h4
  exact absurd h4 (by decide)
theorem PoolM.nek (h : PoolM W base pt room T vt vk ks) : vk.ownBlock ≠ some pt := fun e => by
  obtain ⟨cur, hc⟩ := own_type h.kk pt e
  have h2 := h.bx
  unfold Bx at h2
  rw [hc] at h2
  have h3 := Option.some.inj h2
  injection h3 with _ h4
  exact absurd h4 (by decide)
theorem PoolM.netk (h : PoolM W base pt room T vt vk ks) : ∀ k, vt.ownBlock = some k → vk.ownBlock ≠ some k := fun k e e2 => by
  obtain ⟨cur, hc⟩ := own_type h.kt k e
  obtain ⟨cur2, hc2⟩ := own_type h.kk k e2
  rw [hc] at hc2
  have h3 := Option.some.inj hc2
  injection h3 with _ h4
  exact absurd h4 (by decide)
end
set_option maxRecDepth 100000 in
theorem pnew_no (n : Int) (w : World) (h : ¬ (1 ≤ n ∧ n ≤ 65536)) : Calls Tryd.prog 7 #[.int .i64 n] w fun e w' => e = .returned (.pointer none) ∧ w = w' := by
  by_cases h1 : n < 1
  · go_enter Tryd.func7, Tryd.ntmps7
    go_wp2
    go_ret
    exact ⟨rfl, rfl⟩
  · have h2 : n > 65536 := by omega
    go_enter Tryd.func7, Tryd.ntmps7
    go_wp2
    go_ret
    exact ⟨rfl, rfl⟩
set_option maxRecDepth 100000 in
theorem pnew_yes (n : Int) (w : World) (h1 : 1 ≤ n) (h2 : n ≤ 65536) (hz : TzE w w.heap.size) : Calls Tryd.prog 7 #[.int .i64 n] w fun e w' => e = .returned (.pointer (some ⟨w.heap.size, 0, none⟩)) ∧ PoolM w' w.heap.size w.heap.size n [] (.slice none 0 0) (.slice none 0 0) [] ∧ Below w.heap.size w w' := by
  have hb : Below w.heap.size w (w.alloc (.cells #[.int .i64 n, .int .i64 0, .slice none 0 0, .slice none 0 0] 64)) := (Below.refl _ _).alloc (Nat.le_refl _) _
  have hn := Bx.new w 64 [.int .i64 n, .int .i64 0, .slice none 0 0, .slice none 0 0]
  have H := Lib.hid (show PoolM (w.alloc (.cells #[.int .i64 n, .int .i64 0, .slice none 0 0, .slice none 0 0] 64)) w.heap.size w.heap.size n [] (.slice none 0 0) (.slice none 0 0) [] from ⟨hn, World.ownsRow_nil _ _ _ _, World.ownsRow_nil _ _ _ _, Nat.le_refl _, Taken.none, (fun _ h => by cases h), hz.up hb⟩)
  have HB := Lib.hid hb
  clear hb hn
  go_enter Tryd.func7, Tryd.ntmps7
  go_wp2
  go_ret
  exact ⟨rfl, H.out, HB.out⟩
set_option maxRecDepth 100000 in
theorem plen_any {base pt : Nat} {room : Int} {T : List (Value × Int)} {vt vk : Value} {ks : List Nat} (w : World) (h : PoolM w base pt room T vt vk ks) : Calls Tryd.prog 14 #[.pointer (some ⟨pt, 0, none⟩)] w fun e w' => e = .returned (.int .i64 (cntU (usT T) : Int)) ∧ w = w' := by
  have c1 : w.cell? ⟨pt, 1, none⟩ = some (.int .i64 (cntU (usT T) : Int)) := by rw [h.bx.cell]; rfl
  generalize (cntU (usT T) : Int) = n at *
  clear h
  go_enter Tryd.func14, Tryd.ntmps14
  go_wp2
  go_ret
  exact ⟨rfl, rfl⟩
set_option maxRecDepth 100000 in
set_option maxHeartbeats 4000000 in
theorem pat_any {base pt : Nat} {room : Int} {T : List (Value × Int)} {vt vk : Value} {ks : List Nat} (id : Int) (w : World) (h : PoolM w base pt room T vt vk ks) :
    Calls Tryd.prog 29 #[.pointer (some ⟨pt, 0, none⟩), .int .i64 id] w fun e w' => e = .returned (.agg (thR (atT T id)).toArray) ∧ Below w.heap.size w w' := by
  have HX := Lib.hid (Bx.new w 74 (thR (.nilIface, 0)))
  have HB := Lib.hid ((Below.refl w.heap.size w).alloc (Nat.le_refl _) (.cells (thR (.nilIface, 0)).toArray 74))
  have ez : (#[.nilIface, .int .i64 0] : Array Value) = (thR (.nilIface, 0)).toArray := rfl
  obtain ⟨at_, cap, hvt⟩ : ∃ a c, vt = .slice a T.length c := by
    rcases h.kt.2 with ⟨rfl, e⟩ | ⟨g, c, cur, rfl, _⟩
    · exact ⟨none, 0, by rw [e]⟩
    · exact ⟨_, c, rfl⟩
  have hH := (h.up HB.out)
  have c2 : (w.alloc (.cells (thR (.nilIface, 0)).toArray 74)).cell? ⟨pt, 2, none⟩ = some (.slice at_ T.length cap) := by rw [hH.bx.cell, ← hvt]; rfl
  by_cases hid : 0 ≤ id ∧ id < T.length
  · obtain ⟨i, rfl⟩ : ∃ i : Nat, id = (i : Int) := ⟨id.toNat, (Int.toNat_of_nonneg hid.1).symm⟩
    have hi : i < T.length := by omega
    obtain ⟨x, hx⟩ : ∃ x, T[i]? = some x := ⟨_, List.getElem?_eq_getElem hi⟩
    obtain ⟨g, cap', hv2⟩ := ownG_form h.kt (by omega)
    rw [hvt] at hv2
    cases hv2
    subst hvt
    have HR := Lib.hid (ownG_range hH.kt (thR_all T) i x hx)
    have HC := Lib.hid (h.ca x (List.mem_of_getElem? hx))
    rw [atT_of hx]
    have g1 : ¬ (i : Int) < 0 := by omega
    have g2 : ¬ (i : Int) ≥ (T.length : Int) := by omega
    have g3 : (i : Int) < (T.length : Int) := by omega
    clear h hH hx hid
    go_enter Tryd.func29, Tryd.ntmps29
    go_wp2_with (first
      | (refine plV rfl (.agg (thR x).toArray) (exec_load_any _ (.tmp 26) rfl g (i * 2) (thR x) _ rfl HR.out Tryd.underlying74 rfl th_info) ?_)
      | (refine wpList_store_bx rfl 74 (.tmp 4) (.tmp 27) rfl w.heap.size (thR x) (thR (.nilIface, 0)) rfl rfl HX.out th_info rfl (thR_one HC.out) ?_; refine Hid.out ?_))
    refine Lib.hid ?_
    go_wp2
    exact bodyPost_ret (results_cell_row Tryd.results29 _ _ w.heap.size _ _ _ _ rfl (HX.out.row _) Tryd.underlying74 rfl th_info) rfl ⟨rfl, below_row HB.out (Nat.le_refl _) _⟩
  · rw [atT_out hid]
    subst hvt
    clear h hH
    by_cases h0 : id < 0
    · go_enter Tryd.func29, Tryd.ntmps29
      go_wp2_with (refine wpList_store_bx rfl 74 (.tmp 4) (.tmp 20) rfl w.heap.size (thR (.nilIface, 0)) (thR (.nilIface, 0)) rfl rfl HX.out th_info rfl (thR_one rfl) ?_; refine Hid.out ?_)
      refine Lib.hid ?_
      go_wp2
      exact bodyPost_ret (results_cell_row Tryd.results29 _ _ w.heap.size _ _ _ _ rfl (HX.out.row _) Tryd.underlying74 rfl th_info) rfl ⟨rfl, below_row HB.out (Nat.le_refl _) _⟩
    · have g2 : id ≥ (T.length : Int) := by omega
      go_enter Tryd.func29, Tryd.ntmps29
      go_wp2_with (refine wpList_store_bx rfl 74 (.tmp 4) (.tmp 20) rfl w.heap.size (thR (.nilIface, 0)) (thR (.nilIface, 0)) rfl rfl HX.out th_info rfl (thR_one rfl) ?_; refine Hid.out ?_)
      refine Lib.hid ?_
      go_wp2
      exact bodyPost_ret (results_cell_row Tryd.results29 _ _ w.heap.size _ _ _ _ rfl (HX.out.row _) Tryd.underlying74 rfl th_info) rfl ⟨rfl, below_row HB.out (Nat.le_refl _) _⟩
set_option maxRecDepth 100000 in
theorem field14_0 (x : Value) (u : Int) (W : World) : (Instr.field 74 (.agg #[x, .int .i64 u]) 0).run Tryd.prog W = .ok x W := by kernel_rfl
set_option maxRecDepth 100000 in
theorem field14_1 (x : Value) (u : Int) (W : World) : (Instr.field 74 (.agg #[x, .int .i64 u]) 1).run Tryd.prog W = .ok (.int .i64 u) W := by kernel_rfl
set_option maxRecDepth 100000 in
theorem puses_any {base pt : Nat} {room : Int} {T : List (Value × Int)} {vt vk : Value} {ks : List Nat} (id : Int) (w : World) (h : PoolM w base pt room T vt vk ks) :
    Calls Tryd.prog 13 #[.pointer (some ⟨pt, 0, none⟩), .int .i64 id] w fun e w' => e = .returned (.int .i64 (atT T id).2) ∧ Below w.heap.size w w' := by
  have HA := Lib.hid (pat_any id w h)
  obtain ⟨x, hx⟩ : ∃ x, x = atT T id := ⟨_, rfl⟩
  rw [← hx] at HA ⊢
  obtain ⟨xv, xu⟩ := x
  rw [show (thR (xv, xu)).toArray = #[xv, .int .i64 xu] from rfl] at HA
  clear h hx
  have hf1 := field14_1 xv xu
  go_enter Tryd.func13, Tryd.ntmps13
  go_wp2_with (go_at_call 29; refine HA.out.mono ?_; rintro e w1 ⟨rfl, b1⟩; refine Hid.out ?_)
  refine Lib.hid ?_
  have HB := Lib.hid b1
  clear b1
  go_wp2
  go_ret
  exact ⟨rfl, HB.out⟩
/-- why there is no such thing -/
def chkP14 (T : List (Value × Int)) (id : Int) : Int := if (atT T id).2 = 0 then 31 else 0
set_option maxRecDepth 100000 in
theorem pcheck_any {base pt : Nat} {room : Int} {T : List (Value × Int)} {vt vk : Value} {ks : List Nat} (id : Int) (w : World) (h : PoolM w base pt room T vt vk ks) :
    Calls Tryd.prog 28 #[.pointer (some ⟨pt, 0, none⟩), .int .i64 id] w fun e w' => e = .returned (.int .i64 (chkP14 T id)) ∧ Below w.heap.size w w' := by
  have HA := Lib.hid (pat_any id w h)
  have hc : chkP14 T id = if (atT T id).2 = 0 then 31 else 0 := rfl
  obtain ⟨x, hx⟩ : ∃ x, x = atT T id := ⟨_, rfl⟩
  rw [← hx] at HA hc
  obtain ⟨r, hr⟩ : ∃ r, r = chkP14 T id := ⟨_, rfl⟩
  rw [← hr] at hc ⊢
  obtain ⟨xv, xu⟩ := x
  rw [show (thR (xv, xu)).toArray = #[xv, .int .i64 xu] from rfl] at HA
  clear h hx hr
  by_cases h0 : xu = 0
  · rw [if_pos h0] at hc
    have HRR := Lib.hid hc
    subst h0
    clear hc
    have hf1 := field14_1 xv 0
    go_enter Tryd.func28, Tryd.ntmps28
    go_wp2_with (go_at_call 29; refine HA.out.mono ?_; rintro e w1 ⟨rfl, b1⟩; refine Hid.out ?_)
    refine Lib.hid ?_
    have HB := Lib.hid b1
    clear b1
    go_wp2
    go_ret
    exact ⟨by rw [HRR.out]; rfl, HB.out⟩
  · rw [if_neg h0] at hc
    have HRR := Lib.hid hc
    have h1 : (xu == 0) = false := by simpa using h0
    clear hc
    have hf1 := field14_1 xv xu
    go_enter Tryd.func28, Tryd.ntmps28
    go_wp2_with (go_at_call 29; refine HA.out.mono ?_; rintro e w1 ⟨rfl, b1⟩; refine Hid.out ?_)
    refine Lib.hid ?_
    have HB := Lib.hid b1
    clear b1
    go_wp2
    go_ret
    exact ⟨by rw [HRR.out]; rfl, HB.out⟩
end Go.Proofs.YtoliijajhikhgaaDoor
