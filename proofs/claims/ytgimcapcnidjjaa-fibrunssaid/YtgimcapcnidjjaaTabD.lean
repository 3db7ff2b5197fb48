/- A range over a function whose iterator ranges over functions itself: the caller's side, for iterators that turn records of loops of their own, and rounds that keep the records of the loops behind theirs. Of no program's own functions. All below a node, told one by one (below of package lpm). -/
import Derived.Test.YtgimcapcnidjjaaTabC
namespace Go.Proofs.Ytgimcapcnidjjaa
open Go Go.RowKit Go.Shelf
attribute [local go_sem] Oper.semAt_some

theorem room_wide (k : Nat) : Fence.wide.room k := fun d h => by cases h
theorem YieldAt.deep {m : Nat} (m' : Nat) {l : Nat} {args : Array Value} {W : World} {R : Ending → World → Prop} (h : YieldAt Fence.wide m Try.prog l args W R) : YieldAt Fence.wide m' Try.prog l args W R := by
  obtain ⟨fn, tmps, assign, body, hy, h1, h2⟩ := h
  exact ⟨fn, tmps, assign, body, hy, h1, fun c cs _ => h2 c cs (room_wide _)⟩
/-- An iterator: for every loop whose rounds keep what Kp says, and the records behind the loop's own. -/
def SeqZ (n gf : Nat) (lb : Array Value) (Kp : World → World → Prop) (S Sp : List It → Prop) (N : Nat) (w : World) : Prop :=
  ∀ (l : Nat) (J Jx : List It → World → Prop) (W : World), l < W.heap.size → Below w.heap.size w W → OwnFrom W.heap.size J → OwnFrom W.heap.size Jx →
    (∀ pre x W1, J pre W1 → pre.length < N → YieldAt Fence.wide (n - 1) Try.prog l #[itV x.1.1 x.1.2] W1 fun e W' => KeepsFrom (l + 1) W1 W' ∧
      ((e = .returned (.bool true) ∧ J (pre ++ [x]) W' ∧ Kp W1 W') ∨ (e = .returned (.bool false) ∧ Jx (pre ++ [x]) W'))) →
    J [] W →
    CallsIn Fence.wide n Try.prog gf (#[.func (.yield l) #[] #[]] ++ lb) W fun e W' => (∃ v, e = .returned v) ∧ ((∃ xs, S xs ∧ J xs W') ∨ (∃ pre, Sp pre ∧ Jx pre W'))
theorem keeps_put {B : Nat} (W : World) (l : Nat) (o : Obj) (hl : l < B) : KeepsFrom B W (W.putObj l o) := ⟨by simp, fun k _ hB hk _ => (World.putObj_heap_other (by omega)).trans hk⟩
theorem keeps_trans {B : Nat} {U V W : World} (h : KeepsFrom B U V) (k : KeepsFrom B V W) : KeepsFrom B U W := ⟨Nat.le_trans h.size k.size, fun i o hB hi hc => k.same i o hB (h.same i o hB hi hc) hc⟩
theorem keeps_less {B B' : Nat} {U V : World} (h : KeepsFrom B U V) (hB : B ≤ B') : KeepsFrom B' U V := ⟨h.size, fun i o hi => h.same i o (Nat.le_trans hB hi)⟩
theorem heap_own {X Y : World} {row : Option Nat} {B k : Nat} (hk : k < B) {o : Obj} (h : X.heap[k]? = some o) (hg : X.grownBy Y row) (hr : ∀ r, row = some r → B ≤ r) : Y.heap[k]? = some o :=
  (hg.block k (Array.getElem?_eq_some_iff.1 h).1 (fun e => by have := hr k e.symm; omega)).trans h
set_option maxHeartbeats 1000000 in
theorem wp_range {gop : Operand} {ps : Array Tmp} {assign body : Code} {Q : Exit → Act → World → Prop} {a : Act} {w : World} {n : Nat} {gf : Nat} {lb : Array Value} (hg : a.eval gop = .func (.func gf) #[] lb)
    (eg : ∀ args w, (callFunc gf args).run Try.prog w = .ok (.enter gf args) w) {Kp : World → World → Prop} {S Sp : List It → Prop} {N : Nat} (hseq : SeqZ (n - 1) gf lb Kp S Sp N w) (hKt : ∀ {A B C : World}, Kp A B → Kp B C → Kp A C) (hKp : ∀ (W : World) (l : Nat) (o o' : Obj), W.heap[l]? = some o → o.isCells = false → Kp W (W.putObj l o')) (hps : ps.size = 1)
    (I : List It → World → Prop) (Ix : Code → List It → World → Prop) (hI : OwnFrom w.heap.size I) (hIx : ∀ c, OwnFrom w.heap.size (Ix c)) (h0 : I [] w) (Ax : It → Act → World → Prop) (hAx : ∀ x a', OwnFrom w.heap.size (fun (_ : Unit) W => Ax x a' W))
    (hassign : ∀ (l : Nat) (pre : List It) (x : It) (W : World) (K : Act → World → Prop), I pre W → (∀ a' W', KeepsFrom w.heap.size W W' → Kp W W' → I pre W' → Ax x a' W' → K a' W') →
      assign.wpIn (Fence.wide.inRound l) (n - 1 - 1) Try.prog (Exit.then K (fun _ _ _ => False)) { tmps := (ps.zip #[itV x.1.1 x.1.2]).foldl (fun t (p, v) => t.setIfInBounds p v) a.tmps, defers := [] } W)
    (hbody : ∀ (l : Nat) (pre : List It) (x : It) (a' : Act) (W : World), w.heap.size ≤ l → I pre W → Ax x a' W → pre.length < N → body.wpIn (Fence.wide.inRound l) (n - 1 - 1) Try.prog (ownPostG w.heap.size Kp I Ix (pre ++ [x]) W) a' W)
    (hdone : ∀ (D : Nat) (xs : List It) (W : World), w.heap.size ≤ D → S xs → I xs W → W.heap[D]? = some (.deferred (some [])) → Q .normal { a with defers := { target := .collected D, args := #[] } :: a.defers } W)
    (hstop : ∀ (D : Nat) (c : Code) (pre : List It) (W : World), w.heap.size ≤ D → Sp pre → Ix c pre W → W.heap[D]? = some (.deferred (some [])) → c.wpIn Fence.wide n Try.prog Q { a with defers := { target := .collected D, args := #[] } :: a.defers } W) :
    (Code.rangeFunc gop ps assign body).wpIn Fence.wide n Try.prog Q a w := by
  refine wpIn_rangeFunc (fun fn hfn => ?_)
  -- the record, in each of its states
  obtain ⟨rec, hrec⟩ : ∃ rec : LoopState → Option Code → Loop, ∀ st pe, rec st pe = { state := st, pending := pe, fn := fn, tmps := a.tmps, params := ps, assign := assign, body := body, defers := w.heap.size } := ⟨fun st pe => _, fun _ _ => rfl⟩
  obtain ⟨V, hV⟩ : ∃ V, V = (w.alloc (.deferred (some []))).alloc (.loop (rec .ready none)) := ⟨_, rfl⟩
  have vsz : V.heap.size = w.heap.size + 2 := by rw [hV]; simp
  have vL : V.heap[w.heap.size + 1]? = some (.loop (rec .ready none)) := by
    have := World.alloc_heap_new (w.alloc (.deferred (some []))) (.loop (rec .ready none))
    rw [World.size_alloc] at this
    rw [hV]; exact this
  have vD : V.heap[w.heap.size]? = some (.deferred (some [])) := by
    rw [hV]; exact (Below.heap_alloc _ _ _ (by simp)).trans (World.alloc_heap_new w _)
  have vB : Below w.heap.size w V := by rw [hV]; exact ((Below.refl _ w).alloc (Nat.le_refl _) _).alloc (by simp) _
  have vI : I [] V := by rw [hV]; exact hI.alloc _ (hI.alloc _ h0)
  refine ⟨w.heap.size + 1, [{ target := .collected w.heap.size, args := #[] }], V, { target := .fn (.func gf) lb, args := #[.func (.yield (w.heap.size + 1)) #[] #[]] }, V, gf, #[.func (.yield (w.heap.size + 1)) #[] #[]] ++ lb, V, ?_, ?_, ?_, ?_, fun h => (by cases h), ?_⟩
  · rw [hV, hrec]; exact run_enterLoop_outer _ _ _ _ _
  · simp only [resolve, hg]; simp [go_sem]
  · intro f' hf'; exact trivial
  · simp [invoke, go_sem, eg]
  have own2 : ∀ {J : List It → World → Prop} {st : LoopState} {pe : Option Code}, OwnFrom w.heap.size J → OwnFrom V.heap.size (fun pre W => J pre W ∧ W.heap[w.heap.size + 1]? = some (.loop (rec st pe)) ∧ W.heap[w.heap.size]? = some (.deferred (some []))) := by
    intro J st pe hJ s A B row hs hgr hr
    refine ⟨hJ s A B row hs.1 hgr (fun r e => ⟨by have := (hr r e).1; omega, (hr r e).2⟩), heap_own (by omega) hs.2.1 hgr (fun r e => (hr r e).1), heap_own (by omega) hs.2.2 hgr (fun r e => (hr r e).1)⟩
  refine (hseq (w.heap.size + 1) (fun pre W => I pre W ∧ W.heap[w.heap.size + 1]? = some (.loop (rec .ready none)) ∧ W.heap[w.heap.size]? = some (.deferred (some [])))
    (fun pre W => ∃ c, Ix c pre W ∧ W.heap[w.heap.size + 1]? = some (.loop (rec .done (some c))) ∧ W.heap[w.heap.size]? = some (.deferred (some []))) V (by omega) vB (own2 hI)
    (fun s A B row hs hgr hr => by obtain ⟨c, hc⟩ := hs; exact ⟨c, own2 (hIx c) s A B row hc hgr hr⟩) ?_ ⟨vI, vL, vD⟩).mono ?_
  · -- one round
    rintro pre x W ⟨hi, hl, hk⟩ hlen
    have hy := run_yield (P := Try.prog) (args := #[itV x.1.1 x.1.2]) hl (by rw [hrec]; exact hps.symm)
    rw [hrec] at hy
    refine ⟨fn, _, assign, body, hy, roundIn_of_wpIn hfn (hassign _ pre x W _ hi ?_)⟩
    clear hy
    intro a' U kfU kpU iU axU
    have lU := kfU.same _ _ (by omega) hl rfl
    have dU := kfU.same _ _ (Nat.le_refl _) hk rfl
    have ltU : w.heap.size + 1 < U.heap.size := (Array.getElem?_eq_some_iff.1 lU).1
    refine ⟨_, run_beginRound lU (by rw [hrec]), ?_⟩
    -- the record is busy
    have lB : (U.putObj (w.heap.size + 1) (.loop { rec .ready none with state := .busy })).heap[w.heap.size + 1]? = some (.loop { rec .ready none with state := .busy }) := World.putObj_heap_same ltU
    have dB : (U.putObj (w.heap.size + 1) (.loop { rec .ready none with state := .busy })).heap[w.heap.size]? = some (.deferred (some [])) := (World.putObj_heap_other (by omega)).trans dU
    have kB : KeepsFrom (w.heap.size + 1 + 1) W (U.putObj (w.heap.size + 1) (.loop { rec .ready none with state := .busy })) := keeps_trans (keeps_less kfU (by omega)) (keeps_put U _ _ (by omega))
    refine wpIn_mono (hbody _ pre x a' _ (by omega) (hI.putObj _ iU (by omega) lU rfl) ((hAx x a').putObj (s := ()) _ axU (by omega) lU rfl) hlen) ?_
    have fin : ∀ (jump : Option Code) (Z : World), KeepsFrom w.heap.size (U.putObj (w.heap.size + 1) (.loop { rec .ready none with state := .busy })) Z →
        ∃ Y, (Instr.endRound (w.heap.size + 1) jump).run Try.prog Z = .ok (.bool jump.isNone) Y ∧ Y = Z.putObj (w.heap.size + 1) (.loop (rec (if jump.isNone then .ready else .done) jump)) ∧ Z.heap[w.heap.size + 1]? = some (.loop { rec .ready none with state := .busy }) ∧
          Y.heap[w.heap.size + 1]? = some (.loop (rec (if jump.isNone then .ready else .done) jump)) ∧ Y.heap[w.heap.size]? = some (.deferred (some [])) ∧ KeepsFrom (w.heap.size + 1 + 1) W Y := by
      intro jump Z kZ
      have lZ := kZ.same _ _ (by omega) lB rfl
      have dZ := kZ.same _ _ (Nat.le_refl _) dB rfl
      have := run_endRound (P := Try.prog) jump lZ
      rw [hrec] at this
      refine ⟨_, by rw [hrec]; exact this, rfl, lZ, World.putObj_heap_same (Array.getElem?_eq_some_iff.1 lZ).1, (World.putObj_heap_other (by omega)).trans dZ, keeps_trans kB (keeps_trans (keeps_less kZ (by omega)) (keeps_put Z _ _ (by omega)))⟩
    rintro e a3 Z hp
    have out : ∀ (c : Code), KeepsFrom w.heap.size (U.putObj (w.heap.size + 1) (.loop { rec .ready none with state := .busy })) Z → Ix c (pre ++ [x]) Z → ∃ v Y, (Instr.endRound (w.heap.size + 1) (some c)).run Try.prog Z = .ok v Y ∧ (KeepsFrom (w.heap.size + 1 + 1) W Y ∧
        ((Ending.returned v = .returned (.bool true) ∧ (I (pre ++ [x]) Y ∧ Y.heap[w.heap.size + 1]? = some (.loop (rec .ready none)) ∧ Y.heap[w.heap.size]? = some (.deferred (some []))) ∧ Kp W Y) ∨
         (Ending.returned v = .returned (.bool false) ∧ ∃ c, Ix c (pre ++ [x]) Y ∧ Y.heap[w.heap.size + 1]? = some (.loop (rec .done (some c))) ∧ Y.heap[w.heap.size]? = some (.deferred (some []))))) := by
      intro c kZ hx
      obtain ⟨Y, r1, rfl, r2, r3, r4, r5⟩ := fin (some c) Z kZ
      exact ⟨_, _, r1, r5, .inr ⟨rfl, c, (hIx c).putObj _ hx (by omega) r2 rfl, r3, r4⟩⟩
    cases e with
    | normal =>
      obtain ⟨kZ, kpZ, iZ⟩ := hp
      obtain ⟨Y, r1, rfl, r2, r3, r4, r5⟩ := fin none Z kZ
      exact ⟨_, _, r1, r5, .inl ⟨rfl, ⟨hI.putObj _ iZ (by omega) r2 rfl, r3, r4⟩, hKt (hKt (hKt kpU (hKp U _ _ _ lU rfl)) kpZ) (hKp Z _ _ _ r2 rfl)⟩⟩
    | ret => exact out .ret hp.1 hp.2
    | exit id => exact out (.exit id) hp.1 hp.2
    | goto t => exact out (.goto t) hp.1 hp.2
    | panic ch => exact hp.elim
    | outgrown => exact hp.elim
  · -- behind the iterator
    rintro e Z ⟨⟨v, rfl⟩, (⟨xs, hS, hi, hl, hk⟩ | ⟨pre, hSp, c, hi, hl, hk⟩)⟩
    · have := run_endLoop (P := Try.prog) hl (by rw [hrec]; simp)
      rw [hrec] at this
      exact ⟨none, _, this, hdone _ xs _ (Nat.le_refl _) hS (hI.putObj _ hi (by omega) hl rfl) ((World.putObj_heap_other (by omega)).trans hk)⟩
    · have := run_endLoop (P := Try.prog) hl (by rw [hrec]; simp)
      rw [hrec] at this
      exact ⟨some c, _, this, hstop _ c pre _ (Nat.le_refl _) hSp ((hIx c).putObj _ hi (by omega) hl rfl) ((World.putObj_heap_other (by omega)).trans hk)⟩
end Go.Proofs.Ytgimcapcnidjjaa
namespace Go.Proofs.Ytgimcapcnidjjaa
open Go Go.RowKit Go.Shelf
attribute [local go_sem] Oper.semAt_some

def belowN : Nat → List Nd → Nat → Option (List (Pfx × Int))
  | 0, _, _ => none
  | f + 1, nds, n =>
    if n = 0 then some []
    else match nds[n]? with
      | none => none
      | some d =>
        match belowN f nds d.k0 with
        | none => none
        | some l0 =>
          match belowN f nds d.k1 with
          | none => none
          | some l1 => some (ownN d ++ (l0 ++ l1))
/-- What a round keeps that gathers items: all cells but items and slices of them. -/
def KpI (W W' : World) : Prop := W.heap.size ≤ W'.heap.size ∧ ∀ (k : Nat) (c : Array Value) (t : TypeId) (z : Nat × Nat), t ≠ 44 → t ≠ 56 → W.heap[k]? = some (.cells c t z) → W'.heap[k]? = some (.cells c t z)
theorem KpI.refl (W : World) : KpI W W := ⟨Nat.le_refl _, fun _ _ _ _ _ _ h => h⟩
theorem KpI.trans {A B C : World} (h : KpI A B) (k : KpI B C) : KpI A C := ⟨Nat.le_trans h.1 k.1, fun i c t z h1 h2 hi => k.2 i c t z h1 h2 (h.2 i c t z h1 h2 hi)⟩
theorem KpI.put (W : World) (l : Nat) (o o' : Obj) (h : W.heap[l]? = some o) (hc : o.isCells = false) : KpI W (W.putObj l o') := by
  refine ⟨by simp, fun k c t z _ _ hk => ?_⟩
  have hne : k ≠ l := fun e => by rw [e, h] at hk; cases hk; cases hc
  exact (World.putObj_heap_other hne).trans hk
theorem KpI.below {A B : World} (h : Below A.heap.size A B) : KpI A B := ⟨h.size, fun k _ _ _ _ _ hk => (h.block k (Array.getElem?_eq_some_iff.1 hk).1).trans hk⟩
theorem Bx.ki {W W' : World} {b : Nat} {t : TypeId} {l : List Value} (h : Bx W b t l) (hk : KpI W W') (h1 : t ≠ 44) (h2 : t ≠ 56) : Bx W' b t l := hk.2 b _ _ _ h1 h2 h
theorem own_ki {w w' : World} {base : Nat} {e : TypeId} {size : Nat} {v : Value} {n : Nat} {xs : List Value} (h : w.ownsRow base e size v n xs) (hk : KpI w w') (h1 : e ≠ 44) (h2 : e ≠ 56) : w'.ownsRow base e size v n xs := by
  refine ⟨h.1, ?_⟩
  rcases h.2 with h0 | ⟨g, cap, cur, rfl, h3, hg, h4⟩
  · exact .inl h0
  · exact .inr ⟨g, cap, cur, rfl, h3, hk.2 g _ _ _ h1 h2 hg, h4⟩
theorem own_from {X Y : World} {row : Option Nat} {B base : Nat} {e : TypeId} {size : Nat} {v : Value} {n : Nat} {xs : List Value} (h : X.ownsRow base e size v n xs) (hg : X.grownBy Y row) (hr : ∀ r, row = some r → B ≤ r ∧ ∃ o : Obj, X.heap[r]? = some o ∧ o.isCells = false) : Y.ownsRow base e size v n xs := by
  refine ⟨h.1, ?_⟩
  rcases h.2 with h0 | ⟨g, cap, cur, rfl, h3, hgg, h4⟩
  · exact .inl h0
  · refine .inr ⟨g, cap, cur, rfl, h3, (hg.block g (Array.getElem?_eq_some_iff.1 hgg).1 (fun e => ?_)).trans hgg, h4⟩
    obtain ⟨_, o, ho, hc⟩ := hr g e.symm
    rw [hgg] at ho
    cases ho
    cases hc
section
variable {W W' : World} {X : Nat → Prop} {g gn cap : Nat} {T : Tb} {vf : Value}
theorem TabG.ki (h : TabG W X g T gn cap vf) (hk : KpI W W') : TabG W' X g T gn cap vf :=
  ⟨h.box.ki hk (by decide) (by decide), own_ki h.nds hk (by decide) (by decide), own_ki h.free hk (by decide) (by decide), h.addr, h.inG, h.inN, h.inF, fun k hx => Nat.lt_of_lt_of_le (h.low k hx) hk.1⟩
theorem TabG.from (h : TabG W X g T gn cap vf) {row : Option Nat} {B : Nat} (hg : W.grownBy W' row) (hr : ∀ r, row = some r → B ≤ r ∧ ∃ o : Obj, W.heap[r]? = some o ∧ o.isCells = false) : TabG W' X g T gn cap vf :=
  ⟨bx_from h.box hg hr, own_from h.nds hg hr, own_from h.free hg hr, h.addr, h.inG, h.inN, h.inF, fun k hx => Nat.lt_of_lt_of_le (h.low k hx) hg.size⟩
end
/-- What the walk below a node keeps. -/
structure StB (X : Nat → Prop) (g : Nat) (T : Tb) (gn cap : Nat) (vf : Value) (Bt By l : Nat) (W : World) : Prop where
  tab : TabG W X g T gn cap vf
  bt : Bx W Bt 66 [.pointer (some ⟨g, 0, none⟩)]
  by_ : Bx W By 84 [.func (.yield l) #[] #[]]
section
variable {X : Nat → Prop} {g gn cap Bt By l : Nat} {T : Tb} {vf : Value} {W W' : World}
theorem StB.ki (h : StB X g T gn cap vf Bt By l W) (hk : KpI W W') : StB X g T gn cap vf Bt By l W' := ⟨h.tab.ki hk, h.bt.ki hk (by decide) (by decide), h.by_.ki hk (by decide) (by decide)⟩
theorem StB.from (h : StB X g T gn cap vf Bt By l W) {row : Option Nat} {B : Nat} (hg : W.grownBy W' row) (hr : ∀ r, row = some r → B ≤ r ∧ ∃ o : Obj, W.heap[r]? = some o ∧ o.isCells = false) : StB X g T gn cap vf Bt By l W' := ⟨h.tab.from hg hr, bx_from h.bt hg hr, bx_from h.by_ hg hr⟩
theorem StB.up (h : StB X g T gn cap vf Bt By l W) (hb : Below W.heap.size W W') : StB X g T gn cap vf Bt By l W' := h.ki (KpI.below hb)
end
set_option maxHeartbeats 1000000 in
theorem below_in (n m : Nat) (g : Nat) (w : World) :
    CallsIn Fence.wide n Try.prog 61 #[.pointer (some ⟨g, 0, none⟩), .int .i64 (m : Int)] w fun e w' => e = .returned (.func (.func 75) #[] #[.pointer (some ⟨w.heap.size + 1, 0, none⟩), .pointer (some ⟨w.heap.size, 0, none⟩)]) ∧
      w' = (w.alloc (.cells #[.pointer (some ⟨g, 0, none⟩)] 66)).alloc (.cells #[.int .i64 (m : Int)] 3) := by
  refine callsIn_of_wp Try.func61 rfl trivial ?_ rfl
  simp only [Try.ntmps61, List.size_toArray, List.length_cons, List.length_nil, Nat.reduceAdd, Nat.reduceSub, Array.replicate_succ, Array.replicate_zero, List.push_toArray, List.append_toArray, List.nil_append, List.cons_append]
  gi_wp2
  go_ret
  exact ⟨rfl, rfl⟩
/-- The parts of a node's items, kid by kid. -/
def partN (l0 l1 : List (Pfx × Int)) : Nat → List (Pfx × Int)
  | 0 => []
  | 1 => l0
  | _ => l0 ++ l1
def marks (Ds : List Nat) : List Deferred := Ds.map fun D => { target := .collected D, args := #[] }
theorem leaves_marks {n : Nat} {fn : Func} {tmps : Array Value} {R : Ending → World → Prop} (v : Value) (hv : ∀ W, (results fn tmps).run Try.prog W = .ok v W) (B : Nat) (Z : World → Prop) (hR : ∀ W, Z W → R (.returned v) W) (hZ : OwnFrom B (fun (_ : Unit) W => Z W)) :
    ∀ (Ds : List Nat) (W : World), Ds.Nodup → (∀ D ∈ Ds, B ≤ D ∧ W.heap[D]? = some (.deferred (some []))) → Z W → LeavesInM Fence.wide n Try.prog fn tmps R (marks Ds) .returning W
  | [], W, _, _, hz => ⟨v, hv W, hR W hz⟩
  | D :: Ds, W, hnd, hD, hz => by
    have h0 := hD D (by simp)
    refine ⟨by simp, .inl ⟨D, _, rfl, run_takeDeferred h0.2, ?_⟩⟩
    refine leaves_marks v hv B Z hR hZ Ds _ (List.nodup_cons.1 hnd).2 (fun E hE => ⟨(hD E (by simp [hE])).1, ?_⟩) (hZ.putObj (s := ()) _ hz h0.1 h0.2 rfl)
    rw [World.putObj_heap_other (fun e => (List.nodup_cons.1 hnd).1 (by rw [← e]; exact hE))]
    exact (hD E (by simp [hE])).2
def kidN (d : Nd) (i : Nat) : Nat := if i = 0 then d.k0 else d.k1
set_option maxRecDepth 100000 in
theorem exec_index2 {ρ : Operand → Value} {o : Oper} {W : World} (x y : Operand) (ho : o.op = .index 109 x y) (d : Nd) (i : Nat) (hi : i < 2) (hx : ρ x = .agg #[.int .i64 (d.k0 : Int), .int .i64 (d.k1 : Int)]) (hy : ρ y = .int .i64 (i : Int)) :
    (execOp ρ o).run Try.prog W = .ok (.value (.int .i64 ((kidN d i : Nat) : Int))) W := by
  match i, hi with
  | 0, _ => go_simp; rfl
  | 1, _ => go_simp; rfl
def HeldW (Bn Bt g gn m : Nat) (v : Value) (l : List Value) (W : World) : Prop :=
  W.cell? ⟨Bn, 0, none⟩ = some (.int .i64 (m : Int)) ∧ W.cell? ⟨Bt, 0, none⟩ = some (.pointer (some ⟨g, 0, none⟩)) ∧ W.cell? ⟨g, 4, none⟩ = some v ∧ W.rangeAt gn (m * 22) l
set_option maxRecDepth 100000 in
set_option maxHeartbeats 8000000 in
theorem below_seq (X : Nat → Prop) (g : Nat) (T : Tb) : ∀ (f n : Nat) (items : List (Pfx × Int)), belowN f T.nds n = some items → ∀ (m : Nat) (w : World) (Bn Bt : Nat), TabM w X g T → Bx w Bn 3 [.int .i64 (n : Int)] → Bx w Bt 66 [.pointer (some ⟨g, 0, none⟩)] →
    SeqZ m 75 #[.pointer (some ⟨Bn, 0, none⟩), .pointer (some ⟨Bt, 0, none⟩)] KpI (fun ys => itemsT ys = items) (fun pre => itemsT pre <+: items) items.length w
  | 0, _, _, h => by cases h
  | f + 1, n, items, hB => by
    intro m w Bn Bt hT hBn hBt l J Jx W hl hW hJ hJx hY h0
    obtain ⟨gn, cap, vf, hG⟩ := hT
    have hcaps := hG.caps
    unfold maxLen at hcaps
    have hG0 := hG.up hW
    have hBn0 := hBn.up hW
    have hBt0 := hBt.up hW
    clear hBn hBt hG
    have hby := Bx.new W 84 [.func (.yield l) #[] #[]]
    have hb1 : Below W.heap.size W (W.alloc (.cells #[.func (.yield l) #[] #[]] 84)) := (Below.refl _ _).alloc (Nat.le_refl _) _
    have HG := Lib.hid (hG0.up hb1)
    have HBN := Lib.hid (hBn0.up hb1)
    have HBT := Lib.hid (hBt0.up hb1)
    have HBY := Lib.hid hby
    have HJ0 := Lib.hid (hJ.alloc (.cells #[.func (.yield l) #[] #[]] 84) h0)
    have cn : (W.alloc (.cells #[.func (.yield l) #[] #[]] 84)).cell? ⟨Bn, 0, none⟩ = some (.int .i64 (n : Int)) := by rw [(hBn0.up hb1).cell]; rfl
    unfold belowN at hB
    by_cases hn : n = 0
    · rw [if_pos hn] at hB
      subst hn
      obtain rfl : items = [] := by cases hB; rfl
      refine callsIn_of_wp_marks Try.func75 rfl trivial ?_ rfl
      simp only [Try.ntmps75, List.size_toArray, List.length_cons, List.length_nil, Nat.reduceAdd, Nat.reduceSub, Array.replicate_succ, Array.replicate_zero, List.push_toArray, List.append_toArray, List.nil_append, List.cons_append]
      clear hG0 hBn0 hBt0 hby hb1
      gi_wp2
      exact ⟨_, results_none rfl _ _ _, ⟨_, rfl⟩, .inl ⟨[], rfl, HJ0.out⟩⟩
    · rw [if_neg hn] at hB
      split at hB
      · cases hB
      rename_i d hd
      split at hB
      · cases hB
      rename_i l0 hl0
      split at hB
      · cases hB
      rename_i l1 hl1
      obtain rfl : items = ownN d ++ (l0 ++ l1) := by cases hB; rfl
      have hnl : n < T.nds.length := (List.getElem?_eq_some_iff.1 hd).1
      have fd := HG.out.addr d (List.mem_of_getElem? hd)
      have HD := Lib.hid fd
      have hi0 : (n : Int) ≠ 0 := by omega
      have hi1 : ((n : Int) == 0) = false := by simpa using hi0
      have hi3 : (n : Int) < (T.nds.length : Int) := by omega
      have hHW : HeldW Bn Bt g gn n (.slice (some ⟨gn, 0, none⟩) T.nds.length cap) d.row (W.alloc (.cells #[.func (.yield l) #[] #[]] 84)) := ⟨cn, by rw [HBT.out.cell]; rfl, HG.out.c4, HG.out.range n d hd⟩
      have HHW := Lib.hid hHW
      clear hG0 hBn0 hBt0 hby fd hHW
      refine callsIn_of_wp_marks Try.func75 rfl trivial ?_ rfl
      simp only [Try.ntmps75, List.size_toArray, List.length_cons, List.length_nil, Nat.reduceAdd, Nat.reduceSub, Array.replicate_succ, Array.replicate_zero, List.push_toArray, List.append_toArray, List.nil_append, List.cons_append]
      gi_wp2
      have hG1 := HG.out
      have hBn1 := HBN.out
      have hst1 : StB X g T gn cap vf Bt W.heap.size l (W.alloc (.cells #[.func (.yield l) #[] #[]] 84)) := ⟨HG.out, HBT.out, HBY.out⟩
      have hJ1 := HJ0.out
      have hHW := HHW.out
      have hsz1 : W.heap.size < (W.alloc (.cells #[.func (.yield l) #[] #[]] 84)).heap.size := HBY.out.lt
      clear HG HBN HBT HBY HJ0 HHW cn hb1 hG1
      generalize W.alloc (.cells #[.func (.yield l) #[] #[]] 84) = W1 at *
      refine wpIn_wide.2 ?_
      refine wp_region_noPanic ?_
      refine wp_region_held_drew (S := HeldW Bn Bt g gn n (.slice (some ⟨gn, 0, none⟩) T.nds.length cap) d.row) (by kernel_rfl) hHW (fun hHeld => ?_)
      have hbd : Below W1.heap.size W1 W1.drew := (Below.refl _ _).drew
      have hst2 := hst1.up hbd
      have hJ2 := hJ _ _ _ none hJ1 (grown_of_below9 hbd) (fun r e => by cases e)
      have hsz2 : W.heap.size < W1.drew.heap.size := hsz1
      have hH2 : ∀ V, Below W1.drew.heap.size W1.drew V → HeldW Bn Bt g gn n (.slice (some ⟨gn, 0, none⟩) T.nds.length cap) d.row V := fun V hV => ⟨(hV.cell (p := ⟨Bn, 0, none⟩) hBn1.lt).trans hHeld.1, (hV.cell (p := ⟨Bt, 0, none⟩) hst1.bt.lt).trans hHeld.2.1, (hV.cell (p := ⟨g, 4, none⟩) hst1.tab.box.lt).trans hHeld.2.2.1, fun j v hv => (hV.cell (p := ⟨gn, n * 22 + j, none⟩) (hst1.tab.low gn hst1.tab.inN)).trans (hHeld.2.2.2 j v hv)⟩
      clear hst1 hJ1 hHW hbd hBn1 hsz1
      generalize W1.drew = W2 at *
      refine held_take (v := ?v272) 0 rfl (by kernel_rfl) (by kernel_rfl) (by kernel_rfl) (fun _ _ _ h => h) (by rfl) ?y272 (by assumption) ?_
      case y272 => (intro w hSw; unfold HeldW at hSw; go_simp; (try with_reducible rfl); (try omega))
      simp only [List.setIfInBounds_toArray, List.set_cons_zero, List.set_cons_succ]
      refine held_take (v := ?v275) 1 rfl (by kernel_rfl) (by kernel_rfl) (by kernel_rfl) (fun _ _ _ h => h) (by rfl) ?y275 (by assumption) ?_
      case y275 => (intro w hSw; unfold HeldW at hSw; go_simp; (try with_reducible rfl); (try omega))
      simp only [List.setIfInBounds_toArray, List.set_cons_zero, List.set_cons_succ]
      refine held_take (v := ?v278) 2 rfl (by kernel_rfl) (by kernel_rfl) (by kernel_rfl) (fun _ _ _ h => h) (by rfl) ?y278 (by assumption) ?_
      case y278 => (intro w hSw; unfold HeldW at hSw; go_simp; (try with_reducible rfl); (try omega))
      simp only [List.setIfInBounds_toArray, List.set_cons_zero, List.set_cons_succ]
      refine held_take (v := ?v281) 3 rfl (by kernel_rfl) (by kernel_rfl) (by kernel_rfl) (fun _ _ _ h => h) (by rfl) ?y281 (by assumption) ?_
      case y281 => (intro w hSw; unfold HeldW at hSw; go_simp; (try with_reducible rfl); (try omega))
      simp only [List.setIfInBounds_toArray, List.set_cons_zero, List.set_cons_succ]
      refine held_take (v := ?v284) 4 rfl (by kernel_rfl) (by kernel_rfl) (by kernel_rfl) (fun _ _ _ h => h) (by rfl) ?y284 (by assumption) ?_
      case y284 => (intro w hSw; unfold HeldW at hSw; go_simp; (try with_reducible rfl); (try omega))
      simp only [List.setIfInBounds_toArray, List.set_cons_zero, List.set_cons_succ]
      refine held_take (v := ?v287) 5 rfl (by kernel_rfl) (by kernel_rfl) (by kernel_rfl) (fun _ _ _ h => h) (by rfl) ?y287 (by assumption) ?_
      case y287 => (intro w hSw; unfold HeldW at hSw; go_simp; (try with_reducible rfl); (try omega))
      simp only [List.setIfInBounds_toArray, List.set_cons_zero, List.set_cons_succ]
      refine held_take (v := d.val) 6 rfl (by kernel_rfl) (by kernel_rfl) (by kernel_rfl) (fun _ _ _ h => h) (by rfl) (fun W hSw => exec_load_any _ (.tmp 15) rfl gn (n * 22) d.row _ rfl hSw.2.2.2 Try.underlying111 rfl (nd_infoC HD.out)) (by assumption) ?_
      simp only [List.setIfInBounds_toArray, List.set_cons_zero, List.set_cons_succ]
      refine held_one 7 rfl (by kernel_rfl) (by rfl) (fun K hK => ?_)
      go_simp
      refine hK.out _ _ (hH2 _ ((Below.refl _ _).alloc (Nat.le_refl _) _)) (fun _ => ?_)
      clear hK K
      (try simp only [Act.put, List.setIfInBounds_toArray, List.set_cons_zero, List.set_cons_succ])
      refine held_none 8 rfl (by kernel_rfl) (by rfl) (fun K hK => ?_)
      refine wp_store_row 111 (.tmp 4) (.tmp 16) rfl W2.heap.size d.row.toArray rfl rfl _ _ (heap_alloc_new W2 _) (by simpa using nd_infoC HD.out) (by simp [nd_len HD.out]) (all_oneCell_toArray (nd_one d)) ?_
      rw [World.setRow_alloc_new]
      have hba : Below W2.heap.size W2 (W2.alloc (.cells d.row.toArray 111)) := (Below.refl _ _).alloc (Nat.le_refl _) _
      refine hK.out _ _ (hH2 _ hba) (fun _ => ?_)
      clear hK K
      (try simp only [Act.put])
      refine wpAnyH_done (by kernel_rfl) ?_ _
      refine NoPanic.normal ?_
      have hst3 := hst2.up hba
      have hJ3 := hJ _ _ _ none hJ2 (grown_of_below9 hba) (fun r e => by cases e)
      have hN3 := Bx.new W2 111 d.row
      have hsz3 : W.heap.size < W2.heap.size := hsz2
      have hsz4 := hN3.lt
      clear hst2 hJ2 hH2 hHeld hba hsz2
      generalize hW3 : W2.alloc (.cells d.row.toArray 111) = W3 at *
      clear hW3
      have c19 : W3.cell? ⟨W2.heap.size, 19, none⟩ = some (.bool d.held) := by rw [hN3.cell]; exact nd_held HD.out
      have HI := Lib.hid (hN3.range 0 (itR d.p d.v) nd_it)
      have HK2 := Lib.hid (hN3.range 20 [.int .i64 (d.k0 : Int), .int .i64 (d.k1 : Int)] (nd_kids HD.out))
      have cy : W3.cell? ⟨W.heap.size, 0, none⟩ = some (.func (.yield l) #[] #[]) := by rw [hst3.by_.cell]; rfl
      have hlen0 : (ownN d).length ≤ (ownN d ++ (l0 ++ l1)).length := by simp
      cases hh : d.held with
      | false =>
        rw [hh] at c19
        have HK4 := HK2
        have hst4 := hst3
        have hJ4 := hJ3
        have hx0 : itemsT [] = ownN d ++ partN l0 l1 0 := by unfold ownN; rw [hh]; rfl
        gi_wp2
        refine ⟨fun _ h => (by cases h), ?_⟩
        gi_wp2_with (refine inV rfl (by intro c h; cases h) rfl (.agg #[.int .i64 (d.k0 : Int), .int .i64 (d.k1 : Int)]) (exec_load_any _ (.tmp 26) rfl W2.heap.size 20 [.int .i64 (d.k0 : Int), .int .i64 (d.k1 : Int)] _ rfl HK4.out Try.underlying109 rfl (by kernel_rfl)) ?_; refine Hid.out ?_)
        refine Lib.hid ?_
        gi_wp2
        refine wpIn_loop (fun a' w' => ∃ (i : Nat) (Ds : List Nat) (xs : List It) (u6 u7 u29 u30 u31 u32 u33 u34 u35 u36 u37 u38 u39 : Value), i ≤ 2 ∧ itemsT xs = ownN d ++ partN l0 l1 i ∧ J xs w' ∧ StB X g T gn cap vf Bt W.heap.size l w' ∧ Ds.Nodup ∧ (∀ D ∈ Ds, W.heap.size ≤ D ∧ w'.heap[D]? = some (.deferred (some []))) ∧
          a' = { tmps := #[.func (.yield l) #[] #[], .pointer (some ⟨Bn, 0, none⟩), .pointer (some ⟨Bt, 0, none⟩), .pointer (some ⟨W.heap.size, 0, none⟩), .pointer (some ⟨W2.heap.size, 0, none⟩), undef, u6, u7, .int .i64 (n : Int), .bool false, .pointer (some ⟨g, 0, none⟩), .pointer (some ⟨g, 0, none⟩), .pointer (some ⟨g, 4, none⟩), .slice (some ⟨gn, 0, none⟩) T.nds.length cap, .int .i64 (n : Int), .pointer (some ⟨gn, n * 22, none⟩), d.val, .pointer (some ⟨W2.heap.size, 19, none⟩), .bool false, .bool false, undef, undef, undef, undef, undef, .bool false, .pointer (some ⟨W2.heap.size, 20, none⟩), .agg #[.int .i64 (d.k0 : Int), .int .i64 (d.k1 : Int)], .int .i64 (i : Int), u29, u30, u31, u32, u33, u34, u35, u36, u37, u38, u39], defers := marks Ds })
          (fun a' _ => 2 - intOf9 (a'.tmps.getD 28 undef)) ⟨0, [], [], _, _, _, _, _, _, _, _, _, _, _, _, _, by omega, hx0, hJ4, hst4, List.nodup_nil, fun _ h => (by cases h), rfl⟩ ?_
        rintro a' w' ⟨i, Ds, xs, u6, u7, u29, u30, u31, u32, u33, u34, u35, u36, u37, u38, u39, hi2, hxs, hJi, hsti, hnd, hDs, rfl⟩
        clear hst4 hJ4 hx0
        by_cases hie : i = 2
        · subst hie
          gi_wp2
          refine leaves_marks _ (fun W => results_none rfl _ _ _) W.heap.size (fun V => J xs V) (fun V hV => ⟨⟨_, rfl⟩, .inl ⟨xs, by rw [hxs]; rfl, hV⟩⟩) (fun _ U V row h1 h2 h3 => hJ xs U V row h1 h2 h3) Ds _ hnd hDs hJi
        have hi : i < 2 := by omega
        have hib : (i : Int) < 2 := by omega
        have ct : w'.cell? ⟨Bt, 0, none⟩ = some (.pointer (some ⟨g, 0, none⟩)) := by rw [hsti.bt.cell]; rfl
        have hkid : ∃ li, belowN f T.nds (kidN d i) = some li ∧ partN l0 l1 (i + 1) = partN l0 l1 i ++ li := by
          match i, hi with
          | 0, _ => exact ⟨l0, hl0, by simp [partN]⟩
          | 1, _ => exact ⟨l1, hl1, rfl⟩
        obtain ⟨li, hli, hpart⟩ := hkid
        have hplen : (ownN d ++ partN l0 l1 i).length + li.length ≤ (ownN d ++ (l0 ++ l1)).length := by
          match i, hi with
          | 0, _ => cases (show some l0 = some li from hl0.symm.trans hli); simp [partN]
          | 1, _ => cases (show some l1 = some li from hl1.symm.trans hli); simp [partN]; omega
        have HST := Lib.hid hsti
        have HJI := Lib.hid hJi
        have HDS := Lib.hid hDs
        have hWw : W.heap.size < w'.heap.size := hsti.by_.lt
        clear hsti hJi hDs
        gi_wp2_with (first
          | (refine inV rfl (by intro c h; cases h) rfl (.int .i64 ((kidN d i : Nat) : Int)) (exec_index2 (.tmp 27) (.tmp 28) rfl d i hi rfl rfl) ?_)
          | (refine ⟨trivial, fun h => (by cases h), ?_⟩; refine (below_in _ (kidN d i) g _).mono ?_; rintro e w5 ⟨rfl, rfl⟩; refine Hid.out ?_))
        refine Lib.hid ?_
        have hbb : Below w'.heap.size w' ((w'.alloc (.cells #[.pointer (some ⟨g, 0, none⟩)] 66)).alloc (.cells #[.int .i64 ((kidN d i : Nat) : Int)] 3)) := ((Below.refl _ _).alloc (Nat.le_refl _) _).alloc (by simp) _
        have hab := twoB_new w' 66 3 [.pointer (some ⟨g, 0, none⟩)] [.int .i64 ((kidN d i : Nat) : Int)]
        have hst5 := HST.out.up hbb
        have hJ5 := hJ _ _ _ none HJI.out (grown_of_below9 hbb) (fun r e => by cases e)
        have hD5 : ∀ D ∈ Ds, W.heap.size ≤ D ∧ D < w'.heap.size ∧ ((w'.alloc (.cells #[.pointer (some ⟨g, 0, none⟩)] 66)).alloc (.cells #[.int .i64 ((kidN d i : Nat) : Int)] 3)).heap[D]? = some (.deferred (some [])) := fun D hD => by
          have := HDS.out D hD
          have hlt := (Array.getElem?_eq_some_iff.1 this.2).1
          exact ⟨this.1, hlt, (hbb.block D hlt).trans this.2⟩
        have hsz5 : ((w'.alloc (.cells #[.pointer (some ⟨g, 0, none⟩)] 66)).alloc (.cells #[.int .i64 ((kidN d i : Nat) : Int)] 3)).heap.size = w'.heap.size + 2 := by simp
        clear HST HJI HDS hbb ct
        generalize (w'.alloc (.cells #[.pointer (some ⟨g, 0, none⟩)] 66)).alloc (.cells #[.int .i64 ((kidN d i : Nat) : Int)] 3) = W5 at *
        gi_wp2
        refine wp_range (gf := 75) (lb := #[.pointer (some ⟨w'.heap.size + 1, 0, none⟩), .pointer (some ⟨w'.heap.size, 0, none⟩)]) rfl (enters_of Try.func75 (by kernel_rfl) rfl)
          (below_seq X g T f (kidN d i) li hli (m - 1) W5 (w'.heap.size + 1) w'.heap.size ⟨_, _, _, hst5.tab⟩ hab.2.1 hab.1) (fun h k => h.trans k) (fun W l o o' h1 h2 => KpI.put W l o o' h1 h2) (by rfl)
          (fun ys V => (∀ D ∈ Ds, V.heap[D]? = some (.deferred (some []))) ∧ J (xs ++ ys) V ∧ StB X g T gn cap vf Bt W.heap.size l V)
          (fun c ys V => c = .ret ∧ (∀ D ∈ Ds, V.heap[D]? = some (.deferred (some []))) ∧ Jx (xs ++ ys) V)
          (fun s U V row h1 h2 h3 => ⟨fun D hD => heap_own (B := W5.heap.size) (by have := (hD5 D hD).2.1; omega) (h1.1 D hD) h2 (fun r e => (h3 r e).1), hJ _ U V row h1.2.1 h2 (fun r e => ⟨by have := (h3 r e).1; omega, (h3 r e).2⟩), h1.2.2.from h2 h3⟩)
          (fun c s U V row h1 h2 h3 => ⟨h1.1, fun D hD => heap_own (B := W5.heap.size) (by have := (hD5 D hD).2.1; omega) (h1.2.1 D hD) h2 (fun r e => (h3 r e).1), hJx _ U V row h1.2.2 h2 (fun r e => ⟨by have := (h3 r e).1; omega, (h3 r e).2⟩)⟩)
          ⟨fun D hD => (hD5 D hD).2.2, by rw [List.append_nil]; exact hJ5, hst5⟩
          (fun x a' V => ∃ B7, Bx V B7 44 (itR x.1.1 x.1.2) ∧ a' = { tmps := #[.func (.yield l) #[] #[], .pointer (some ⟨Bn, 0, none⟩), .pointer (some ⟨Bt, 0, none⟩), .pointer (some ⟨W.heap.size, 0, none⟩), .pointer (some ⟨W2.heap.size, 0, none⟩), undef, .int .i64 ((kidN d i : Nat) : Int), .pointer (some ⟨B7, 0, none⟩), .int .i64 (n : Int), .bool false, .pointer (some ⟨g, 0, none⟩), .pointer (some ⟨g, 0, none⟩), .pointer (some ⟨g, 4, none⟩), .slice (some ⟨gn, 0, none⟩) T.nds.length cap, .int .i64 (n : Int), .pointer (some ⟨gn, n * 22, none⟩), d.val, .pointer (some ⟨W2.heap.size, 19, none⟩), .bool false, .bool false, undef, undef, undef, undef, undef, .bool false, .pointer (some ⟨W2.heap.size, 20, none⟩), .agg #[.int .i64 (d.k0 : Int), .int .i64 (d.k1 : Int)], .int .i64 (i : Int), .bool true, .int .i64 ((kidN d i : Nat) : Int), .pointer (some ⟨g, 0, none⟩), .int .i64 ((kidN d i : Nat) : Int), .func (.func 75) #[] #[.pointer (some ⟨w'.heap.size + 1, 0, none⟩), .pointer (some ⟨w'.heap.size, 0, none⟩)], itV x.1.1 x.1.2, u35, u36, u37, u38, u39], defers := [] })
          (fun x a' s U V row h1 h2 h3 => by obtain ⟨B7, e2, e3⟩ := h1; exact ⟨B7, bx_from e2 h2 h3, e3⟩)
          ?_ ?_ ?_ ?_
        · rintro l' pre x V K ⟨hDv, hJv, hsv⟩ hK
          have hbb : Below V.heap.size V (V.alloc (.cells (itR x.1.1 x.1.2).toArray 44)) := (Below.refl _ _).alloc (Nat.le_refl _) _
          gi_wp2_with (refine inS rfl (by intro c h; cases h) rfl (exec_store_fresh _ (.tmp 7) (.tmp 34) rfl (itR x.1.1 x.1.2) _ V.heap.size rfl rfl rfl (it_infoC x.2 _) (by rw [it_len x.2]; rfl) (it_one _ _)) ?_; refine Hid.out ?_)
          refine Lib.hid ?_
          gi_wp2
          exact hK _ _ ((KeepsOthers.alloc _ _).from _) (KpI.below hbb) ⟨fun D hD => (Below.heap_alloc _ _ _ (Array.getElem?_eq_some_iff.1 (hDv D hD)).1).trans (hDv D hD), hJ _ _ _ none hJv (grown_of_below9 hbb) (fun r e => by cases e), hsv.up hbb⟩ ⟨V.heap.size, Bx.new V _ _, rfl⟩
        · rintro l' pre x a' V hl' ⟨hDv, hJv, hsv⟩ ⟨B7, hx7, rfl⟩ hlt
          have RX := Lib.hid (rangeAll hx7)
          have cy : V.cell? ⟨W.heap.size, 0, none⟩ = some (.func (.yield l) #[] #[]) := by rw [hsv.by_.cell]; rfl
          obtain ⟨fn, tmps, assign, body, hy, hR⟩ := YieldAt.deep (m - 1 - 1 - 1) (hY (xs ++ pre) x V hJv (by
            rw [List.length_append, show xs.length = (itemsT xs).length by simp [itemsT], hxs]
            omega))
          gi_wp2_with (refine inV rfl (by intro c h; cases h) rfl (itV x.1.1 x.1.2) (exec_load_any _ (.tmp 7) rfl B7 0 (itR x.1.1 x.1.2) _ rfl RX.out Try.underlying44 rfl (it_infoC x.2 _)) ?_)
          refine ⟨fun h => (by cases h), RoundIn.mono (F := Fence.wide.inRound l') hR ?_⟩
          clear hR hy
          rintro e V2 ⟨hkf, (⟨rfl, hJ2, hk2⟩ | ⟨rfl, hJx2⟩)⟩
          · have hD2 : ∀ D ∈ Ds, V2.heap[D]? = some (.deferred (some [])) := fun D hD => hkf.same D _ (by have := (hD5 D hD).1; omega) (hDv D hD) rfl
            have hs2 := hsv.ki hk2
            rw [List.append_assoc] at hJ2
            clear cy RX hx7 hsv hJv hDv
            gi_wp2
            exact ⟨keeps_less hkf (by omega), hk2, hD2, hJ2, hs2⟩
          · have hD2 : ∀ D ∈ Ds, V2.heap[D]? = some (.deferred (some [])) := fun D hD => hkf.same D _ (by have := (hD5 D hD).1; omega) (hDv D hD) rfl
            rw [List.append_assoc] at hJx2
            clear cy RX hx7 hsv hJv hDv
            gi_wp2
            exact ⟨keeps_less hkf (by omega), rfl, hD2, hJx2⟩
        · rintro D ys V hD hS ⟨hDv, hJv, hsv⟩ hK
          gi_wp2
          refine ⟨⟨i + 1, D :: Ds, xs ++ ys, _, _, _, _, _, _, _, _, _, _, _, _, _, by omega, ?_, hJv, hsv, List.nodup_cons.2 ⟨fun h => ?_, hnd⟩, fun E hE => ?_, by (try simp only [marks, List.map_cons]); rfl⟩, ?_⟩
          · unfold itemsT at hxs hS ⊢
            rw [List.map_append, hxs, hS, hpart, List.append_assoc]
          · have := (hD5 D h).2.1
            omega
          · rcases List.mem_cons.1 hE with rfl | hE
            · exact ⟨by omega, hK⟩
            · exact ⟨(hD5 E hE).1, hDv E hE⟩
          · simp [intOf9]; omega
        · rintro D c ys V hD hSp ⟨rfl, hDv, hJxv⟩ hK
          have hpf : itemsT (xs ++ ys) <+: ownN d ++ (l0 ++ l1) := by
            unfold itemsT at hxs hSp ⊢
            rw [List.map_append, hxs, List.append_assoc]
            refine (List.prefix_append_right_inj _).2 ?_
            refine List.IsPrefix.trans ((List.prefix_append_right_inj _).2 hSp) ?_
            rw [← hpart]
            match i, hi with
            | 0, _ => exact List.prefix_append _ _
            | 1, _ => exact List.prefix_rfl
          have hnd2 : (D :: Ds).Nodup := List.nodup_cons.2 ⟨fun h => (by have := (hD5 D h).2.1; omega), hnd⟩
          have hDD : ∀ E ∈ D :: Ds, W.heap.size ≤ E ∧ V.heap[E]? = some (.deferred (some [])) := fun E hE => by
            rcases List.mem_cons.1 hE with rfl | hE
            · exact ⟨by omega, hK⟩
            · exact ⟨(hD5 E hE).1, hDv E hE⟩
          gi_wp2
          exact leaves_marks _ (fun W => results_none rfl _ _ _) W.heap.size (fun V => Jx (xs ++ ys) V) (fun V hV => ⟨⟨_, rfl⟩, .inr ⟨xs ++ ys, hpf, hV⟩⟩) (fun _ U V row h1 h2 h3 => hJx _ U V row h1 h2 h3) (D :: Ds) _ hnd2 hDD hJxv
      | true =>
        rw [hh] at c19
        have hcy := cy
        obtain ⟨fn, tmps, assign, body, hy, hR⟩ := hY [] ⟨(d.p, d.v), HD.out⟩ W3 hJ3 (by
          unfold ownN; rw [hh]; simp)
        dsimp only at hy
        gi_wp2_with (refine inV rfl (by intro c h; cases h) rfl (itV d.p d.v) (exec_load_any _ (.tmp 21) rfl W2.heap.size 0 (itR d.p d.v) _ rfl HI.out Try.underlying44 rfl (it_infoC HD.out d.v)) ?_)
        refine ⟨fun h => (by cases h), hR.mono ?_⟩
        clear hR hy
        rintro e W4 ⟨hkf, (⟨rfl, hJ4, hk4⟩ | ⟨rfl, hJx4⟩)⟩
        · have hst4 := hst3.ki hk4
          have hN4 := hN3.ki hk4 (by decide) (by decide)
          have HK4 := Lib.hid (hN4.range 20 [.int .i64 (d.k0 : Int), .int .i64 (d.k1 : Int)] (nd_kids HD.out))
          have hx0 : itemsT [⟨(d.p, d.v), HD.out⟩] = ownN d ++ partN l0 l1 0 := by unfold ownN; rw [hh]; rfl
          simp only [List.nil_append] at hJ4
          clear hN3 hN4 HI HK2 cy hcy hst3 hJ3 c19 hkf hk4
          gi_wp2_with (refine inV rfl (by intro c h; cases h) rfl (.agg #[.int .i64 (d.k0 : Int), .int .i64 (d.k1 : Int)]) (exec_load_any _ (.tmp 26) rfl W2.heap.size 20 [.int .i64 (d.k0 : Int), .int .i64 (d.k1 : Int)] _ rfl HK4.out Try.underlying109 rfl (by kernel_rfl)) ?_; refine Hid.out ?_)
          refine Lib.hid ?_
          gi_wp2
          refine wpIn_loop (fun a' w' => ∃ (i : Nat) (Ds : List Nat) (xs : List It) (u6 u7 u29 u30 u31 u32 u33 u34 u35 u36 u37 u38 u39 : Value), i ≤ 2 ∧ itemsT xs = ownN d ++ partN l0 l1 i ∧ J xs w' ∧ StB X g T gn cap vf Bt W.heap.size l w' ∧ Ds.Nodup ∧ (∀ D ∈ Ds, W.heap.size ≤ D ∧ w'.heap[D]? = some (.deferred (some []))) ∧
            a' = { tmps := #[.func (.yield l) #[] #[], .pointer (some ⟨Bn, 0, none⟩), .pointer (some ⟨Bt, 0, none⟩), .pointer (some ⟨W.heap.size, 0, none⟩), .pointer (some ⟨W2.heap.size, 0, none⟩), undef, u6, u7, .int .i64 (n : Int), .bool false, .pointer (some ⟨g, 0, none⟩), .pointer (some ⟨g, 0, none⟩), .pointer (some ⟨g, 4, none⟩), .slice (some ⟨gn, 0, none⟩) T.nds.length cap, .int .i64 (n : Int), .pointer (some ⟨gn, n * 22, none⟩), d.val, .pointer (some ⟨W2.heap.size, 19, none⟩), .bool true, .bool true, .func (.yield l) #[] #[], .pointer (some ⟨W2.heap.size, 0, none⟩), itV d.p d.v, .bool true, .bool false, .bool false, .pointer (some ⟨W2.heap.size, 20, none⟩), .agg #[.int .i64 (d.k0 : Int), .int .i64 (d.k1 : Int)], .int .i64 (i : Int), u29, u30, u31, u32, u33, u34, u35, u36, u37, u38, u39], defers := marks Ds })
            (fun a' _ => 2 - intOf9 (a'.tmps.getD 28 undef)) ⟨0, [], [⟨(d.p, d.v), HD.out⟩], _, _, _, _, _, _, _, _, _, _, _, _, _, by omega, hx0, hJ4, hst4, List.nodup_nil, fun _ h => (by cases h), rfl⟩ ?_
          rintro a' w' ⟨i, Ds, xs, u6, u7, u29, u30, u31, u32, u33, u34, u35, u36, u37, u38, u39, hi2, hxs, hJi, hsti, hnd, hDs, rfl⟩
          clear hst4 hJ4 hx0
          by_cases hie : i = 2
          · subst hie
            gi_wp2
            refine leaves_marks _ (fun W => results_none rfl _ _ _) W.heap.size (fun V => J xs V) (fun V hV => ⟨⟨_, rfl⟩, .inl ⟨xs, by rw [hxs]; rfl, hV⟩⟩) (fun _ U V row h1 h2 h3 => hJ xs U V row h1 h2 h3) Ds _ hnd hDs hJi
          have hi : i < 2 := by omega
          have hib : (i : Int) < 2 := by omega
          have ct : w'.cell? ⟨Bt, 0, none⟩ = some (.pointer (some ⟨g, 0, none⟩)) := by rw [hsti.bt.cell]; rfl
          have hkid : ∃ li, belowN f T.nds (kidN d i) = some li ∧ partN l0 l1 (i + 1) = partN l0 l1 i ++ li := by
            match i, hi with
            | 0, _ => exact ⟨l0, hl0, by simp [partN]⟩
            | 1, _ => exact ⟨l1, hl1, rfl⟩
          obtain ⟨li, hli, hpart⟩ := hkid
          have hplen : (ownN d ++ partN l0 l1 i).length + li.length ≤ (ownN d ++ (l0 ++ l1)).length := by
            match i, hi with
            | 0, _ => cases (show some l0 = some li from hl0.symm.trans hli); simp [partN]
            | 1, _ => cases (show some l1 = some li from hl1.symm.trans hli); simp [partN]; omega
          have HST := Lib.hid hsti
          have HJI := Lib.hid hJi
          have HDS := Lib.hid hDs
          have hWw : W.heap.size < w'.heap.size := hsti.by_.lt
          clear hsti hJi hDs
          gi_wp2_with (first
            | (refine inV rfl (by intro c h; cases h) rfl (.int .i64 ((kidN d i : Nat) : Int)) (exec_index2 (.tmp 27) (.tmp 28) rfl d i hi rfl rfl) ?_)
            | (refine ⟨trivial, fun h => (by cases h), ?_⟩; refine (below_in _ (kidN d i) g _).mono ?_; rintro e w5 ⟨rfl, rfl⟩; refine Hid.out ?_))
          refine Lib.hid ?_
          have hbb : Below w'.heap.size w' ((w'.alloc (.cells #[.pointer (some ⟨g, 0, none⟩)] 66)).alloc (.cells #[.int .i64 ((kidN d i : Nat) : Int)] 3)) := ((Below.refl _ _).alloc (Nat.le_refl _) _).alloc (by simp) _
          have hab := twoB_new w' 66 3 [.pointer (some ⟨g, 0, none⟩)] [.int .i64 ((kidN d i : Nat) : Int)]
          have hst5 := HST.out.up hbb
          have hJ5 := hJ _ _ _ none HJI.out (grown_of_below9 hbb) (fun r e => by cases e)
          have hD5 : ∀ D ∈ Ds, W.heap.size ≤ D ∧ D < w'.heap.size ∧ ((w'.alloc (.cells #[.pointer (some ⟨g, 0, none⟩)] 66)).alloc (.cells #[.int .i64 ((kidN d i : Nat) : Int)] 3)).heap[D]? = some (.deferred (some [])) := fun D hD => by
            have := HDS.out D hD
            have hlt := (Array.getElem?_eq_some_iff.1 this.2).1
            exact ⟨this.1, hlt, (hbb.block D hlt).trans this.2⟩
          have hsz5 : ((w'.alloc (.cells #[.pointer (some ⟨g, 0, none⟩)] 66)).alloc (.cells #[.int .i64 ((kidN d i : Nat) : Int)] 3)).heap.size = w'.heap.size + 2 := by simp
          clear HST HJI HDS hbb ct
          generalize (w'.alloc (.cells #[.pointer (some ⟨g, 0, none⟩)] 66)).alloc (.cells #[.int .i64 ((kidN d i : Nat) : Int)] 3) = W5 at *
          gi_wp2
          refine wp_range (gf := 75) (lb := #[.pointer (some ⟨w'.heap.size + 1, 0, none⟩), .pointer (some ⟨w'.heap.size, 0, none⟩)]) rfl (enters_of Try.func75 (by kernel_rfl) rfl)
            (below_seq X g T f (kidN d i) li hli (m - 1) W5 (w'.heap.size + 1) w'.heap.size ⟨_, _, _, hst5.tab⟩ hab.2.1 hab.1) (fun h k => h.trans k) (fun W l o o' h1 h2 => KpI.put W l o o' h1 h2) (by rfl)
            (fun ys V => (∀ D ∈ Ds, V.heap[D]? = some (.deferred (some []))) ∧ J (xs ++ ys) V ∧ StB X g T gn cap vf Bt W.heap.size l V)
            (fun c ys V => c = .ret ∧ (∀ D ∈ Ds, V.heap[D]? = some (.deferred (some []))) ∧ Jx (xs ++ ys) V)
            (fun s U V row h1 h2 h3 => ⟨fun D hD => heap_own (B := W5.heap.size) (by have := (hD5 D hD).2.1; omega) (h1.1 D hD) h2 (fun r e => (h3 r e).1), hJ _ U V row h1.2.1 h2 (fun r e => ⟨by have := (h3 r e).1; omega, (h3 r e).2⟩), h1.2.2.from h2 h3⟩)
            (fun c s U V row h1 h2 h3 => ⟨h1.1, fun D hD => heap_own (B := W5.heap.size) (by have := (hD5 D hD).2.1; omega) (h1.2.1 D hD) h2 (fun r e => (h3 r e).1), hJx _ U V row h1.2.2 h2 (fun r e => ⟨by have := (h3 r e).1; omega, (h3 r e).2⟩)⟩)
            ⟨fun D hD => (hD5 D hD).2.2, by rw [List.append_nil]; exact hJ5, hst5⟩
            (fun x a' V => ∃ B7, Bx V B7 44 (itR x.1.1 x.1.2) ∧ a' = { tmps := #[.func (.yield l) #[] #[], .pointer (some ⟨Bn, 0, none⟩), .pointer (some ⟨Bt, 0, none⟩), .pointer (some ⟨W.heap.size, 0, none⟩), .pointer (some ⟨W2.heap.size, 0, none⟩), undef, .int .i64 ((kidN d i : Nat) : Int), .pointer (some ⟨B7, 0, none⟩), .int .i64 (n : Int), .bool false, .pointer (some ⟨g, 0, none⟩), .pointer (some ⟨g, 0, none⟩), .pointer (some ⟨g, 4, none⟩), .slice (some ⟨gn, 0, none⟩) T.nds.length cap, .int .i64 (n : Int), .pointer (some ⟨gn, n * 22, none⟩), d.val, .pointer (some ⟨W2.heap.size, 19, none⟩), .bool true, .bool true, .func (.yield l) #[] #[], .pointer (some ⟨W2.heap.size, 0, none⟩), itV d.p d.v, .bool true, .bool false, .bool false, .pointer (some ⟨W2.heap.size, 20, none⟩), .agg #[.int .i64 (d.k0 : Int), .int .i64 (d.k1 : Int)], .int .i64 (i : Int), .bool true, .int .i64 ((kidN d i : Nat) : Int), .pointer (some ⟨g, 0, none⟩), .int .i64 ((kidN d i : Nat) : Int), .func (.func 75) #[] #[.pointer (some ⟨w'.heap.size + 1, 0, none⟩), .pointer (some ⟨w'.heap.size, 0, none⟩)], itV x.1.1 x.1.2, u35, u36, u37, u38, u39], defers := [] })
            (fun x a' s U V row h1 h2 h3 => by obtain ⟨B7, e2, e3⟩ := h1; exact ⟨B7, bx_from e2 h2 h3, e3⟩)
            ?_ ?_ ?_ ?_
          · rintro l' pre x V K ⟨hDv, hJv, hsv⟩ hK
            have hbb : Below V.heap.size V (V.alloc (.cells (itR x.1.1 x.1.2).toArray 44)) := (Below.refl _ _).alloc (Nat.le_refl _) _
            gi_wp2_with (refine inS rfl (by intro c h; cases h) rfl (exec_store_fresh _ (.tmp 7) (.tmp 34) rfl (itR x.1.1 x.1.2) _ V.heap.size rfl rfl rfl (it_infoC x.2 _) (by rw [it_len x.2]; rfl) (it_one _ _)) ?_; refine Hid.out ?_)
            refine Lib.hid ?_
            gi_wp2
            exact hK _ _ ((KeepsOthers.alloc _ _).from _) (KpI.below hbb) ⟨fun D hD => (Below.heap_alloc _ _ _ (Array.getElem?_eq_some_iff.1 (hDv D hD)).1).trans (hDv D hD), hJ _ _ _ none hJv (grown_of_below9 hbb) (fun r e => by cases e), hsv.up hbb⟩ ⟨V.heap.size, Bx.new V _ _, rfl⟩
          · rintro l' pre x a' V hl' ⟨hDv, hJv, hsv⟩ ⟨B7, hx7, rfl⟩ hlt
            have RX := Lib.hid (rangeAll hx7)
            have cy : V.cell? ⟨W.heap.size, 0, none⟩ = some (.func (.yield l) #[] #[]) := by rw [hsv.by_.cell]; rfl
            obtain ⟨fn, tmps, assign, body, hy, hR⟩ := YieldAt.deep (m - 1 - 1 - 1) (hY (xs ++ pre) x V hJv (by
              rw [List.length_append, show xs.length = (itemsT xs).length by simp [itemsT], hxs]
              omega))
            gi_wp2_with (refine inV rfl (by intro c h; cases h) rfl (itV x.1.1 x.1.2) (exec_load_any _ (.tmp 7) rfl B7 0 (itR x.1.1 x.1.2) _ rfl RX.out Try.underlying44 rfl (it_infoC x.2 _)) ?_)
            refine ⟨fun h => (by cases h), RoundIn.mono (F := Fence.wide.inRound l') hR ?_⟩
            clear hR hy
            rintro e V2 ⟨hkf, (⟨rfl, hJ2, hk2⟩ | ⟨rfl, hJx2⟩)⟩
            · have hD2 : ∀ D ∈ Ds, V2.heap[D]? = some (.deferred (some [])) := fun D hD => hkf.same D _ (by have := (hD5 D hD).1; omega) (hDv D hD) rfl
              have hs2 := hsv.ki hk2
              rw [List.append_assoc] at hJ2
              clear cy RX hx7 hsv hJv hDv
              gi_wp2
              exact ⟨keeps_less hkf (by omega), hk2, hD2, hJ2, hs2⟩
            · have hD2 : ∀ D ∈ Ds, V2.heap[D]? = some (.deferred (some [])) := fun D hD => hkf.same D _ (by have := (hD5 D hD).1; omega) (hDv D hD) rfl
              rw [List.append_assoc] at hJx2
              clear cy RX hx7 hsv hJv hDv
              gi_wp2
              exact ⟨keeps_less hkf (by omega), rfl, hD2, hJx2⟩
          · rintro D ys V hD hS ⟨hDv, hJv, hsv⟩ hK
            gi_wp2
            refine ⟨⟨i + 1, D :: Ds, xs ++ ys, _, _, _, _, _, _, _, _, _, _, _, _, _, by omega, ?_, hJv, hsv, List.nodup_cons.2 ⟨fun h => ?_, hnd⟩, fun E hE => ?_, by (try simp only [marks, List.map_cons]); rfl⟩, ?_⟩
            · unfold itemsT at hxs hS ⊢
              rw [List.map_append, hxs, hS, hpart, List.append_assoc]
            · have := (hD5 D h).2.1
              omega
            · rcases List.mem_cons.1 hE with rfl | hE
              · exact ⟨by omega, hK⟩
              · exact ⟨(hD5 E hE).1, hDv E hE⟩
            · simp [intOf9]; omega
          · rintro D c ys V hD hSp ⟨rfl, hDv, hJxv⟩ hK
            have hpf : itemsT (xs ++ ys) <+: ownN d ++ (l0 ++ l1) := by
              unfold itemsT at hxs hSp ⊢
              rw [List.map_append, hxs, List.append_assoc]
              refine (List.prefix_append_right_inj _).2 ?_
              refine List.IsPrefix.trans ((List.prefix_append_right_inj _).2 hSp) ?_
              rw [← hpart]
              match i, hi with
              | 0, _ => exact List.prefix_append _ _
              | 1, _ => exact List.prefix_rfl
            have hnd2 : (D :: Ds).Nodup := List.nodup_cons.2 ⟨fun h => (by have := (hD5 D h).2.1; omega), hnd⟩
            have hDD : ∀ E ∈ D :: Ds, W.heap.size ≤ E ∧ V.heap[E]? = some (.deferred (some [])) := fun E hE => by
              rcases List.mem_cons.1 hE with rfl | hE
              · exact ⟨by omega, hK⟩
              · exact ⟨(hD5 E hE).1, hDv E hE⟩
            gi_wp2
            exact leaves_marks _ (fun W => results_none rfl _ _ _) W.heap.size (fun V => Jx (xs ++ ys) V) (fun V hV => ⟨⟨_, rfl⟩, .inr ⟨xs ++ ys, hpf, hV⟩⟩) (fun _ U V row h1 h2 h3 => hJx _ U V row h1 h2 h3) (D :: Ds) _ hnd2 hDD hJxv
        · gi_wp2
          exact ⟨_, results_none rfl _ _ _, ⟨_, rfl⟩, .inr ⟨[⟨(d.p, d.v), HD.out⟩], by unfold ownN; rw [hh]; simp [itemsT], hJx4⟩⟩
end Go.Proofs.Ytgimcapcnidjjaa
