/- A range over a function whose iterator ranges over functions itself: the caller's side, for iterators that turn records of loops of their own, and rounds that keep the records of the loops behind theirs. Of no program's own functions. -/
import Derived.Test.YtecefdocemkliaaT9k
namespace Go.Proofs.Ytecefdocemkliaa
open Go Go.RowKit Go.Shelf
attribute [local go_sem] Oper.semAt_some

theorem room_wide (k : Nat) : Fence.wide.room k := fun d h => by cases h
theorem YieldAt.deep {m : Nat} (m' : Nat) {l : Nat} {args : Array Value} {W : World} {R : Ending → World → Prop} (h : YieldAt Fence.wide m Try.prog l args W R) : YieldAt Fence.wide m' Try.prog l args W R := by
  obtain ⟨fn, tmps, assign, body, hy, h1, h2⟩ := h
  exact ⟨fn, tmps, assign, body, hy, h1, fun c cs _ => h2 c cs (room_wide _)⟩
/-- An iterator: for every loop whose rounds keep what Kp says, and the records behind the loop's own. -/
def SeqZ (n gf : Nat) (lb : Array Value) (Kp : World → World → Prop) (S Sp : List It → Prop) (N : Nat) (w : World) : Prop :=
  ∀ (l : Nat) (J Jx : List It → World → Prop) (W : World), l < W.heap.size → Below w.heap.size w W → OwnFrom W.heap.size J → OwnFrom W.heap.size Jx →
    (∀ pre x W1, J pre W1 → pre.length < N → YieldAt Fence.wide (n - 1) Try.prog l #[itV x.1.1 x.1.2] W1 fun e W' => KeepsFrom (l + 1) W1 W' ∧
      ((e = .returned (.bool true) ∧ J (pre ++ [x]) W' ∧ Kp W1 W') ∨ (e = .returned (.bool false) ∧ Jx (pre ++ [x]) W'))) →
    J [] W →
    CallsIn Fence.wide n Try.prog gf (#[.func (.yield l) #[] #[]] ++ lb) W fun e W' => (∃ v, e = .returned v) ∧ ((∃ xs, S xs ∧ J xs W') ∨ (∃ pre, Sp pre ∧ Jx pre W'))
theorem keeps_put {B : Nat} (W : World) (l : Nat) (o : Obj) (hl : l < B) : KeepsFrom B W (W.putObj l o) := ⟨by simp, fun k _ hB hk _ => (World.putObj_heap_other (by omega)).trans hk⟩
theorem keeps_trans {B : Nat} {U V W : World} (h : KeepsFrom B U V) (k : KeepsFrom B V W) : KeepsFrom B U W := ⟨Nat.le_trans h.size k.size, fun i o hB hi hc => k.same i o hB (h.same i o hB hi hc) hc⟩
theorem keeps_less {B B' : Nat} {U V : World} (h : KeepsFrom B U V) (hB : B ≤ B') : KeepsFrom B' U V := ⟨h.size, fun i o hi => h.same i o (Nat.le_trans hB hi)⟩
theorem heap_own {X Y : World} {row : Option Nat} {B k : Nat} (hk : k < B) {o : Obj} (h : X.heap[k]? = some o) (hg : X.grownBy Y row) (hr : ∀ r, row = some r → B ≤ r) : Y.heap[k]? = some o :=
  (hg.block k (Array.getElem?_eq_some_iff.1 h).1 (fun e => by have := hr k e.symm; omega)).trans h
set_option maxHeartbeats 1000000 in
theorem wp_range {gop : Operand} {ps : Array Tmp} {assign body : Code} {Q : Exit → Act → World → Prop} {a : Act} {w : World} {n : Nat} {gf : Nat} {lb : Array Value} (hg : a.eval gop = .func (.func gf) #[] lb)
    (eg : ∀ args w, (callFunc gf args).run Try.prog w = .ok (.enter gf args) w) {Kp : World → World → Prop} {S Sp : List It → Prop} {N : Nat} (hseq : SeqZ (n - 1) gf lb Kp S Sp N w) (hKt : ∀ {A B C : World}, Kp A B → Kp B C → Kp A C) (hKp : ∀ (W : World) (l : Nat) (o o' : Obj), W.heap[l]? = some o → o.isCells = false → Kp W (W.putObj l o')) (hps : ps.size = 1)
    (I : List It → World → Prop) (Ix : Code → List It → World → Prop) (hI : OwnFrom w.heap.size I) (hIx : ∀ c, OwnFrom w.heap.size (Ix c)) (h0 : I [] w) (Ax : It → Act → World → Prop) (hAx : ∀ x a', OwnFrom w.heap.size (fun (_ : Unit) W => Ax x a' W))
    (hassign : ∀ (l : Nat) (pre : List It) (x : It) (W : World) (K : Act → World → Prop), I pre W → (∀ a' W', KeepsFrom w.heap.size W W' → Kp W W' → I pre W' → Ax x a' W' → K a' W') →
      assign.wpIn (Fence.wide.inRound l) (n - 1 - 1) Try.prog (Exit.then K (fun _ _ _ => False)) { tmps := (ps.zip #[itV x.1.1 x.1.2]).foldl (fun t (p, v) => t.setIfInBounds p v) a.tmps, defers := [] } W)
    (hbody : ∀ (l : Nat) (pre : List It) (x : It) (a' : Act) (W : World), w.heap.size ≤ l → I pre W → Ax x a' W → pre.length < N → body.wpIn (Fence.wide.inRound l) (n - 1 - 1) Try.prog (ownPostG w.heap.size Kp I Ix (pre ++ [x]) W) a' W)
    (hdone : ∀ (D : Nat) (xs : List It) (W : World), w.heap.size ≤ D → S xs → I xs W → W.heap[D]? = some (.deferred (some [])) → Q .normal { a with defers := { target := .collected D, args := #[] } :: a.defers } W)
    (hstop : ∀ (D : Nat) (c : Code) (pre : List It) (W : World), w.heap.size ≤ D → Sp pre → Ix c pre W → W.heap[D]? = some (.deferred (some [])) → c.wpIn Fence.wide n Try.prog Q { a with defers := { target := .collected D, args := #[] } :: a.defers } W) :
    (Code.rangeFunc gop ps assign body).wpIn Fence.wide n Try.prog Q a w := by
  refine wpIn_rangeFunc (fun fn hfn => ?_)
  -- the record, in each of its states
  obtain ⟨rec, hrec⟩ : ∃ rec : LoopState → Option Code → Loop, ∀ st pe, rec st pe = { state := st, pending := pe, fn := fn, tmps := a.tmps, params := ps, assign := assign, body := body, defers := w.heap.size } := ⟨fun st pe => _, fun _ _ => rfl⟩
  obtain ⟨V, hV⟩ : ∃ V, V = (w.alloc (.deferred (some []))).alloc (.loop (rec .ready none)) := ⟨_, rfl⟩
  have vsz : V.heap.size = w.heap.size + 2 := by rw [hV]; simp
  have vL : V.heap[w.heap.size + 1]? = some (.loop (rec .ready none)) := by
    have := World.alloc_heap_new (w.alloc (.deferred (some []))) (.loop (rec .ready none))
    rw [World.size_alloc] at this
    rw [hV]; exact this
  have vD : V.heap[w.heap.size]? = some (.deferred (some [])) := by
    rw [hV]; exact (Below.heap_alloc _ _ _ (by simp)).trans (World.alloc_heap_new w _)
  have vB : Below w.heap.size w V := by rw [hV]; exact ((Below.refl _ w).alloc (Nat.le_refl _) _).alloc (by simp) _
  have vI : I [] V := by rw [hV]; exact hI.alloc _ (hI.alloc _ h0)
  refine ⟨w.heap.size + 1, [{ target := .collected w.heap.size, args := #[] }], V, { target := .fn (.func gf) lb, args := #[.func (.yield (w.heap.size + 1)) #[] #[]] }, V, gf, #[.func (.yield (w.heap.size + 1)) #[] #[]] ++ lb, V, ?_, ?_, ?_, ?_, fun h => (by cases h), ?_⟩
  · rw [hV, hrec]; exact run_enterLoop_outer _ _ _ _ _
  · simp only [resolve, hg]; simp [go_sem]
  · intro f' hf'; exact trivial
  · simp [invoke, go_sem, eg]
  have own2 : ∀ {J : List It → World → Prop} {st : LoopState} {pe : Option Code}, OwnFrom w.heap.size J → OwnFrom V.heap.size (fun pre W => J pre W ∧ W.heap[w.heap.size + 1]? = some (.loop (rec st pe)) ∧ W.heap[w.heap.size]? = some (.deferred (some []))) := by
    intro J st pe hJ s A B row hs hgr hr
    refine ⟨hJ s A B row hs.1 hgr (fun r e => ⟨by have := (hr r e).1; omega, (hr r e).2⟩), heap_own (by omega) hs.2.1 hgr (fun r e => (hr r e).1), heap_own (by omega) hs.2.2 hgr (fun r e => (hr r e).1)⟩
  refine (hseq (w.heap.size + 1) (fun pre W => I pre W ∧ W.heap[w.heap.size + 1]? = some (.loop (rec .ready none)) ∧ W.heap[w.heap.size]? = some (.deferred (some [])))
    (fun pre W => ∃ c, Ix c pre W ∧ W.heap[w.heap.size + 1]? = some (.loop (rec .done (some c))) ∧ W.heap[w.heap.size]? = some (.deferred (some []))) V (by omega) vB (own2 hI)
    (fun s A B row hs hgr hr => by obtain ⟨c, hc⟩ := hs; exact ⟨c, own2 (hIx c) s A B row hc hgr hr⟩) ?_ ⟨vI, vL, vD⟩).mono ?_
  · -- one round
    rintro pre x W ⟨hi, hl, hk⟩ hlen
    have hy := run_yield (P := Try.prog) (args := #[itV x.1.1 x.1.2]) hl (by rw [hrec]; exact hps.symm)
    rw [hrec] at hy
    refine ⟨fn, _, assign, body, hy, roundIn_of_wpIn hfn (hassign _ pre x W _ hi ?_)⟩
    clear hy
    intro a' U kfU kpU iU axU
    have lU := kfU.same _ _ (by omega) hl rfl
    have dU := kfU.same _ _ (Nat.le_refl _) hk rfl
    have ltU : w.heap.size + 1 < U.heap.size := (Array.getElem?_eq_some_iff.1 lU).1
    refine ⟨_, run_beginRound lU (by rw [hrec]), ?_⟩
    -- the record is busy
    have lB : (U.putObj (w.heap.size + 1) (.loop { rec .ready none with state := .busy })).heap[w.heap.size + 1]? = some (.loop { rec .ready none with state := .busy }) := World.putObj_heap_same ltU
    have dB : (U.putObj (w.heap.size + 1) (.loop { rec .ready none with state := .busy })).heap[w.heap.size]? = some (.deferred (some [])) := (World.putObj_heap_other (by omega)).trans dU
    have kB : KeepsFrom (w.heap.size + 1 + 1) W (U.putObj (w.heap.size + 1) (.loop { rec .ready none with state := .busy })) := keeps_trans (keeps_less kfU (by omega)) (keeps_put U _ _ (by omega))
    refine wpIn_mono (hbody _ pre x a' _ (by omega) (hI.putObj _ iU (by omega) lU rfl) ((hAx x a').putObj (s := ()) _ axU (by omega) lU rfl) hlen) ?_
    have fin : ∀ (jump : Option Code) (Z : World), KeepsFrom w.heap.size (U.putObj (w.heap.size + 1) (.loop { rec .ready none with state := .busy })) Z →
        ∃ Y, (Instr.endRound (w.heap.size + 1) jump).run Try.prog Z = .ok (.bool jump.isNone) Y ∧ Y = Z.putObj (w.heap.size + 1) (.loop (rec (if jump.isNone then .ready else .done) jump)) ∧ Z.heap[w.heap.size + 1]? = some (.loop { rec .ready none with state := .busy }) ∧
          Y.heap[w.heap.size + 1]? = some (.loop (rec (if jump.isNone then .ready else .done) jump)) ∧ Y.heap[w.heap.size]? = some (.deferred (some [])) ∧ KeepsFrom (w.heap.size + 1 + 1) W Y := by
      intro jump Z kZ
      have lZ := kZ.same _ _ (by omega) lB rfl
      have dZ := kZ.same _ _ (Nat.le_refl _) dB rfl
      have := run_endRound (P := Try.prog) jump lZ
      rw [hrec] at this
      refine ⟨_, by rw [hrec]; exact this, rfl, lZ, World.putObj_heap_same (Array.getElem?_eq_some_iff.1 lZ).1, (World.putObj_heap_other (by omega)).trans dZ, keeps_trans kB (keeps_trans (keeps_less kZ (by omega)) (keeps_put Z _ _ (by omega)))⟩
    rintro e a3 Z hp
    have out : ∀ (c : Code), KeepsFrom w.heap.size (U.putObj (w.heap.size + 1) (.loop { rec .ready none with state := .busy })) Z → Ix c (pre ++ [x]) Z → ∃ v Y, (Instr.endRound (w.heap.size + 1) (some c)).run Try.prog Z = .ok v Y ∧ (KeepsFrom (w.heap.size + 1 + 1) W Y ∧
        ((Ending.returned v = .returned (.bool true) ∧ (I (pre ++ [x]) Y ∧ Y.heap[w.heap.size + 1]? = some (.loop (rec .ready none)) ∧ Y.heap[w.heap.size]? = some (.deferred (some []))) ∧ Kp W Y) ∨
         (Ending.returned v = .returned (.bool false) ∧ ∃ c, Ix c (pre ++ [x]) Y ∧ Y.heap[w.heap.size + 1]? = some (.loop (rec .done (some c))) ∧ Y.heap[w.heap.size]? = some (.deferred (some []))))) := by
      intro c kZ hx
      obtain ⟨Y, r1, rfl, r2, r3, r4, r5⟩ := fin (some c) Z kZ
      exact ⟨_, _, r1, r5, .inr ⟨rfl, c, (hIx c).putObj _ hx (by omega) r2 rfl, r3, r4⟩⟩
    cases e with
    | normal =>
      obtain ⟨kZ, kpZ, iZ⟩ := hp
      obtain ⟨Y, r1, rfl, r2, r3, r4, r5⟩ := fin none Z kZ
      exact ⟨_, _, r1, r5, .inl ⟨rfl, ⟨hI.putObj _ iZ (by omega) r2 rfl, r3, r4⟩, hKt (hKt (hKt kpU (hKp U _ _ _ lU rfl)) kpZ) (hKp Z _ _ _ r2 rfl)⟩⟩
    | ret => exact out .ret hp.1 hp.2
    | exit id => exact out (.exit id) hp.1 hp.2
    | goto t => exact out (.goto t) hp.1 hp.2
    | panic ch => exact hp.elim
    | outgrown => exact hp.elim
  · -- behind the iterator
    rintro e Z ⟨⟨v, rfl⟩, (⟨xs, hS, hi, hl, hk⟩ | ⟨pre, hSp, c, hi, hl, hk⟩)⟩
    · have := run_endLoop (P := Try.prog) hl (by rw [hrec]; simp)
      rw [hrec] at this
      exact ⟨none, _, this, hdone _ xs _ (Nat.le_refl _) hS (hI.putObj _ hi (by omega) hl rfl) ((World.putObj_heap_other (by omega)).trans hk)⟩
    · have := run_endLoop (P := Try.prog) hl (by rw [hrec]; simp)
      rw [hrec] at this
      exact ⟨some c, _, this, hstop _ c pre _ (Nat.le_refl _) hSp ((hIx c).putObj _ hi (by omega) hl rfl) ((World.putObj_heap_other (by omega)).trans hk)⟩
end Go.Proofs.Ytecefdocemkliaa
