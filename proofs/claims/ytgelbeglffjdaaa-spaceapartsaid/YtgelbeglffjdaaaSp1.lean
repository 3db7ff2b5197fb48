/- Rows of labels in memory (package spans): a span by value, slices of spans; may, count; rows: those that may be, told one by one. -/
import Derived.Test.YtgelbeglffjdaaaBox
import Derived.Test.YtgelbeglffjdaaaPM11
import Derived.BigQuiet
namespace Go.Proofs.Ytgelbeglffjdaaa
open Go Go.RowKit Go.Shelf
attribute [local go_sem] Oper.semAt_some

def sR (s : Spn) : List Value := [.int .i64 s.f, .int .i64 s.l]
def sV (s : Spn) : Value := .agg (sR s).toArray
theorem sR_all (l : List Spn) : ∀ x ∈ l, (sR x).length = 2 := fun _ _ => rfl
theorem sR_one (s : Spn) : ∀ v ∈ sR s, v.oneCell' = true := by
  intro v h
  simp only [sR, List.mem_cons, List.not_mem_nil, or_false] at h
  rcases h with rfl | rfl <;> rfl
theorem sp_info : (Try.prog.info? 27).map (·.size) = some 2 := by kernel_rfl
theorem sp_infoF : (Try.prog.info? 27).map (fun i => (i.zero, i.size, i.bytes)) = some (some (sV ⟨0, 0⟩), 2, 16) := by kernel_rfl
/-- A slice of spans, as a list. -/
abbrev IsS (w : World) (v : Value) (l : List Spn) : Prop := IsC sR 2 w v l
theorem IsS.range {w : World} {b k n cap : Nat} {l : List Spn} (h : IsS w (.slice (some ⟨b, k, none⟩) n cap) l) (i : Nat) (x : Spn) (hx : l[i]? = some x) : w.rangeAt b (k + i * 2) (sR x) := by
  obtain ⟨rfl, _, _, h3⟩ := h.shape
  have hi := (List.getElem?_eq_some_iff.1 hx).1
  obtain ⟨b2, k2, e, _, hc⟩ := h3 (by omega)
  cases e
  exact flat_range (sR_all l) hc i x hx
theorem rng0 {w : World} {b k : Nat} {x : Spn} (h : w.rangeAt b k (sR x)) : w.cell? ⟨b, k, none⟩ = some (.int .i64 x.f) := h 0 _ rfl
theorem rng1 {w : World} {b k : Nat} {x : Spn} (h : w.rangeAt b k (sR x)) : w.cell? ⟨b, k + 1, none⟩ = some (.int .i64 x.l) := h 1 _ rfl

set_option maxRecDepth 100000 in
set_option maxHeartbeats 2000000 in
theorem may_any (s : Spn) (w : World) : Calls Try.prog 97 #[sV s] w fun e w' => e = .returned (.bool (mayB s)) ∧ Below w.heap.size w w' := by
  have HB := Lib.hid ((Below.refl w.heap.size w).alloc (Nat.le_refl _) (.cells (sR s).toArray 27))
  have hr := rangeAll (Bx.new w 27 (sR s))
  have c0 := rng0 hr
  have c1 := rng1 hr
  have HM := Lib.hid (show mayB s = decide (0 ≤ s.f ∧ s.f ≤ s.l ∧ s.l ≤ 1048575) from rfl)
  rw [show sV s = .agg (sR s).toArray from rfl]
  generalize mayB s = r at *
  clear hr
  go_enter Try.func97, Try.ntmps97
  go_wp2
  all_goals (go_ret; refine ⟨?_, HB.out⟩; rw [HM.out]; simp_all <;> omega)

set_option maxRecDepth 100000 in
set_option maxHeartbeats 2000000 in
theorem count_any (s : Spn) (w : World) (h : mayS s) : Calls Try.prog 81 #[sV s] w fun e w' => e = .returned (.int .i64 (s.l - s.f + 1)) ∧ Below w.heap.size w w' := by
  have HB := Lib.hid ((Below.refl w.heap.size w).alloc (Nat.le_refl _) (.cells (sR s).toArray 27))
  have hr := rangeAll (Bx.new w 27 (sR s))
  have c0 := rng0 hr
  have c1 := rng1 hr
  unfold mayS at h
  have k1 : IntKind.i64.wrap (s.l - s.f) = s.l - s.f := by simp [IntKind.wrap, IntKind.bits, IntKind.signed]; omega
  have k2 : IntKind.i64.wrap (s.l - s.f + 1) = s.l - s.f + 1 := by simp [IntKind.wrap, IntKind.bits, IntKind.signed]; omega
  rw [show sV s = .agg (sR s).toArray from rfl]
  clear hr h
  go_enter Try.func81, Try.ntmps81
  go_wp2
  go_ret
  exact ⟨by first | rfl | (congr 2; omega), HB.out⟩

/-! What a round keeps that gathers spans: all cells but rows of spans laid since, and the boxes of R. -/
def KpR (base : Nat) (R : Nat → Prop) (W W' : World) : Prop := W.heap.size ≤ W'.heap.size ∧ ∀ k c t z, ¬ R k → (k < base ∨ t ≠ 27) → W.heap[k]? = some (.cells c t z) → W'.heap[k]? = some (.cells c t z)
section
variable {base : Nat} {R : Nat → Prop}
theorem KpR.refl (W : World) : KpR base R W W := ⟨Nat.le_refl _, fun _ _ _ _ _ _ h => h⟩
theorem KpR.trans {A B C : World} (h : KpR base R A B) (k : KpR base R B C) : KpR base R A C := ⟨Nat.le_trans h.1 k.1, fun i c t z h1 h2 hi => k.2 i c t z h1 h2 (h.2 i c t z h1 h2 hi)⟩
theorem KpR.put (W : World) (l : Nat) (o o' : Obj) (h : W.heap[l]? = some o) (hc : o.isCells = false) : KpR base R W (W.putObj l o') := by
  refine ⟨by simp, fun k c t z _ _ hk => ?_⟩
  have hne : k ≠ l := fun e => by rw [e, h] at hk; cases hk; cases hc
  exact (World.putObj_heap_other hne).trans hk
theorem KpR.below {A B : World} (h : Below A.heap.size A B) : KpR base R A B := ⟨h.size, fun k _ _ _ _ _ hk => (h.block k (Array.getElem?_eq_some_iff.1 hk).1).trans hk⟩
theorem Bx.kr {W W' : World} {b : Nat} {t : TypeId} {l : List Value} (h : Bx W b t l) (hk : KpR base R W W') (h1 : ¬ R b) (h2 : t ≠ 27) : Bx W' b t l := hk.2 b _ _ _ h1 (.inr h2) h
theorem cell_kr {W W' : World} (hk : KpR base R W W') {b i : Nat} {v : Value} (h1 : ¬ R b) (h2 : b < base) (h : W.cell? ⟨b, i, none⟩ = some v) : W'.cell? ⟨b, i, none⟩ = some v := by
  unfold World.cell? at h ⊢
  cases ho : W.heap[b]? with
  | none => rw [ho] at h; cases h
  | some o =>
    rw [ho] at h
    cases o with
    | cells c t z => rw [hk.2 b c t z h1 (.inl h2) ho]; exact h
    | _ => cases h
/-- A slice of spans that lies below. -/
def IsD (base : Nat) (w : World) (v : Value) (l : List Spn) : Prop :=
  ∃ a cap, v = .slice a l.length cap ∧ l.length ≤ cap ∧ cap ≤ maxLen ∧ (0 < l.length → ∃ b k, a = some ⟨b, k, none⟩ ∧ b < base ∧ b < w.heap.size ∧ w.rangeAt b k (l.flatMap sR))
theorem IsS.isD {w : World} {v : Value} {l : List Spn} (h : IsS w v l) {base : Nat} (hb : w.heap.size ≤ base) : IsD base w v l := by
  obtain ⟨_, a, cap, h1, h2, h3, h4⟩ := h
  exact ⟨a, cap, h1, h2, h3, fun hp => by obtain ⟨b, k, e1, e2, e3⟩ := h4 hp; exact ⟨b, k, e1, by omega, e2, e3⟩⟩
theorem IsD.isS {w : World} {v : Value} {l : List Spn} (h : IsD base w v l) : IsS w v l := by
  obtain ⟨a, cap, h1, h2, h3, h4⟩ := h
  exact ⟨sR_all l, a, cap, h1, h2, h3, fun hp => by obtain ⟨b, k, e1, _, e2, e3⟩ := h4 hp; exact ⟨b, k, e1, e2, e3⟩⟩
theorem IsD.up {W W' : World} {v : Value} {l : List Spn} (h : IsD base W v l) (hb : Below W.heap.size W W') : IsD base W' v l := by
  obtain ⟨a, cap, h1, h2, h3, h4⟩ := h
  exact ⟨a, cap, h1, h2, h3, fun hp => by
    obtain ⟨b, k, e1, e0, e2, e3⟩ := h4 hp
    exact ⟨b, k, e1, e0, Nat.lt_of_lt_of_le e2 hb.size, fun j v hj => (hb.cell (p := ⟨b, k + j, none⟩) e2).trans (e3 j v hj)⟩⟩
theorem IsD.kr {W W' : World} {v : Value} {l : List Spn} (h : IsD base W v l) (hk : KpR base R W W') (hR : ∀ k, R k → base ≤ k) : IsD base W' v l := by
  obtain ⟨a, cap, h1, h2, h3, h4⟩ := h
  exact ⟨a, cap, h1, h2, h3, fun hp => by
    obtain ⟨b, k, e1, e0, e2, e3⟩ := h4 hp
    exact ⟨b, k, e1, e0, Nat.lt_of_lt_of_le e2 hk.1, fun j v hj => cell_kr hk (fun h => by have := hR b h; omega) e0 (e3 j v hj)⟩⟩
/-- It abides what a range over a function does by itself. -/
theorem IsD.from {X Y : World} {v : Value} {l : List Spn} (h : IsD base X v l) {row : Option Nat} {B : Nat} (hg : X.grownBy Y row) (hr : ∀ r, row = some r → B ≤ r ∧ ∃ o : Obj, X.heap[r]? = some o ∧ o.isCells = false) : IsD base Y v l := by
  obtain ⟨a, cap, h1, h2, h3, h4⟩ := h
  exact ⟨a, cap, h1, h2, h3, fun hp => by
    obtain ⟨b, k, e1, e0, e2, e3⟩ := h4 hp
    refine ⟨b, k, e1, e0, Nat.lt_of_lt_of_le e2 hg.size, fun j v hj => ?_⟩
    have hc := e3 j v hj
    exact cell_kept hc hg (fun r e => by obtain ⟨_, o, ho, hc⟩ := hr r e; exact ⟨o, ho, hc⟩)⟩
end
set_option maxHeartbeats 1000000 in
theorem rows_in (n : Nat) (a : Option Addr) (m cap : Nat) (w : World) :
    CallsIn Fence.wide n Try.prog 98 #[.slice a m cap] w fun e w' => e = .returned (.func (.func 121) #[] #[.pointer (some ⟨w.heap.size, 0, none⟩)]) ∧ w' = w.alloc (.cells #[.slice a m cap] 51) := by
  refine callsIn_of_wp Try.func98 rfl trivial ?_ rfl
  simp only [Try.ntmps98, List.size_toArray, List.length_cons, List.length_nil, Nat.reduceAdd, Nat.reduceSub, Array.replicate_succ, Array.replicate_zero, List.push_toArray, List.append_toArray, List.nil_append, List.cons_append]
  gi_wp2
  go_ret
  exact ⟨rfl, rfl⟩
/-- Those that may be. -/
def goodS (l : List Spn) : List Spn := l.filter mayB
theorem good_take (l : List Spn) (i : Nat) (x : Spn) (hx : l[i]? = some x) : goodS (l.take (i + 1)) = goodS (l.take i) ++ if mayB x = true then [x] else [] := by
  unfold goodS
  rw [List.take_add_one, hx, List.filter_append]
  congr 1
  show List.filter mayB [x] = _
  rw [List.filter_cons, List.filter_nil]
theorem good_pre (l : List Spn) (i : Nat) : goodS (l.take i) <+: goodS l := (List.take_prefix i l).filter mayB
set_option maxRecDepth 100000 in
set_option maxHeartbeats 4000000 in
theorem rows1_in (n : Nat) (l Bl base : Nat) (R : Nat → Prop) (v : Value) (s : List Spn) (hs : s.length ≤ 1000000) (J Jx : List Spn → World → Prop)
    (hY : ∀ pre x W, J pre W → pre.length < (goodS s).length → YieldAt Fence.wide (n - 1) Try.prog l #[sV x] W fun e W' =>
      (e = .returned (.bool true) ∧ J (pre ++ [x]) W' ∧ KpR base R W W') ∨ (e = .returned (.bool false) ∧ Jx (pre ++ [x]) W'))
    (W : World) (hD : IsD base W v s) (hJ : AbidesFrom W.heap.size J) (hB : Bx W Bl 51 [v]) (hR : ∀ k, R k → base ≤ k) (h0 : J [] W) :
    CallsIn Fence.wide n Try.prog 121 #[.func (.yield l) #[] #[], .pointer (some ⟨Bl, 0, none⟩)] W fun e W' => (∃ v, e = .returned v) ∧
      ((∃ ys, ys = goodS s ∧ J ys W') ∨ (∃ pre, pre <+: goodS s ∧ Jx pre W')) := by
  have c0 : W.cell? ⟨Bl, 0, none⟩ = some v := by rw [hB.cell]; rfl
  have HD := Lib.hid hD
  obtain ⟨ad, cap, rfl, hcap, hcm, _⟩ := hD
  unfold maxLen at hcm
  have HM := Lib.hid (fun x W => may_any x W)
  clear hB
  refine callsIn_of_wp Try.func121 rfl trivial ?_ rfl
  simp only [Try.ntmps121, List.size_toArray, List.length_cons, List.length_nil, Nat.reduceAdd, Nat.reduceSub, Array.replicate_succ, Array.replicate_zero, List.push_toArray, List.append_toArray, List.nil_append, List.cons_append]
  gi_wp2
  gi_loopw [7] (fun r wr => ∃ (i : Nat), r = .int .i64 (i : Int) ∧ i ≤ s.length ∧ J (goodS (s.take i)) wr ∧ IsD base wr (.slice ad s.length cap) s ∧ W.heap.size ≤ wr.heap.size) (fun r _ => s.length - intOf9 r)
  case atStart => exact ⟨0, rfl, Nat.zero_le _, by rw [List.take_zero]; exact h0, HD.out, Nat.le_refl _⟩
  case round =>
    obtain ⟨i, rfl, hi, hJs, hDr, hwr⟩ := hrel
    clear c0
    by_cases hlt : i < s.length
    · have hlti : (i : Int) < (s.length : Int) := by omega
      obtain ⟨x, hx⟩ : ∃ x, s[i]? = some x := ⟨s[i], List.getElem?_eq_getElem hlt⟩
      obtain ⟨b, k, hb0, hbl⟩ : ∃ b k, ad = some ⟨b, k, none⟩ ∧ b < wr.heap.size := by
        obtain ⟨a2, c2, e, _, _, h4⟩ := hDr
        obtain ⟨b, k, e1, _, e2, _⟩ := h4 (by omega)
        simp only [Value.slice.injEq] at e
        exact ⟨b, k, by rw [e.1, e1], e2⟩
      subst hb0
      have RX := Lib.hid (hDr.isS.range i x hx)
      have HDR := Lib.hid hDr
      have HX := Lib.hid hx
      have HJS := Lib.hid hJs
      have HG := Lib.hid (good_take s i x hx)
      have HP := Lib.hid (good_pre s (i + 1))
      have hbN : Below wr.heap.size wr (wr.alloc (.cells (sR x).toArray 27)) := (Below.refl _ _).alloc (Nat.le_refl _) _
      have HNN := Lib.hid (Bx.new wr 27 (sR x))
      have HJN := Lib.hid (hJ _ _ _ none hJs (grown_of_below9 hbN) (fun r e => by cases e))
      have HDN := Lib.hid (hDr.up hbN)
      have hwN := Nat.le_trans hwr hbN.size
      clear hDr hx hJs
      gi_wp2_with (first
        | (refine inV rfl (by intro c h; cases h) rfl (sV x) (exec_load_any _ (.tmp 9) rfl b (k + i * 2) (sR x) _ rfl RX.out Try.underlying27 rfl sp_info) ?_)
        | (refine inS rfl (by intro c h; cases h) rfl (exec_store_fresh _ (.tmp 4) (.tmp 10) rfl (sR x) _ wr.heap.size rfl rfl rfl sp_info rfl (sR_one x)) ?_; refine Hid.out ?_))
      refine Lib.hid ?_
      clear hbN
      generalize hWN : wr.alloc (.cells (sR x).toArray 27) = WN at *
      clear hWN
      have RB := Lib.hid (rangeAll HNN.out)
      cases hm : mayB x with
      | false =>
        have HMX := Lib.hid (fun W => (by have := may_any x W; rw [hm] at this; exact this : Calls Try.prog 97 #[sV x] W fun e w' => e = .returned (.bool false) ∧ Below W.heap.size W w'))
        rw [hm] at HG
        gi_wp2_with (first
          | (refine inV rfl (by intro c h; cases h) rfl (sV x) (exec_load_any _ (.tmp 4) rfl wr.heap.size 0 (sR x) _ rfl RB.out Try.underlying27 rfl sp_info) ?_)
          | (refine ⟨trivial, fun h => (by cases h), ?_⟩; refine (callsIn_wide.2 (HMX.out _)).mono ?_; rintro e w4 ⟨rfl, b4⟩; refine Hid.out ?_))
        refine Lib.hid ?_
        gi_wp2
        refine ⟨fun _ h => (by cases h), ?_⟩
        gi_wp2
        go_roundw
        case rel =>
          exact ⟨i + 1, rfl, hlt, by rw [HG.out]; simpa using hJ _ _ _ none HJN.out (grown_of_below9 b4) (fun r e => by cases e), HDN.out.up b4, Nat.le_trans hwN b4.size⟩
        case measure => simp only [intOf9]; omega
      | true =>
        have HMX := Lib.hid (fun W => (by have := may_any x W; rw [hm] at this; exact this : Calls Try.prog 97 #[sV x] W fun e w' => e = .returned (.bool true) ∧ Below W.heap.size W w'))
        rw [hm] at HG
        gi_wp2_with (first
          | (refine inV rfl (by intro c h; cases h) rfl (sV x) (exec_load_any _ (.tmp 4) rfl wr.heap.size 0 (sR x) _ rfl RB.out Try.underlying27 rfl sp_info) ?_)
          | (refine ⟨trivial, fun h => (by cases h), ?_⟩; refine (callsIn_wide.2 (HMX.out _)).mono ?_; rintro e w4 ⟨rfl, b4⟩; refine Hid.out ?_))
        refine Lib.hid ?_
        have HN4 := Lib.hid (HNN.out.up b4)
        have RB4 := Lib.hid (rangeAll HN4.out)
        have hJ4 := hJ _ _ _ none HJN.out (grown_of_below9 b4) (fun r e => by cases e)
        have HD4 := Lib.hid (HDN.out.up b4)
        have hw4 := Nat.le_trans hwN b4.size
        obtain ⟨fn, tmps, assign, body, hy, hR2⟩ := hY (goodS (s.take i)) x w4 hJ4 (by
          have := HP.out.length_le
          rw [HG.out] at this
          simp at this
          omega)
        (try dsimp only at hy)
        clear b4 hJ4
        gi_wp2_with (first
          | (refine inV rfl (by intro c h; cases h) rfl (sV x) (exec_load_any _ (.tmp 4) rfl wr.heap.size 0 (sR x) _ rfl RB4.out Try.underlying27 rfl sp_info) ?_))
        refine ⟨fun h => (by cases h), hR2.mono ?_⟩
        clear hR2 hy
        rintro e W3 (⟨rfl, hJ3, hk3⟩ | ⟨rfl, hJx3⟩)
        · have HD3 := Lib.hid (HD4.out.kr hk3 hR)
          have hw3 := Nat.le_trans hw4 hk3.1
          have HJ3 := Lib.hid hJ3
          clear hJ3 hk3
          gi_wp2
          go_roundw
          case rel => exact ⟨i + 1, rfl, hlt, by rw [HG.out]; exact HJ3.out, HD3.out, hw3⟩
          case measure => simp only [intOf9]; omega
        · have HJX := Lib.hid hJx3
          clear hJx3
          gi_wp2
          refine bodyPost_ret (results_none rfl _ _ _) rfl ?_
          refine ⟨⟨_, rfl⟩, .inr ⟨_, ?_, HJX.out⟩⟩
          have := HP.out
          rw [HG.out] at this
          simpa using this
    · obtain hie : s.length ≤ i := by omega
      have hlti : ¬ (i : Int) < (s.length : Int) := by omega
      have HJS := Lib.hid (show J (goodS s) wr by rw [List.take_of_length_le hie] at hJs; exact hJs)
      clear hJs
      gi_wp2
      go_end0
      exact ⟨⟨_, rfl⟩, .inl HJS.out⟩
theorem rows_stops (n : Nat) (Bl base : Nat) (R : Nat → Prop) (v : Value) (s : List Spn) (hs : s.length ≤ 1000000) (w : World) (hD : IsD base w v s) (hB : Bx w Bl 51 [v]) (hR : ∀ k, R k → base ≤ k) :
    SeqStopsK Fence.wide n Try.prog 121 #[.pointer (some ⟨Bl, 0, none⟩)] (fun x : Spn => #[sV x]) (KpR base R) (fun ys => ys = goodS s) (fun pre => pre <+: goodS s) (goodS s).length w := fun l J Jx W hW hJ _ hY h0 =>
  rows1_in n l Bl base R v s hs J Jx hY W (hD.up hW) hJ (hB.up hW) hR h0
end Go.Proofs.Ytgelbeglffjdaaa
