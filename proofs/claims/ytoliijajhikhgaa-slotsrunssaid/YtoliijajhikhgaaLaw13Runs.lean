/- SlotsRuns: any script of puts and deletes is answered as the document's is. -/
import Derived.Test.YtoliijajhikhgaaAw13
import Derived.Test.YtoliijajhikhgaaLift13
import Derived.Test.YtoliijajhikhgaaR13c
import Derived.Test.YtoliijajhikhgaaLaw13Order
namespace Go.Proofs.Ytoliijajhikhgaa
open Go Go.RowKit Go.Shelf
attribute [local go_sem] Oper.semAt_some

theorem TbL.kp {O : Nat → Prop} {W W' : World} {pt g wd room : Nat} {L : List (Int × Int)} (h : TbL W pt g wd room L) (hk : KpO O W W') (h1 : ¬ O pt) (h2 : ¬ O g) : TbL W' pt g wd room L := by
  obtain ⟨sl, h⟩ := h
  exact ⟨sl, ⟨h.m.tb.kp hk h1, h.m.sb.kp hk h2, h.m.len, h.m.w1, h.m.w2⟩, h.o, h.p, h.s, h.le, h.r, h.r1⟩
theorem isI_kp {O : Nat → Prop} {W W' : World} {a : Option Addr} {n cap : Nat} {L : List (Int × Int)} (h : IsI13 W (.slice a n cap) L) (hk : KpO O W W') (ho : ∀ x, a = some x → ¬ O x.block) : IsI13 W' (.slice a n cap) L := by
  obtain ⟨h1, a', cap', e, h2, h3, h4⟩ := h
  cases e
  refine ⟨h1, a, cap, rfl, h2, h3, fun hp => ?_⟩
  obtain ⟨b, k, rfl, hb, hr⟩ := h4 hp
  exact ⟨b, k, rfl, Nat.lt_of_lt_of_le hb hk.size, fun j v hv => (World.cell?_of_block (a := ⟨b, k + j, none⟩) (hk.all b (ho _ rfl) hb)).trans (hr j v hv)⟩
theorem getQ_is {L : List (Int × Int)} (hs : SrtL L) (hr : Rng13 L) (a : Int) : getQ a L = get13 a L := by
  unfold getQ
  by_cases hc : chk13 a = 0
  · rw [if_pos hc]
  · rw [if_neg hc]
    rcases get13_two a L with h | ⟨v, h⟩
    · exact h.symm
    · exact absurd (hr (a, v) ((get13_iff hs).1 h)) hc
set_option maxRecDepth 100000 in
theorem tput_nil (a v : Int) (w : World) : Calls Try.prog 9 #[.pointer none, .int .i64 a, .int .i64 v] w fun e w' => e = .returned (.int .i64 1) ∧ w = w' := by
  have HC := Lib.hid (check_nil a w)
  go_enter Try.func9, Try.ntmps9
  go_wp2_with (go_at_call 18; refine HC.out.mono ?_; rintro e w1 ⟨rfl, rfl⟩)
  go_ret
  exact ⟨rfl, rfl⟩
set_option maxRecDepth 100000 in
theorem tdel_nil (a : Int) (w : World) : Calls Try.prog 11 #[.pointer none, .int .i64 a] w fun e w' => e = .returned (.int .i64 1) ∧ w = w' := by
  have HC := Lib.hid (check_nil a w)
  go_enter Try.func11, Try.ntmps11
  go_wp2_with (go_at_call 18; refine HC.out.mono ?_; rintro e w1 ⟨rfl, rfl⟩)
  go_ret
  exact ⟨rfl, rfl⟩
set_option maxRecDepth 100000 in
theorem tget_nil (a : Int) (w : World) : Calls Try.prog 13 #[.pointer none, .int .i64 a] w fun e w' => e = .returned (.tuple #[.int .i64 0, .bool false]) ∧ w = w' := by
  have HC := Lib.hid (check_nil a w)
  go_enter Try.func13, Try.ntmps13
  go_wp2_with (go_at_call 18; refine HC.out.mono ?_; rintro e w1 ⟨rfl, rfl⟩)
  go_ret2
  exact ⟨rfl, rfl⟩
/-- A table, be it one or none: what its calls tell, beside what the document's tell. -/
structure Tab13 (O : Nat → Prop) (pa : Option Addr) (is : Bool) (room : Int) (pq : Int → Int → List (Int × Int) → Int × List (Int × Int)) (dq : Int → List (Int × Int) → Int × List (Int × Int)) (P : List (Int × Int) → World → Prop) : Prop where
  up : ∀ {L W W'}, P L W → Below W.heap.size W W' → P L W'
  kp : ∀ {O' : Nat → Prop} {L W W'}, P L W → KpO O' W W' → (∀ k, O k → ¬ O' k) → P L W'
  put : ∀ {L W} (a v : Int), P L W → Calls Try.prog 9 #[.pointer pa, .int .i64 a, .int .i64 v] W fun e w' => e = .returned (.int .i64 (pq a v L).1) ∧ P (pq a v L).2 w' ∧ KpO O W w'
  del : ∀ {L W} (a : Int), P L W → Calls Try.prog 11 #[.pointer pa, .int .i64 a] W fun e w' => e = .returned (.int .i64 (dq a L).1) ∧ P (dq a L).2 w' ∧ KpO O W w'
  get : ∀ {L W} (a : Int), P L W → Calls Try.prog 13 #[.pointer pa, .int .i64 a] W fun e w' => e = .returned (.tuple #[.int .i64 (get13 a L).1, .bool (get13 a L).2]) ∧ Below W.heap.size W w'
  len : ∀ {L W}, P L W → Calls Try.prog 15 #[.pointer pa] W fun e w' => e = .returned (.int .i64 (L.length : Int)) ∧ W = w'
  all : ∀ {L W}, P L W → Calls Try.prog 16 #[.pointer pa] W fun e w' => (∃ v, e = .returned v ∧ IsI13 w' v L) ∧ Below W.heap.size W w'
  rput : ∀ {L V W} {a : Option Addr} {n cap : Nat} (x v : Int), P L V → IsI13 W (.slice a n cap) L → L.length ≤ 900000 → Calls Try.prog 10 #[t3V is room (.slice a n cap), .int .i64 x, .int .i64 v] W (RefT13 W a L is room (pq x v L).2 (pq x v L).1)
  rdel : ∀ {L V W} {a : Option Addr} {n cap : Nat} (x : Int), P L V → IsI13 W (.slice a n cap) L → L.length ≤ 900000 → Calls Try.prog 12 #[t3V is room (.slice a n cap), .int .i64 x] W (RefT13 W a L is room (dq x L).2 (dq x L).1)
  pl : ∀ a v L, (pq a v L).2.length ≤ L.length + 1
  dl : ∀ a L, (dq a L).2.length ≤ L.length + 1
  is : is = pa.isSome
theorem tab_yes (pt g wd room : Nat) : Tab13 (OwnT pt g) (some ⟨pt, 0, none⟩) true (room : Int) (putQ room) delQ (fun L W => TbL W pt g wd room L ∧ Rng13 L) where
  up h hb := ⟨h.1.up hb, h.2⟩
  kp h hk ho := ⟨h.1.kp hk (ho _ (.inl rfl)) (ho _ (.inr rfl)), h.2⟩
  put a v h := (tput_any a v _ h.1).mono fun _ _ ⟨h1, h2, h3⟩ => ⟨h1, ⟨h2, h.2.put room a v⟩, h3⟩
  del a h := (tdel_any a _ h.1).mono fun _ _ ⟨h1, h2, h3⟩ => ⟨h1, ⟨h2, h.2.del a⟩, h3⟩
  get a h := by
    obtain ⟨sl, hs⟩ := h.1
    rw [← getQ_is hs.s h.2 a]
    exact tget_any a _ h.1
  len h := by
    obtain ⟨sl, hs⟩ := h.1
    exact tlen_any _ hs.m.tb
  all h := tall_any _ h.1
  rput x v h hi hl := by
    obtain ⟨sl, hs⟩ := h.1
    exact rput13_any room _ _ _ _ x v _ hi hl hs.le
  rdel x _ hi hl := rdel13_any (room : Int) _ _ _ _ x _ hi hl
  pl := putQ_len room
  dl := delQ_len
  is := rfl
theorem tab_no : Tab13 (fun _ => False) none false 0 (fun _ _ L => (1, L)) (fun _ L => (1, L)) (fun L _ => L = []) where
  up h _ := h
  kp h _ _ := h
  put a v h := (tput_nil a v _).mono fun _ _ ⟨h1, h2⟩ => ⟨h1, h, by rw [h2]; exact KpO.refl _ _⟩
  del a h := (tdel_nil a _).mono fun _ _ ⟨h1, h2⟩ => ⟨h1, h, by rw [h2]; exact KpO.refl _ _⟩
  get a h := (tget_nil a _).mono fun _ _ ⟨h1, h2⟩ => ⟨by rw [h]; exact h1, by rw [h2]; exact Below.refl _ _⟩
  len h := (len_nil _).mono fun _ _ ⟨h1, h2⟩ => ⟨by rw [h]; exact h1, h2⟩
  all h := (all_nil _).mono fun _ _ ⟨h1, h2⟩ => ⟨⟨_, h1, by rw [h]; exact IsC.nil _⟩, by rw [h2]; exact Below.refl _ _⟩
  rput x v _ hi _ := rput13_nil 0 _ _ _ _ x v _ hi
  rdel x _ hi _ := rdel13_nil 0 _ _ _ _ x _ hi
  pl _ _ _ := Nat.le_succ _
  dl _ _ := Nat.le_succ _
  is := rfl
/-- Both, side by side; the document's row lies behind its box. -/
structure Run13 (w : World) (P : List (Int × Int) → World → Prop) (is : Bool) (room : Int) (gw : Nat) (ao : Option Addr) (n cap : Nat) (L : List (Int × Int)) (W : World) : Prop where
  p : P L W
  b : Below w.heap.size w W
  bx : Bx W gw 28 (t3R is room (.slice ao n cap))
  is : IsI13 W (.slice ao n cap) L
  ap : ∀ x, ao = some x → gw < x.block
section
variable {O : Nat → Prop} {pa : Option Addr} {is : Bool} {room : Int} {pq : Int → Int → List (Int × Int) → Int × List (Int × Int)} {dq : Int → List (Int × Int) → Int × List (Int × Int)} {P : List (Int × Int) → World → Prop} {w W W' W2 W3 : World} {gw n cap : Nat} {ao : Option Addr} {L L' : List (Int × Int)}
theorem Run13.up (t : Tab13 O pa is room pq dq P) (h : Run13 w P is room gw ao n cap L W) (hb : Below W.heap.size W W') : Run13 w P is room gw ao n cap L W' := ⟨t.up h.p hb, below_up h.b hb h.b.size, h.bx.up hb, h.is.below hb, h.ap⟩
/-- What stands between the table's step and the document's. -/
structure Mid13 (w : World) (P : List (Int × Int) → World → Prop) (is : Bool) (room : Int) (gw : Nat) (ao : Option Addr) (n cap : Nat) (L L' : List (Int × Int)) (W : World) : Prop where
  p : P L' W
  b : Below w.heap.size w W
  bx : Bx W gw 28 (t3R is room (.slice ao n cap))
  is : IsI13 W (.slice ao n cap) L
  ap : ∀ x, ao = some x → gw < x.block
theorem Run13.mid (h : Run13 w P is room gw ao n cap L W) (hO : ∀ k, O k → w.heap.size ≤ k ∧ k < gw) (hp : P L' W') (hk : KpO O W W') : Mid13 w P is room gw ao n cap L L' W' :=
  ⟨hp, h.b.trans (hk.base (fun k ho => (hO k ho).1) h.b.size), h.bx.kp hk (fun ho => Nat.lt_irrefl _ (hO _ ho).2), isI_kp h.is hk (fun x hx ho => by have := h.ap x hx; have := (hO _ ho).2; omega), h.ap⟩
theorem Mid13.up (t : Tab13 O pa is room pq dq P) (h : Mid13 w P is room gw ao n cap L L' W) (hb : Below W.heap.size W W') : Mid13 w P is room gw ao n cap L L' W' := ⟨t.up h.p hb, below_up h.b hb h.b.size, h.bx.up hb, h.is.below hb, h.ap⟩
theorem Mid13.done (t : Tab13 O pa is room pq dq P) (hO : ∀ k, O k → w.heap.size ≤ k ∧ k < gw) (hgw : w.heap.size ≤ gw) (h : Mid13 w P is room gw ao n cap L L' W) {a' : Option Addr} {n' cap' : Nat} (hb : Below W.heap.size W W2) (hi : IsI13 W2 (.slice a' n' cap') L') (ha : (a' = ao ∧ L' = L) ∨ ∀ x, a' = some x → W.heap.size ≤ x.block) (hb3 : Below W2.heap.size W2 W3) :
    Run13 w P is room gw a' n' cap' L' (W3.setRow gw (t3R is room (.slice a' n' cap')).toArray) := by
  have hgl := h.bx.lt
  have hap : ∀ x, a' = some x → gw < x.block := fun x hx => by
    rcases ha with ⟨e, _⟩ | ha
    · exact h.ap x (by rw [← e]; exact hx)
    · exact Nat.lt_of_lt_of_le hgl (ha x hx)
  have hbb := below_up h.b hb h.b.size
  have hb3' := below_up hbb hb3 hbb.size
  have hk : KpO (fun k => k = gw) W3 (W3.setRow gw (t3R is room (.slice a' n' cap')).toArray) := .of (by simp) (fun k ho _ => setRow_other W3 gw k _ ho) rfl rfl rfl
  exact ⟨t.kp (t.up (t.up h.p hb) hb3) hk (fun k ho e => by have := (hO k ho).2; omega), below_row hb3' hgw _, ((h.bx.up hb).up hb3).row _, isI_kp (hi.below hb3) hk (fun x hx e => by have := hap x hx; omega), hap⟩
end
theorem exec_neq_nil {ρ : Operand → Value} {o : Oper} {W : World} (x : Operand) (t : TypeId) (ho : o.op = .binOp .neq t x (.const (.pointer none)) t) (pa : Option Addr) (hx : ρ x = .pointer pa) (hc : ρ (.const (.pointer none)) = .pointer none) (ht : Try.prog.underlying t = some (.pointer 56)) :
    (execOp ρ o).run Try.prog W = .ok (.value (.bool pa.isSome)) W := by
  unfold execOp
  simp only [ho, hx, hc]
  cases pa <;> go_simp
def HeldG13 (gw : Nat) (v : Value) (W : World) : Prop := W.cell? ⟨gw, 2, none⟩ = some v
def HeldC13 (gw bb kk rb rk q cap n : Nat) (y : Int × Int) (W : World) : Prop := W.cell? ⟨gw, 2, none⟩ = some (.slice (some ⟨rb, rk, none⟩) n cap) ∧ W.cell? ⟨bb, kk + q * 2, none⟩ = some (.int .i64 y.1) ∧ W.cell? ⟨bb, kk + q * 2 + 1, none⟩ = some (.int .i64 y.2) ∧ W.cell? ⟨rb, rk + q * 2, none⟩ = some (.int .i64 y.1) ∧ W.cell? ⟨rb, rk + q * 2 + 1, none⟩ = some (.int .i64 y.2)
theorem st3_info : (Try.prog.info? 31).map (·.size) = some 3 := by kernel_rfl
theorem s3R_one (s : Stp13) : ∀ v ∈ s3R s, v.oneCell' = true := by
  intro v h
  simp only [s3R, List.mem_cons, List.not_mem_nil, or_false] at h
  rcases h with rfl | rfl | rfl <;> rfl
set_option maxRecDepth 100000 in
set_option maxHeartbeats 16000000 in
theorem runs13_walk (room0 : Int) (a : Option Addr) (n0 c : Nat) (l : List Stp13) (w : World) (_hb1 : -9223372036854775808 ≤ room0) (_hb2 : room0 ≤ 9223372036854775807) (h : IsC s3R 3 w (.slice a n0 c) l) :
    Calls Try.prog 3 #[.int .i64 room0, .slice a n0 c] w fun e w' => e = .returned (.bool true) ∧ Below w.heap.size w w' := by
  have HA := Lib.hid (fun W => awake13_any W)
  obtain ⟨rfl, hcap, hcm, _⟩ := h.shape
  unfold maxLen at hcm
  have HI := Lib.hid h
  clear h _hb1 _hb2
  by_cases h80 : 80 < l.length
  · have h80i : (80 : Int) < (l.length : Int) := by omega
    go_enter Try.func3, Try.ntmps3
    go_wp2_with (go_at_call 6; refine (HA.out _).mono ?_; rintro e w1 ⟨rfl, b1⟩; refine Hid.out ?_)
    refine Lib.hid ?_
    have HB := Lib.hid b1
    clear b1
    go_wp2
    go_ret
    exact ⟨rfl, HB.out⟩
  have h80i : (l.length : Int) ≤ 80 := by omega
  obtain ⟨is, hisd⟩ : ∃ is : Bool, is = decide (1 ≤ room0 ∧ room0 ≤ 65536) := ⟨_, rfl⟩
  obtain ⟨room, hrmd⟩ : ∃ room : Int, room = if 1 ≤ room0 ∧ room0 ≤ 65536 then room0 else 0 := ⟨_, rfl⟩
  have HNEW : Hid (∀ W : World, Calls Try.prog 7 #[.int .i64 room0] W fun e w' => ∃ (pa : Option Addr) (O : Nat → Prop) (pq : Int → Int → List (Int × Int) → Int × List (Int × Int)) (dq : Int → List (Int × Int) → Int × List (Int × Int)) (P : List (Int × Int) → World → Prop), e = .returned (.pointer pa) ∧ Tab13 O pa is room pq dq P ∧ P [] w' ∧ (∀ k, O k → W.heap.size ≤ k ∧ k < w'.heap.size) ∧ Below W.heap.size W w') := fun W => by
    by_cases hr : 1 ≤ room0 ∧ room0 ≤ 65536
    · rw [if_pos hr] at hrmd
      rw [decide_eq_true hr] at hisd
      subst hisd hrmd
      have h1 := new13_yes room.toNat W (by omega) (by omega)
      rw [Int.toNat_of_nonneg (by omega)] at h1
      refine h1.mono ?_
      rintro e w' ⟨pt, g, wd, rfl, h2, h3, h4, h5⟩
      refine ⟨_, OwnT pt g, putQ room.toNat, delQ, (fun L W => TbL W pt g wd room.toNat L ∧ Rng13 L), rfl, (by have := tab_yes pt g wd room.toNat; rwa [Int.toNat_of_nonneg (by omega)] at this), ⟨h2, fun _ h => by cases h⟩, fun k hk => ?_, h5⟩
      obtain ⟨sl, hs⟩ := h2
      rcases hk with rfl | rfl
      · exact ⟨h3, hs.m.tb.lt⟩
      · exact ⟨h4, hs.m.sb.lt⟩
    · rw [if_neg hr] at hrmd
      rw [decide_eq_false hr] at hisd
      subst hisd hrmd
      refine (new13_no room0 W hr).mono ?_
      rintro e w' ⟨rfl, rfl⟩
      exact ⟨_, _, _, _, (fun L _ => L = []), rfl, tab_no, rfl, fun k hk => hk.elim, Below.refl _ _⟩
  have HREF : Hid (∀ W : World, Calls Try.prog 8 #[.int .i64 room0] W fun e w' => e = .returned (t3V is room (.slice none 0 0)) ∧ Below W.heap.size W w') := fun W => by
    by_cases hr : 1 ≤ room0 ∧ room0 ≤ 65536
    · rw [if_pos hr] at hrmd
      rw [decide_eq_true hr] at hisd
      subst hisd hrmd
      exact rnew13_yes room W hr.1 hr.2
    · rw [if_neg hr] at hrmd
      rw [decide_eq_false hr] at hisd
      subst hisd hrmd
      exact rnew13_no room0 W hr
  clear hisd hrmd
  go_enter Try.func3, Try.ntmps3
  go_wp2_with (go_at_call 6; refine (HA.out _).mono ?_; rintro e w1 ⟨rfl, b1⟩; refine Hid.out ?_)
  refine Lib.hid ?_
  have HB1 := Lib.hid b1
  clear b1
  go_wp2_with (go_at_call 7; refine (HNEW.out _).mono ?_; rintro e w2 ⟨pa, O, pq, dq, P, rfl, ht, hp, ho, hb⟩; refine Hid.out ?_)
  refine Lib.hid ?_
  have TAB := Lib.hid ht
  have HO2 := Lib.hid (show ∀ k, O k → w.heap.size ≤ k ∧ k < w2.heap.size from fun k hk => ⟨Nat.le_trans HB1.out.size (ho k hk).1, (ho k hk).2⟩)
  have HP2 := Lib.hid hp
  have HB2 := Lib.hid (below_up HB1.out hb HB1.out.size)
  clear ht hp ho hb HB1 HNEW
  go_wp2_with (first
    | (go_at_call 8; refine (HREF.out _).mono ?_; rintro e w3 ⟨rfl, b3⟩; refine Hid.out ?_))
  refine Lib.hid ?_
  have HB3 := Lib.hid (below_up HB2.out b3 HB2.out.size)
  have HP3 := Lib.hid (TAB.out.up HP2.out b3)
  have HO3 := Lib.hid (show ∀ k, O k → w.heap.size ≤ k ∧ k < w3.heap.size from fun k hk => ⟨(HO2.out k hk).1, Nat.lt_of_lt_of_le (HO2.out k hk).2 b3.size⟩)
  clear b3 HO2 HP2 HB2 HREF
  go_wp2_with (refine plS rfl (exec_store_fresh _ (.tmp 7) (.tmp 31) rfl (t3R is room (.slice none 0 0)) _ w3.heap.size rfl rfl rfl t3_info rfl (t3_one _ _ _ rfl)) ?_; refine Hid.out ?_)
  refine Lib.hid ?_
  obtain ⟨gw, hgw⟩ : ∃ gw, gw = w3.heap.size := ⟨_, rfl⟩
  have hba : Below w3.heap.size w3 (w3.alloc (.cells (t3R is room (.slice none 0 0)).toArray 28)) := (Below.refl _ _).alloc (Nat.le_refl _) _
  have HZ0 := Lib.hid (show Run13 w P is room gw none 0 0 [] (w3.alloc (.cells (t3R is room (.slice none 0 0)).toArray 28)) from ⟨TAB.out.up HP3.out hba, below_up HB3.out hba HB3.out.size, by rw [hgw]; exact Bx.new w3 _ _, IsC.nil _, fun x hx => by cases hx⟩)
  have HO := Lib.hid (show ∀ k, O k → w.heap.size ≤ k ∧ k < gw by rw [hgw]; exact HO3.out)
  have hwg : w.heap.size ≤ gw := by rw [hgw]; exact HB3.out.size
  rw [← hgw]
  generalize w3.alloc (.cells (t3R is room (.slice none 0 0)).toArray 28) = w4 at *
  clear hgw hba HP3 HO3 HB3
  have c0 : w4.cell? ⟨gw, 0, none⟩ = some (.bool is) := (HZ0.out.bx.cell 0).trans rfl
  have HIS := Lib.hid TAB.out.is
  go_wp2_with (refine plV rfl (.bool is) (HIS.out ▸ exec_neq_nil (.tmp 32) 24 rfl pa rfl rfl Try.underlying24) ?_)
  clear c0
  go_loopw [8] (fun i wr => ∃ (j : Nat) (L : List (Int × Int)) (ao : Option Addr) (n cap : Nat), j ≤ l.length ∧ i = .int .i64 (j : Int) ∧ Hid (L.length ≤ j) ∧ Hid (Run13 w P is room gw ao n cap L wr)) (fun i _ => l.length - (intOf i).toNat)
  case atStart => exact ⟨0, [], none, 0, 0, Nat.zero_le _, rfl, Lib.hid (Nat.le_refl _), HZ0⟩
  case round =>
    clear HZ0
    obtain ⟨j, L, ao, n, cap, hj, rfl, HLJ, HZ⟩ := hrel
    by_cases hlt : j < l.length
    · have hlti : (j : Int) < (l.length : Int) := by omega
      have h0k : ¬ (j : Int) < 0 := by omega
      have hL9 : L.length ≤ 900000 := by have := HLJ.out; omega
      obtain ⟨x, hx⟩ : ∃ x, l[j]? = some x := ⟨l[j], List.getElem?_eq_getElem hlt⟩
      obtain ⟨b, k, rfl, hbw, hr⟩ := s3_at HI.out j x hx
      have HR := Lib.hid (hr wr HZ.out.b)
      have hb1 : Below wr.heap.size wr (wr.alloc (.cells (s3R x).toArray 31)) := (Below.refl _ _).alloc (Nat.le_refl _) _
      have HB9 := Lib.hid (Bx.new wr 31 (s3R x))
      have HZ1 := Lib.hid (HZ.out.up TAB.out hb1)
      obtain ⟨B9, hB9⟩ : ∃ B9, B9 = wr.heap.size := ⟨_, rfl⟩
      have hgr : gw < wr.heap.size := HZ.out.bx.lt
      clear hx hr hb1 HZ
      go_wp2_with (first
        | (refine plV rfl (.agg (s3R x).toArray) (exec_load_any _ (.tmp 45) rfl b (k + j * 3) (s3R x) _ rfl HR.out Try.underlying31 rfl st3_info) ?_)
        | (refine plS rfl (exec_store_fresh _ (.tmp 9) (.tmp 46) rfl (s3R x) _ wr.heap.size rfl rfl rfl st3_info rfl (s3R_one x)) ?_; refine Hid.out ?_))
      refine Lib.hid ?_
      rw [← hB9] at HB9 ⊢
      have hgB : gw < B9 := by rw [hB9]; exact hgr
      generalize wr.alloc (.cells (s3R x).toArray 31) = W1 at *
      clear hB9 HR
      have d0 : W1.cell? ⟨B9, 0, none⟩ = some (.int .i64 x.k) := (HB9.out.cell 0).trans rfl
      have d1 : W1.cell? ⟨B9, 1, none⟩ = some (.int .i64 x.a) := (HB9.out.cell 1).trans rfl
      have d2 : W1.cell? ⟨B9, 2, none⟩ = some (.int .i64 x.v) := (HB9.out.cell 2).trans rfl
      by_cases hk0 : x.k = 0
      · have HD := Lib.hid (TAB.out.put x.a x.v HZ1.out.p)
        go_wp2_with (go_at_call 9; refine HD.out.mono ?_; rintro e W2 ⟨rfl, hp2, hk2⟩; refine Hid.out ?_)
        refine Lib.hid ?_
        have HM := Lib.hid (HZ1.out.mid HO.out hp2 hk2)
        have HB2 := Lib.hid (HB9.out.kp hk2 (fun ho => by have := (HO.out _ ho).2; omega))
        have f1 : W2.cell? ⟨B9, 1, none⟩ = some (.int .i64 x.a) := (HB2.out.cell 1).trans rfl
        have f2 : W2.cell? ⟨B9, 2, none⟩ = some (.int .i64 x.v) := (HB2.out.cell 2).trans rfl
        have RT := Lib.hid (rangeAll HM.out.bx)
        have HRP := Lib.hid (TAB.out.rput x.a x.v HZ1.out.p HM.out.is hL9)
        have HLS : Hid ((pq x.a x.v L).2.length ≤ j + 1) := by have := HLJ.out; have := TAB.out.pl x.a x.v L; exact Lib.hid (by omega)
        obtain ⟨ec, hec⟩ : ∃ ec, ec = (pq x.a x.v L).1 := ⟨_, rfl⟩
        obtain ⟨L', hL'⟩ : ∃ L', L' = (pq x.a x.v L).2 := ⟨_, rfl⟩
        rw [← hec] at HRP ⊢
        rw [← hL'] at HRP HM HLS
        clear hp2 hk2 HD HZ1 HB9 d0 d1 d2 hec hL'
        go_wp2_with (first
          | (refine plV rfl (t3V is room (.slice ao n cap)) (exec_load_any _ (.tmp 7) rfl gw 0 (t3R is room (.slice ao n cap)) _ rfl RT.out Try.underlying28 rfl t3_info) ?_)
          | (go_at_call 10; refine HRP.out.mono ?_; rintro e W3 ⟨⟨a', n', cap', rfl, hi3, ha3⟩, b3⟩; refine Hid.out ?_))
        refine Lib.hid ?_
        have hba : Below W3.heap.size W3 (W3.alloc (.cells (t3R is room (.slice a' n' cap')).toArray 28)) := (Below.refl _ _).alloc (Nat.le_refl _) _
        have HZS := Lib.hid (HM.out.done TAB.out HO.out hwg b3 hi3 ha3 hba)
        have hgx := HM.out.bx.up b3
        have HGX := Lib.hid (hgx.up hba)
        have HBN := Lib.hid (Bx.new W3 28 (t3R is room (.slice a' n' cap')))
        have HBS := Lib.hid (((HB2.out.up b3).up hba).rowOther (k := gw) (by omega) (t3R is room (.slice a' n' cap')).toArray)
        clear b3 hi3 ha3 hba hgx HRP HM RT f1 f2 HB2
        obtain ⟨B12, hB12⟩ : ∃ B12, B12 = W3.heap.size := ⟨_, rfl⟩
        go_wp2_with (refine plS rfl (exec_store_fresh _ (.tmp 12) (.tmp 64) rfl (t3R is room (.slice a' n' cap')) _ W3.heap.size rfl rfl rfl t3_info rfl (t3_one _ _ _ rfl)) ?_; refine Hid.out ?_)
        refine Lib.hid ?_
        rw [← hB12] at HBN ⊢
        generalize W3.alloc (.cells (t3R is room (.slice a' n' cap')).toArray 28) = W4 at *
        have RB := Lib.hid (rangeAll HBN.out)
        clear hB12 HBN
        go_wp2_with (first
          | (refine plV rfl (t3V is room (.slice a' n' cap')) (exec_load_any _ (.tmp 12) rfl B12 0 (t3R is room (.slice a' n' cap')) _ rfl RB.out Try.underlying28 rfl t3_info) ?_)
          | (refine wpList_store_bx rfl 28 (.tmp 7) (.tmp 66) rfl gw (t3R is room (.slice a' n' cap')) (t3R is room (.slice ao n cap)) rfl rfl HGX.out t3_info rfl (t3_one _ _ _ rfl) ?_; refine Hid.out ?_))
        refine Lib.hid ?_
        clear HGX RB
        generalize W4.setRow gw (t3R is room (.slice a' n' cap')).toArray = WS at *
        have HRNX := Lib.hid (show x.a = x.a from rfl)
        have c2 : WS.cell? ⟨gw, 2, none⟩ = some (.slice a' n' cap') := (HZS.out.bx.cell 2).trans rfl
        have e1 : WS.cell? ⟨B9, 1, none⟩ = some (.int .i64 x.a) := (HBS.out.cell 1).trans rfl
        obtain ⟨gv, hgv⟩ : ∃ gv, gv = get13 x.a L' := ⟨_, rfl⟩
        have HG1 := Lib.hid (TAB.out.get x.a HZS.out.p)
        rw [← hgv] at HG1
        clear c2
        go_wp2_with (go_at_call 13; refine HG1.out.mono ?_; rintro e w6 ⟨rfl, b6⟩; refine Hid.out ?_)
        refine Lib.hid ?_
        have HZ6 := Lib.hid (HZS.out.up TAB.out b6)
        have HBX6 := Lib.hid (HBS.out.up b6)
        have e6 : w6.cell? ⟨B9, 1, none⟩ = some (.int .i64 x.a) := (HBX6.out.cell 1).trans rfl
        have RT6 := Lib.hid (rangeAll HZ6.out.bx)
        have HG2 := Lib.hid (rget13 is room a' n' cap' L' x.a w6 HZ6.out.is (by have := HLS.out; omega))
        rw [← hgv] at HG2
        clear HZS HBS b6 e1 HG1
        go_wp2_with (first
          | (refine plV rfl (t3V is room (.slice a' n' cap')) (exec_load_any _ (.tmp 7) rfl gw 0 (t3R is room (.slice a' n' cap')) _ rfl RT6.out Try.underlying28 rfl t3_info) ?_)
          | (go_at_call 14; refine HG2.out.mono ?_; rintro e w7 ⟨rfl, b7⟩; refine Hid.out ?_))
        refine Lib.hid ?_
        have HZ7 := Lib.hid ((HZ6.out.up TAB.out b7).up TAB.out (Below.refl _ _).drew)
        obtain ⟨rfl, _, hcmx, _⟩ := HZ7.out.is.shape
        unfold maxLen at hcmx
        have HLEN := Lib.hid (fun (W : World) (hp : P L' W) => TAB.out.len hp)
        clear HZ6 HBX6 e6 RT6 HG2 b7
        go_wp2_with fail
        refine wp_region_noPanic ?_
        refine wp_region_held_drew (S := HeldG13 gw (.slice a' L'.length cap')) (by kernel_rfl) ((HZ7.out.bx.cell 2).trans rfl) (fun hHeld => ?_)
        generalize w7.drew = w8 at *
        refine held_take (v := ?v322) 0 rfl (by kernel_rfl) (by kernel_rfl) (by kernel_rfl) (fun _ _ _ h => h) (by rfl) ?y322 (by assumption) ?_
        case y322 => (intro w hSw; unfold HeldG13 at hSw; go_simp; (try with_reducible rfl); (try omega))
        simp only [List.setIfInBounds_toArray, List.set_cons_zero, List.set_cons_succ]
        refine held_take (v := ?v325) 1 rfl (by kernel_rfl) (by kernel_rfl) (by kernel_rfl) (fun _ _ _ h => h) (by rfl) ?y325 (by assumption) ?_
        case y325 => (intro w hSw; unfold HeldG13 at hSw; go_simp; (try with_reducible rfl); (try omega))
        simp only [List.setIfInBounds_toArray, List.set_cons_zero, List.set_cons_succ]
        refine held_take (v := ?v328) 2 rfl (by kernel_rfl) (by kernel_rfl) (by kernel_rfl) (fun _ _ _ h => h) (by rfl) ?y328 (by assumption) ?_
        case y328 => (intro w hSw; unfold HeldG13 at hSw; go_simp; (try with_reducible rfl); (try omega))
        simp only [List.setIfInBounds_toArray, List.set_cons_zero, List.set_cons_succ]
        refine held_take (v := ?v331) 3 rfl (by kernel_rfl) (by kernel_rfl) (by kernel_rfl) (fun _ _ _ h => h) (by rfl) ?y331 (by assumption) ?_
        case y331 => (intro w hSw; unfold HeldG13 at hSw; go_simp; (try with_reducible rfl); (try omega))
        simp only [List.setIfInBounds_toArray, List.set_cons_zero, List.set_cons_succ]
        refine held_take (v := ?v334) 4 rfl (by kernel_rfl) (by kernel_rfl) (by kernel_rfl) (fun _ _ _ h => h) (by rfl) ?y334 (by assumption) ?_
        case y334 => (intro w hSw; unfold HeldG13 at hSw; go_simp; (try with_reducible rfl); (try omega))
        simp only [List.setIfInBounds_toArray, List.set_cons_zero, List.set_cons_succ]
        refine held_take (v := ?v337) 5 rfl (by kernel_rfl) (by kernel_rfl) (by kernel_rfl) (fun _ _ _ h => h) (by rfl) ?y337 (by assumption) ?_
        case y337 => (intro w hSw; unfold HeldG13 at hSw; go_simp; (try with_reducible rfl); (try omega))
        simp only [List.setIfInBounds_toArray, List.set_cons_zero, List.set_cons_succ]
        refine held_take (v := ?v340) 6 rfl (by kernel_rfl) (by kernel_rfl) (by kernel_rfl) (fun _ _ _ h => h) (by rfl) ?y340 (by assumption) ?_
        case y340 => (intro w hSw; unfold HeldG13 at hSw; go_simp; (try with_reducible rfl); (try omega))
        simp only [List.setIfInBounds_toArray, List.set_cons_zero, List.set_cons_succ]
        refine held_take (v := ?v343) 7 rfl (by kernel_rfl) (by kernel_rfl) (by kernel_rfl) (fun _ _ _ h => h) (by rfl) ?y343 (by assumption) ?_
        case y343 => (intro w hSw; unfold HeldG13 at hSw; go_simp; (try with_reducible rfl); (try omega))
        simp only [List.setIfInBounds_toArray, List.set_cons_zero, List.set_cons_succ]
        refine held_take (v := ?v346) 8 rfl (by kernel_rfl) (by kernel_rfl) (by kernel_rfl) (fun _ _ _ h => h) (by rfl) ?y346 (by assumption) ?_
        case y346 => (intro w hSw; unfold HeldG13 at hSw; go_simp; (try with_reducible rfl); (try omega))
        simp only [List.setIfInBounds_toArray, List.set_cons_zero, List.set_cons_succ]
        refine held_take (v := ?v349) 9 rfl (by kernel_rfl) (by kernel_rfl) (by kernel_rfl) (fun _ _ _ h => h) (by rfl) ?y349 (by assumption) ?_
        case y349 => (intro w hSw; unfold HeldG13 at hSw; go_simp; (try with_reducible rfl); (try omega))
        simp only [List.setIfInBounds_toArray, List.set_cons_zero, List.set_cons_succ]
        refine held_take (v := ?v352) 10 rfl (by kernel_rfl) (by kernel_rfl) (by kernel_rfl) (fun _ _ _ h => h) (by rfl) ?y352 (by assumption) ?_
        case y352 => (intro w hSw; unfold HeldG13 at hSw; go_simp; (try with_reducible rfl); (try omega))
        simp only [List.setIfInBounds_toArray, List.set_cons_zero, List.set_cons_succ]
        refine held_take (v := ?v355) 11 rfl (by kernel_rfl) (by kernel_rfl) (by kernel_rfl) (fun _ _ _ h => h) (by rfl) ?y355 (by assumption) ?_
        case y355 => (intro w hSw; unfold HeldG13 at hSw; go_simp; (try with_reducible rfl); (try omega))
        simp only [List.setIfInBounds_toArray, List.set_cons_zero, List.set_cons_succ]
        refine held_take (v := ?v358) 12 rfl (by kernel_rfl) (by kernel_rfl) (by kernel_rfl) (fun _ _ _ h => h) (by rfl) ?y358 (by assumption) ?_
        case y358 => (intro w hSw; unfold HeldG13 at hSw; go_simp; (try with_reducible rfl); (try omega))
        simp only [List.setIfInBounds_toArray, List.set_cons_zero, List.set_cons_succ]
        refine held_take (v := ?v361) 13 rfl (by kernel_rfl) (by kernel_rfl) (by kernel_rfl) (fun _ _ _ h => h) (by rfl) ?y361 (by assumption) ?_
        case y361 => (intro w hSw; unfold HeldG13 at hSw; go_simp; (try with_reducible rfl); (try omega))
        simp only [List.setIfInBounds_toArray, List.set_cons_zero, List.set_cons_succ]
        refine held_take (v := ?v364) 14 rfl (by kernel_rfl) (by kernel_rfl) (by kernel_rfl) (fun _ _ _ h => h) (by rfl) ?y364 (by assumption) ?_
        case y364 => (intro w hSw; unfold HeldG13 at hSw; go_simp; (try with_reducible rfl); (try omega))
        simp only [List.setIfInBounds_toArray, List.set_cons_zero, List.set_cons_succ]
        refine held_take (v := ?v367) 16 rfl (by kernel_rfl) (by kernel_rfl) (by kernel_rfl) (fun _ _ _ h => h) (by rfl) ?y367 (by assumption) ?_
        case y367 => (intro w hSw; unfold HeldG13 at hSw; go_simp; (try with_reducible rfl); (try omega))
        simp only [List.setIfInBounds_toArray, List.set_cons_zero, List.set_cons_succ]
        refine held_take (v := ?v370) 17 rfl (by kernel_rfl) (by kernel_rfl) (by kernel_rfl) (fun _ _ _ h => h) (by rfl) ?y370 (by assumption) ?_
        case y370 => (intro w hSw; unfold HeldG13 at hSw; go_simp; (try with_reducible rfl); (try omega))
        simp only [List.setIfInBounds_toArray, List.set_cons_zero, List.set_cons_succ]
        refine held_take (v := ?v373) 18 rfl (by kernel_rfl) (by kernel_rfl) (by kernel_rfl) (fun _ _ _ h => h) (by rfl) ?y373 (by assumption) ?_
        case y373 => (intro w hSw; unfold HeldG13 at hSw; go_simp; (try with_reducible rfl); (try omega))
        simp only [List.setIfInBounds_toArray, List.set_cons_zero, List.set_cons_succ]
        refine held_one 15 rfl (by kernel_rfl) (by rfl) (fun K hK => ?_)
        go_simp
        refine (HLEN.out _ HZ7.out.p).mono ?_
        rintro e w' ⟨rfl, rfl⟩
        refine hK.out _ _ hHeld (fun _ => ?_)
        (try simp only [Act.put, List.setIfInBounds_toArray, List.set_cons_zero, List.set_cons_succ])
        clear hK K
        refine held_take (v := ?v383) 19 rfl (by kernel_rfl) (by kernel_rfl) (by kernel_rfl) (fun _ _ _ h => h) (by rfl) ?y383 (by assumption) ?_
        case y383 => (intro w hSw; unfold HeldG13 at hSw; go_simp; (try with_reducible rfl); (try omega))
        simp only [List.setIfInBounds_toArray, List.set_cons_zero, List.set_cons_succ]
        refine held_take (v := ?v386) 20 rfl (by kernel_rfl) (by kernel_rfl) (by kernel_rfl) (fun _ _ _ h => h) (by rfl) ?y386 (by assumption) ?_
        case y386 => (intro w hSw; unfold HeldG13 at hSw; go_simp; (try with_reducible rfl); (try omega))
        simp only [List.setIfInBounds_toArray, List.set_cons_zero, List.set_cons_succ]
        refine wpAnyH_done (by kernel_rfl) ?_ _
        refine NoPanic.normal ?_
        go_wp2
        go_roundw
        case rel => exact ⟨j + 1, L', a', _, cap', hlt, by go_num, HLS, HZ7⟩
        case measure => simp [intOf]; omega
      · by_cases hk1 : x.k = 1
        · have HD := Lib.hid (TAB.out.del x.a HZ1.out.p)
          go_wp2_with (go_at_call 11; refine HD.out.mono ?_; rintro e W2 ⟨rfl, hp2, hk2⟩; refine Hid.out ?_)
          refine Lib.hid ?_
          have HM := Lib.hid (HZ1.out.mid HO.out hp2 hk2)
          have HB2 := Lib.hid (HB9.out.kp hk2 (fun ho => by have := (HO.out _ ho).2; omega))
          have f1 : W2.cell? ⟨B9, 1, none⟩ = some (.int .i64 x.a) := (HB2.out.cell 1).trans rfl
          have f2 : W2.cell? ⟨B9, 2, none⟩ = some (.int .i64 x.v) := (HB2.out.cell 2).trans rfl
          have RT := Lib.hid (rangeAll HM.out.bx)
          have HRP := Lib.hid (TAB.out.rdel x.a HZ1.out.p HM.out.is hL9)
          have HLS : Hid ((dq x.a L).2.length ≤ j + 1) := by have := HLJ.out; have := TAB.out.dl x.a L; exact Lib.hid (by omega)
          obtain ⟨ec, hec⟩ : ∃ ec, ec = (dq x.a L).1 := ⟨_, rfl⟩
          obtain ⟨L', hL'⟩ : ∃ L', L' = (dq x.a L).2 := ⟨_, rfl⟩
          rw [← hec] at HRP ⊢
          rw [← hL'] at HRP HM HLS
          clear hp2 hk2 HD HZ1 HB9 d0 d1 d2 hec hL'
          go_wp2_with (first
            | (refine plV rfl (t3V is room (.slice ao n cap)) (exec_load_any _ (.tmp 7) rfl gw 0 (t3R is room (.slice ao n cap)) _ rfl RT.out Try.underlying28 rfl t3_info) ?_)
            | (go_at_call 12; refine HRP.out.mono ?_; rintro e W3 ⟨⟨a', n', cap', rfl, hi3, ha3⟩, b3⟩; refine Hid.out ?_))
          refine Lib.hid ?_
          have hba : Below W3.heap.size W3 (W3.alloc (.cells (t3R is room (.slice a' n' cap')).toArray 28)) := (Below.refl _ _).alloc (Nat.le_refl _) _
          have HZS := Lib.hid (HM.out.done TAB.out HO.out hwg b3 hi3 ha3 hba)
          have hgx := HM.out.bx.up b3
          have HGX := Lib.hid (hgx.up hba)
          have HBN := Lib.hid (Bx.new W3 28 (t3R is room (.slice a' n' cap')))
          have HBS := Lib.hid (((HB2.out.up b3).up hba).rowOther (k := gw) (by omega) (t3R is room (.slice a' n' cap')).toArray)
          clear b3 hi3 ha3 hba hgx HRP HM RT f1 f2 HB2
          obtain ⟨B12, hB12⟩ : ∃ B12, B12 = W3.heap.size := ⟨_, rfl⟩
          go_wp2_with (refine plS rfl (exec_store_fresh _ (.tmp 14) (.tmp 79) rfl (t3R is room (.slice a' n' cap')) _ W3.heap.size rfl rfl rfl t3_info rfl (t3_one _ _ _ rfl)) ?_; refine Hid.out ?_)
          refine Lib.hid ?_
          rw [← hB12] at HBN ⊢
          generalize W3.alloc (.cells (t3R is room (.slice a' n' cap')).toArray 28) = W4 at *
          have RB := Lib.hid (rangeAll HBN.out)
          clear hB12 HBN
          go_wp2_with (first
            | (refine plV rfl (t3V is room (.slice a' n' cap')) (exec_load_any _ (.tmp 14) rfl B12 0 (t3R is room (.slice a' n' cap')) _ rfl RB.out Try.underlying28 rfl t3_info) ?_)
            | (refine wpList_store_bx rfl 28 (.tmp 7) (.tmp 81) rfl gw (t3R is room (.slice a' n' cap')) (t3R is room (.slice ao n cap)) rfl rfl HGX.out t3_info rfl (t3_one _ _ _ rfl) ?_; refine Hid.out ?_))
          refine Lib.hid ?_
          clear HGX RB
          generalize W4.setRow gw (t3R is room (.slice a' n' cap')).toArray = WS at *
          have HRNX := Lib.hid (show x.a = x.a from rfl)
          have c2 : WS.cell? ⟨gw, 2, none⟩ = some (.slice a' n' cap') := (HZS.out.bx.cell 2).trans rfl
          have e1 : WS.cell? ⟨B9, 1, none⟩ = some (.int .i64 x.a) := (HBS.out.cell 1).trans rfl
          obtain ⟨gv, hgv⟩ : ∃ gv, gv = get13 x.a L' := ⟨_, rfl⟩
          have HG1 := Lib.hid (TAB.out.get x.a HZS.out.p)
          rw [← hgv] at HG1
          clear c2
          go_wp2_with (go_at_call 13; refine HG1.out.mono ?_; rintro e w6 ⟨rfl, b6⟩; refine Hid.out ?_)
          refine Lib.hid ?_
          have HZ6 := Lib.hid (HZS.out.up TAB.out b6)
          have HBX6 := Lib.hid (HBS.out.up b6)
          have e6 : w6.cell? ⟨B9, 1, none⟩ = some (.int .i64 x.a) := (HBX6.out.cell 1).trans rfl
          have RT6 := Lib.hid (rangeAll HZ6.out.bx)
          have HG2 := Lib.hid (rget13 is room a' n' cap' L' x.a w6 HZ6.out.is (by have := HLS.out; omega))
          rw [← hgv] at HG2
          clear HZS HBS b6 e1 HG1
          go_wp2_with (first
            | (refine plV rfl (t3V is room (.slice a' n' cap')) (exec_load_any _ (.tmp 7) rfl gw 0 (t3R is room (.slice a' n' cap')) _ rfl RT6.out Try.underlying28 rfl t3_info) ?_)
            | (go_at_call 14; refine HG2.out.mono ?_; rintro e w7 ⟨rfl, b7⟩; refine Hid.out ?_))
          refine Lib.hid ?_
          have HZ7 := Lib.hid ((HZ6.out.up TAB.out b7).up TAB.out (Below.refl _ _).drew)
          obtain ⟨rfl, _, hcmx, _⟩ := HZ7.out.is.shape
          unfold maxLen at hcmx
          have HLEN := Lib.hid (fun (W : World) (hp : P L' W) => TAB.out.len hp)
          clear HZ6 HBX6 e6 RT6 HG2 b7
          go_wp2_with fail
          refine wp_region_noPanic ?_
          refine wp_region_held_drew (S := HeldG13 gw (.slice a' L'.length cap')) (by kernel_rfl) ((HZ7.out.bx.cell 2).trans rfl) (fun hHeld => ?_)
          generalize w7.drew = w8 at *
          refine held_take (v := ?v464) 0 rfl (by kernel_rfl) (by kernel_rfl) (by kernel_rfl) (fun _ _ _ h => h) (by rfl) ?y464 (by assumption) ?_
          case y464 => (intro w hSw; unfold HeldG13 at hSw; go_simp; (try with_reducible rfl); (try omega))
          simp only [List.setIfInBounds_toArray, List.set_cons_zero, List.set_cons_succ]
          refine held_take (v := ?v467) 1 rfl (by kernel_rfl) (by kernel_rfl) (by kernel_rfl) (fun _ _ _ h => h) (by rfl) ?y467 (by assumption) ?_
          case y467 => (intro w hSw; unfold HeldG13 at hSw; go_simp; (try with_reducible rfl); (try omega))
          simp only [List.setIfInBounds_toArray, List.set_cons_zero, List.set_cons_succ]
          refine held_take (v := ?v470) 2 rfl (by kernel_rfl) (by kernel_rfl) (by kernel_rfl) (fun _ _ _ h => h) (by rfl) ?y470 (by assumption) ?_
          case y470 => (intro w hSw; unfold HeldG13 at hSw; go_simp; (try with_reducible rfl); (try omega))
          simp only [List.setIfInBounds_toArray, List.set_cons_zero, List.set_cons_succ]
          refine held_take (v := ?v473) 3 rfl (by kernel_rfl) (by kernel_rfl) (by kernel_rfl) (fun _ _ _ h => h) (by rfl) ?y473 (by assumption) ?_
          case y473 => (intro w hSw; unfold HeldG13 at hSw; go_simp; (try with_reducible rfl); (try omega))
          simp only [List.setIfInBounds_toArray, List.set_cons_zero, List.set_cons_succ]
          refine held_take (v := ?v476) 4 rfl (by kernel_rfl) (by kernel_rfl) (by kernel_rfl) (fun _ _ _ h => h) (by rfl) ?y476 (by assumption) ?_
          case y476 => (intro w hSw; unfold HeldG13 at hSw; go_simp; (try with_reducible rfl); (try omega))
          simp only [List.setIfInBounds_toArray, List.set_cons_zero, List.set_cons_succ]
          refine held_take (v := ?v479) 5 rfl (by kernel_rfl) (by kernel_rfl) (by kernel_rfl) (fun _ _ _ h => h) (by rfl) ?y479 (by assumption) ?_
          case y479 => (intro w hSw; unfold HeldG13 at hSw; go_simp; (try with_reducible rfl); (try omega))
          simp only [List.setIfInBounds_toArray, List.set_cons_zero, List.set_cons_succ]
          refine held_take (v := ?v482) 6 rfl (by kernel_rfl) (by kernel_rfl) (by kernel_rfl) (fun _ _ _ h => h) (by rfl) ?y482 (by assumption) ?_
          case y482 => (intro w hSw; unfold HeldG13 at hSw; go_simp; (try with_reducible rfl); (try omega))
          simp only [List.setIfInBounds_toArray, List.set_cons_zero, List.set_cons_succ]
          refine held_take (v := ?v485) 7 rfl (by kernel_rfl) (by kernel_rfl) (by kernel_rfl) (fun _ _ _ h => h) (by rfl) ?y485 (by assumption) ?_
          case y485 => (intro w hSw; unfold HeldG13 at hSw; go_simp; (try with_reducible rfl); (try omega))
          simp only [List.setIfInBounds_toArray, List.set_cons_zero, List.set_cons_succ]
          refine held_take (v := ?v488) 8 rfl (by kernel_rfl) (by kernel_rfl) (by kernel_rfl) (fun _ _ _ h => h) (by rfl) ?y488 (by assumption) ?_
          case y488 => (intro w hSw; unfold HeldG13 at hSw; go_simp; (try with_reducible rfl); (try omega))
          simp only [List.setIfInBounds_toArray, List.set_cons_zero, List.set_cons_succ]
          refine held_take (v := ?v491) 9 rfl (by kernel_rfl) (by kernel_rfl) (by kernel_rfl) (fun _ _ _ h => h) (by rfl) ?y491 (by assumption) ?_
          case y491 => (intro w hSw; unfold HeldG13 at hSw; go_simp; (try with_reducible rfl); (try omega))
          simp only [List.setIfInBounds_toArray, List.set_cons_zero, List.set_cons_succ]
          refine held_take (v := ?v494) 10 rfl (by kernel_rfl) (by kernel_rfl) (by kernel_rfl) (fun _ _ _ h => h) (by rfl) ?y494 (by assumption) ?_
          case y494 => (intro w hSw; unfold HeldG13 at hSw; go_simp; (try with_reducible rfl); (try omega))
          simp only [List.setIfInBounds_toArray, List.set_cons_zero, List.set_cons_succ]
          refine held_take (v := ?v497) 11 rfl (by kernel_rfl) (by kernel_rfl) (by kernel_rfl) (fun _ _ _ h => h) (by rfl) ?y497 (by assumption) ?_
          case y497 => (intro w hSw; unfold HeldG13 at hSw; go_simp; (try with_reducible rfl); (try omega))
          simp only [List.setIfInBounds_toArray, List.set_cons_zero, List.set_cons_succ]
          refine held_take (v := ?v500) 12 rfl (by kernel_rfl) (by kernel_rfl) (by kernel_rfl) (fun _ _ _ h => h) (by rfl) ?y500 (by assumption) ?_
          case y500 => (intro w hSw; unfold HeldG13 at hSw; go_simp; (try with_reducible rfl); (try omega))
          simp only [List.setIfInBounds_toArray, List.set_cons_zero, List.set_cons_succ]
          refine held_take (v := ?v503) 13 rfl (by kernel_rfl) (by kernel_rfl) (by kernel_rfl) (fun _ _ _ h => h) (by rfl) ?y503 (by assumption) ?_
          case y503 => (intro w hSw; unfold HeldG13 at hSw; go_simp; (try with_reducible rfl); (try omega))
          simp only [List.setIfInBounds_toArray, List.set_cons_zero, List.set_cons_succ]
          refine held_take (v := ?v506) 14 rfl (by kernel_rfl) (by kernel_rfl) (by kernel_rfl) (fun _ _ _ h => h) (by rfl) ?y506 (by assumption) ?_
          case y506 => (intro w hSw; unfold HeldG13 at hSw; go_simp; (try with_reducible rfl); (try omega))
          simp only [List.setIfInBounds_toArray, List.set_cons_zero, List.set_cons_succ]
          refine held_take (v := ?v509) 16 rfl (by kernel_rfl) (by kernel_rfl) (by kernel_rfl) (fun _ _ _ h => h) (by rfl) ?y509 (by assumption) ?_
          case y509 => (intro w hSw; unfold HeldG13 at hSw; go_simp; (try with_reducible rfl); (try omega))
          simp only [List.setIfInBounds_toArray, List.set_cons_zero, List.set_cons_succ]
          refine held_take (v := ?v512) 17 rfl (by kernel_rfl) (by kernel_rfl) (by kernel_rfl) (fun _ _ _ h => h) (by rfl) ?y512 (by assumption) ?_
          case y512 => (intro w hSw; unfold HeldG13 at hSw; go_simp; (try with_reducible rfl); (try omega))
          simp only [List.setIfInBounds_toArray, List.set_cons_zero, List.set_cons_succ]
          refine held_take (v := ?v515) 18 rfl (by kernel_rfl) (by kernel_rfl) (by kernel_rfl) (fun _ _ _ h => h) (by rfl) ?y515 (by assumption) ?_
          case y515 => (intro w hSw; unfold HeldG13 at hSw; go_simp; (try with_reducible rfl); (try omega))
          simp only [List.setIfInBounds_toArray, List.set_cons_zero, List.set_cons_succ]
          refine held_one 15 rfl (by kernel_rfl) (by rfl) (fun K hK => ?_)
          go_simp
          refine (HLEN.out _ HZ7.out.p).mono ?_
          rintro e w' ⟨rfl, rfl⟩
          refine hK.out _ _ hHeld (fun _ => ?_)
          (try simp only [Act.put, List.setIfInBounds_toArray, List.set_cons_zero, List.set_cons_succ])
          clear hK K
          refine held_take (v := ?v525) 19 rfl (by kernel_rfl) (by kernel_rfl) (by kernel_rfl) (fun _ _ _ h => h) (by rfl) ?y525 (by assumption) ?_
          case y525 => (intro w hSw; unfold HeldG13 at hSw; go_simp; (try with_reducible rfl); (try omega))
          simp only [List.setIfInBounds_toArray, List.set_cons_zero, List.set_cons_succ]
          refine held_take (v := ?v528) 20 rfl (by kernel_rfl) (by kernel_rfl) (by kernel_rfl) (fun _ _ _ h => h) (by rfl) ?y528 (by assumption) ?_
          case y528 => (intro w hSw; unfold HeldG13 at hSw; go_simp; (try with_reducible rfl); (try omega))
          simp only [List.setIfInBounds_toArray, List.set_cons_zero, List.set_cons_succ]
          refine wpAnyH_done (by kernel_rfl) ?_ _
          refine NoPanic.normal ?_
          go_wp2
          go_roundw
          case rel => exact ⟨j + 1, L', a', _, cap', hlt, by go_num, HLS, HZ7⟩
          case measure => simp [intOf]; omega
        · have HLS : Hid (L.length ≤ j + 1) := Lib.hid (by have := HLJ.out; omega)
          have HZS := HZ1
          have HBS := HB9
          obtain ⟨L', hL'⟩ : ∃ L', L' = L := ⟨_, rfl⟩
          obtain ⟨a', ha'⟩ : ∃ a', a' = ao := ⟨_, rfl⟩
          obtain ⟨n', hn'⟩ : ∃ n', n' = n := ⟨_, rfl⟩
          obtain ⟨cap', hcap'⟩ : ∃ cap', cap' = cap := ⟨_, rfl⟩
          rw [← hL', ← ha', ← hn', ← hcap'] at HZS
          rw [← hL'] at HLS
          clear hL' ha' hn' hcap' HZ1 HB9 d1 d2 hL9
          generalize W1 = WS at *
          have HRNX := Lib.hid (show x.a = x.a from rfl)
          have c2 : WS.cell? ⟨gw, 2, none⟩ = some (.slice a' n' cap') := (HZS.out.bx.cell 2).trans rfl
          have e1 : WS.cell? ⟨B9, 1, none⟩ = some (.int .i64 x.a) := (HBS.out.cell 1).trans rfl
          obtain ⟨gv, hgv⟩ : ∃ gv, gv = get13 x.a L' := ⟨_, rfl⟩
          have HG1 := Lib.hid (TAB.out.get x.a HZS.out.p)
          rw [← hgv] at HG1
          clear c2
          go_wp2_with (go_at_call 13; refine HG1.out.mono ?_; rintro e w6 ⟨rfl, b6⟩; refine Hid.out ?_)
          refine Lib.hid ?_
          have HZ6 := Lib.hid (HZS.out.up TAB.out b6)
          have HBX6 := Lib.hid (HBS.out.up b6)
          have e6 : w6.cell? ⟨B9, 1, none⟩ = some (.int .i64 x.a) := (HBX6.out.cell 1).trans rfl
          have RT6 := Lib.hid (rangeAll HZ6.out.bx)
          have HG2 := Lib.hid (rget13 is room a' n' cap' L' x.a w6 HZ6.out.is (by have := HLS.out; omega))
          rw [← hgv] at HG2
          clear HZS HBS b6 e1 HG1
          go_wp2_with (first
            | (refine plV rfl (t3V is room (.slice a' n' cap')) (exec_load_any _ (.tmp 7) rfl gw 0 (t3R is room (.slice a' n' cap')) _ rfl RT6.out Try.underlying28 rfl t3_info) ?_)
            | (go_at_call 14; refine HG2.out.mono ?_; rintro e w7 ⟨rfl, b7⟩; refine Hid.out ?_))
          refine Lib.hid ?_
          have HZ7 := Lib.hid ((HZ6.out.up TAB.out b7).up TAB.out (Below.refl _ _).drew)
          obtain ⟨rfl, _, hcmx, _⟩ := HZ7.out.is.shape
          unfold maxLen at hcmx
          have HLEN := Lib.hid (fun (W : World) (hp : P L' W) => TAB.out.len hp)
          clear HZ6 HBX6 e6 RT6 HG2 b7
          go_wp2_with fail
          refine wp_region_noPanic ?_
          refine wp_region_held_drew (S := HeldG13 gw (.slice a' L'.length cap')) (by kernel_rfl) ((HZ7.out.bx.cell 2).trans rfl) (fun hHeld => ?_)
          generalize w7.drew = w8 at *
          refine held_take (v := ?v577) 0 rfl (by kernel_rfl) (by kernel_rfl) (by kernel_rfl) (fun _ _ _ h => h) (by rfl) ?y577 (by assumption) ?_
          case y577 => (intro w hSw; unfold HeldG13 at hSw; go_simp; (try with_reducible rfl); (try omega))
          simp only [List.setIfInBounds_toArray, List.set_cons_zero, List.set_cons_succ]
          refine held_take (v := ?v580) 1 rfl (by kernel_rfl) (by kernel_rfl) (by kernel_rfl) (fun _ _ _ h => h) (by rfl) ?y580 (by assumption) ?_
          case y580 => (intro w hSw; unfold HeldG13 at hSw; go_simp; (try with_reducible rfl); (try omega))
          simp only [List.setIfInBounds_toArray, List.set_cons_zero, List.set_cons_succ]
          refine held_take (v := ?v583) 2 rfl (by kernel_rfl) (by kernel_rfl) (by kernel_rfl) (fun _ _ _ h => h) (by rfl) ?y583 (by assumption) ?_
          case y583 => (intro w hSw; unfold HeldG13 at hSw; go_simp; (try with_reducible rfl); (try omega))
          simp only [List.setIfInBounds_toArray, List.set_cons_zero, List.set_cons_succ]
          refine held_take (v := ?v586) 3 rfl (by kernel_rfl) (by kernel_rfl) (by kernel_rfl) (fun _ _ _ h => h) (by rfl) ?y586 (by assumption) ?_
          case y586 => (intro w hSw; unfold HeldG13 at hSw; go_simp; (try with_reducible rfl); (try omega))
          simp only [List.setIfInBounds_toArray, List.set_cons_zero, List.set_cons_succ]
          refine held_take (v := ?v589) 4 rfl (by kernel_rfl) (by kernel_rfl) (by kernel_rfl) (fun _ _ _ h => h) (by rfl) ?y589 (by assumption) ?_
          case y589 => (intro w hSw; unfold HeldG13 at hSw; go_simp; (try with_reducible rfl); (try omega))
          simp only [List.setIfInBounds_toArray, List.set_cons_zero, List.set_cons_succ]
          refine held_take (v := ?v592) 5 rfl (by kernel_rfl) (by kernel_rfl) (by kernel_rfl) (fun _ _ _ h => h) (by rfl) ?y592 (by assumption) ?_
          case y592 => (intro w hSw; unfold HeldG13 at hSw; go_simp; (try with_reducible rfl); (try omega))
          simp only [List.setIfInBounds_toArray, List.set_cons_zero, List.set_cons_succ]
          refine held_take (v := ?v595) 6 rfl (by kernel_rfl) (by kernel_rfl) (by kernel_rfl) (fun _ _ _ h => h) (by rfl) ?y595 (by assumption) ?_
          case y595 => (intro w hSw; unfold HeldG13 at hSw; go_simp; (try with_reducible rfl); (try omega))
          simp only [List.setIfInBounds_toArray, List.set_cons_zero, List.set_cons_succ]
          refine held_take (v := ?v598) 7 rfl (by kernel_rfl) (by kernel_rfl) (by kernel_rfl) (fun _ _ _ h => h) (by rfl) ?y598 (by assumption) ?_
          case y598 => (intro w hSw; unfold HeldG13 at hSw; go_simp; (try with_reducible rfl); (try omega))
          simp only [List.setIfInBounds_toArray, List.set_cons_zero, List.set_cons_succ]
          refine held_take (v := ?v601) 8 rfl (by kernel_rfl) (by kernel_rfl) (by kernel_rfl) (fun _ _ _ h => h) (by rfl) ?y601 (by assumption) ?_
          case y601 => (intro w hSw; unfold HeldG13 at hSw; go_simp; (try with_reducible rfl); (try omega))
          simp only [List.setIfInBounds_toArray, List.set_cons_zero, List.set_cons_succ]
          refine held_take (v := ?v604) 9 rfl (by kernel_rfl) (by kernel_rfl) (by kernel_rfl) (fun _ _ _ h => h) (by rfl) ?y604 (by assumption) ?_
          case y604 => (intro w hSw; unfold HeldG13 at hSw; go_simp; (try with_reducible rfl); (try omega))
          simp only [List.setIfInBounds_toArray, List.set_cons_zero, List.set_cons_succ]
          refine held_take (v := ?v607) 10 rfl (by kernel_rfl) (by kernel_rfl) (by kernel_rfl) (fun _ _ _ h => h) (by rfl) ?y607 (by assumption) ?_
          case y607 => (intro w hSw; unfold HeldG13 at hSw; go_simp; (try with_reducible rfl); (try omega))
          simp only [List.setIfInBounds_toArray, List.set_cons_zero, List.set_cons_succ]
          refine held_take (v := ?v610) 11 rfl (by kernel_rfl) (by kernel_rfl) (by kernel_rfl) (fun _ _ _ h => h) (by rfl) ?y610 (by assumption) ?_
          case y610 => (intro w hSw; unfold HeldG13 at hSw; go_simp; (try with_reducible rfl); (try omega))
          simp only [List.setIfInBounds_toArray, List.set_cons_zero, List.set_cons_succ]
          refine held_take (v := ?v613) 12 rfl (by kernel_rfl) (by kernel_rfl) (by kernel_rfl) (fun _ _ _ h => h) (by rfl) ?y613 (by assumption) ?_
          case y613 => (intro w hSw; unfold HeldG13 at hSw; go_simp; (try with_reducible rfl); (try omega))
          simp only [List.setIfInBounds_toArray, List.set_cons_zero, List.set_cons_succ]
          refine held_take (v := ?v616) 13 rfl (by kernel_rfl) (by kernel_rfl) (by kernel_rfl) (fun _ _ _ h => h) (by rfl) ?y616 (by assumption) ?_
          case y616 => (intro w hSw; unfold HeldG13 at hSw; go_simp; (try with_reducible rfl); (try omega))
          simp only [List.setIfInBounds_toArray, List.set_cons_zero, List.set_cons_succ]
          refine held_take (v := ?v619) 14 rfl (by kernel_rfl) (by kernel_rfl) (by kernel_rfl) (fun _ _ _ h => h) (by rfl) ?y619 (by assumption) ?_
          case y619 => (intro w hSw; unfold HeldG13 at hSw; go_simp; (try with_reducible rfl); (try omega))
          simp only [List.setIfInBounds_toArray, List.set_cons_zero, List.set_cons_succ]
          refine held_take (v := ?v622) 16 rfl (by kernel_rfl) (by kernel_rfl) (by kernel_rfl) (fun _ _ _ h => h) (by rfl) ?y622 (by assumption) ?_
          case y622 => (intro w hSw; unfold HeldG13 at hSw; go_simp; (try with_reducible rfl); (try omega))
          simp only [List.setIfInBounds_toArray, List.set_cons_zero, List.set_cons_succ]
          refine held_take (v := ?v625) 17 rfl (by kernel_rfl) (by kernel_rfl) (by kernel_rfl) (fun _ _ _ h => h) (by rfl) ?y625 (by assumption) ?_
          case y625 => (intro w hSw; unfold HeldG13 at hSw; go_simp; (try with_reducible rfl); (try omega))
          simp only [List.setIfInBounds_toArray, List.set_cons_zero, List.set_cons_succ]
          refine held_take (v := ?v628) 18 rfl (by kernel_rfl) (by kernel_rfl) (by kernel_rfl) (fun _ _ _ h => h) (by rfl) ?y628 (by assumption) ?_
          case y628 => (intro w hSw; unfold HeldG13 at hSw; go_simp; (try with_reducible rfl); (try omega))
          simp only [List.setIfInBounds_toArray, List.set_cons_zero, List.set_cons_succ]
          refine held_one 15 rfl (by kernel_rfl) (by rfl) (fun K hK => ?_)
          go_simp
          refine (HLEN.out _ HZ7.out.p).mono ?_
          rintro e w' ⟨rfl, rfl⟩
          refine hK.out _ _ hHeld (fun _ => ?_)
          (try simp only [Act.put, List.setIfInBounds_toArray, List.set_cons_zero, List.set_cons_succ])
          clear hK K
          refine held_take (v := ?v638) 19 rfl (by kernel_rfl) (by kernel_rfl) (by kernel_rfl) (fun _ _ _ h => h) (by rfl) ?y638 (by assumption) ?_
          case y638 => (intro w hSw; unfold HeldG13 at hSw; go_simp; (try with_reducible rfl); (try omega))
          simp only [List.setIfInBounds_toArray, List.set_cons_zero, List.set_cons_succ]
          refine held_take (v := ?v641) 20 rfl (by kernel_rfl) (by kernel_rfl) (by kernel_rfl) (fun _ _ _ h => h) (by rfl) ?y641 (by assumption) ?_
          case y641 => (intro w hSw; unfold HeldG13 at hSw; go_simp; (try with_reducible rfl); (try omega))
          simp only [List.setIfInBounds_toArray, List.set_cons_zero, List.set_cons_succ]
          refine wpAnyH_done (by kernel_rfl) ?_ _
          refine NoPanic.normal ?_
          go_wp2
          go_roundw
          case rel => exact ⟨j + 1, L', a', _, cap', hlt, by go_num, HLS, HZ7⟩
          case measure => simp [intOf]; omega
    · have hlti : ¬ (j : Int) < (l.length : Int) := by omega
      have hL9 : L.length ≤ 900000 := by have := HLJ.out; omega
      have HAL := Lib.hid (TAB.out.all HZ.out.p)
      go_wp2_with (go_at_call 16; refine HAL.out.mono ?_; rintro e w5 ⟨⟨v5, rfl, i5⟩, b5⟩; refine Hid.out ?_)
      refine Lib.hid ?_
      have HZ5 := Lib.hid (HZ.out.up TAB.out b5)
      obtain ⟨_, av, cv, rfl, _, hcmv, hcv⟩ := i5
      have HCV := Lib.hid hcv
      unfold maxLen at hcmv
      obtain ⟨rfl, _, hcmr, _⟩ := HZ5.out.is.shape
      unfold maxLen at hcmr
      have c2 : w5.cell? ⟨gw, 2, none⟩ = some (.slice ao L.length cap) := (HZ5.out.bx.cell 2).trans rfl
      clear HAL HZ b5 hcv
      go_wp2
      go_loopw [21] (fun i wq => ∃ (q : Nat), q ≤ L.length ∧ i = .int .i64 (q : Int) ∧ Hid (Below w5.heap.size w5 wq)) (fun i _ => L.length - (intOf i).toNat)
      case atStart => exact ⟨0, Nat.zero_le _, rfl, Lib.hid (Below.refl _ _)⟩
      case round =>
        clear c2
        obtain ⟨q, hq, rfl, HBQ⟩ := hrel
        rename World => wq
        by_cases hqlt : q < L.length
        · have hqi : (q : Int) < (L.length : Int) := by omega
          have hq0 : ¬ (q : Int) < 0 := by omega
          obtain ⟨y, hy⟩ : ∃ y, L[q]? = some y := ⟨L[q], List.getElem?_eq_getElem hqlt⟩
          obtain ⟨bb, kk, rfl, hbb, hrr⟩ := HCV.out (by omega)
          obtain ⟨rb, rk, rfl, hrb, hro⟩ := isI_at HZ5.out.is q y hy
          have hfr := flat_range (iR_all L) hrr q y hy
          have hel : ∀ V, Below w5.heap.size w5 V → HeldC13 gw bb kk rb rk q cap L.length y V := fun V hV =>
            ⟨((HZ5.out.bx.up hV).cell 2).trans rfl, (hV.cell (p := ⟨bb, kk + q * 2, none⟩) hbb).trans (hfr 0 _ rfl), (hV.cell (p := ⟨bb, kk + q * 2 + 1, none⟩) hbb).trans (hfr 1 _ rfl), (hV.cell (p := ⟨rb, rk + q * 2, none⟩) hrb).trans (hro 0 _ rfl), (hV.cell (p := ⟨rb, rk + q * 2 + 1, none⟩) hrb).trans (hro 1 _ rfl)⟩
          have hdd := below_up HBQ.out (Below.refl wq.heap.size wq).drew HBQ.out.size
          have HDD := Lib.hid hdd
          have HEL := Lib.hid (hel _ hdd)
          clear hy hrr hro hfr hel hdd HBQ
          go_wp2_with fail
          refine wp_region_noPanic ?_
          refine wp_region_held_drew (S := HeldC13 gw bb kk rb rk q cap L.length y) (by kernel_rfl) HEL.out (fun hHeld => ?_)
          generalize wq.drew = w7 at *
          refine held_take (v := ?v687) 0 rfl (by kernel_rfl) (by kernel_rfl) (by kernel_rfl) (fun _ _ _ h => h) (by rfl) ?y687 (by assumption) ?_
          case y687 => (intro w hSw; unfold HeldC13 at hSw; go_simp; (try with_reducible rfl); (try omega))
          simp only [List.setIfInBounds_toArray, List.set_cons_zero, List.set_cons_succ]
          refine held_take (v := ?v690) 1 rfl (by kernel_rfl) (by kernel_rfl) (by kernel_rfl) (fun _ _ _ h => h) (by rfl) ?y690 (by assumption) ?_
          case y690 => (intro w hSw; unfold HeldC13 at hSw; go_simp; (try with_reducible rfl); (try omega))
          simp only [List.setIfInBounds_toArray, List.set_cons_zero, List.set_cons_succ]
          refine held_take (v := ?v693) 2 rfl (by kernel_rfl) (by kernel_rfl) (by kernel_rfl) (fun _ _ _ h => h) (by rfl) ?y693 (by assumption) ?_
          case y693 => (intro w hSw; unfold HeldC13 at hSw; go_simp; (try with_reducible rfl); (try omega))
          simp only [List.setIfInBounds_toArray, List.set_cons_zero, List.set_cons_succ]
          refine held_take (v := ?v696) 3 rfl (by kernel_rfl) (by kernel_rfl) (by kernel_rfl) (fun _ _ _ h => h) (by rfl) ?y696 (by assumption) ?_
          case y696 => (intro w hSw; unfold HeldC13 at hSw; go_simp; (try with_reducible rfl); (try omega))
          simp only [List.setIfInBounds_toArray, List.set_cons_zero, List.set_cons_succ]
          refine held_take (v := ?v699) 4 rfl (by kernel_rfl) (by kernel_rfl) (by kernel_rfl) (fun _ _ _ h => h) (by rfl) ?y699 (by assumption) ?_
          case y699 => (intro w hSw; unfold HeldC13 at hSw; go_simp; (try with_reducible rfl); (try omega))
          simp only [List.setIfInBounds_toArray, List.set_cons_zero, List.set_cons_succ]
          refine held_take (v := ?v702) 5 rfl (by kernel_rfl) (by kernel_rfl) (by kernel_rfl) (fun _ _ _ h => h) (by rfl) ?y702 (by assumption) ?_
          case y702 => (intro w hSw; unfold HeldC13 at hSw; go_simp; (try with_reducible rfl); (try omega))
          simp only [List.setIfInBounds_toArray, List.set_cons_zero, List.set_cons_succ]
          refine held_take (v := ?v705) 6 rfl (by kernel_rfl) (by kernel_rfl) (by kernel_rfl) (fun _ _ _ h => h) (by rfl) ?y705 (by assumption) ?_
          case y705 => (intro w hSw; unfold HeldC13 at hSw; go_simp; (try with_reducible rfl); (try omega))
          simp only [List.setIfInBounds_toArray, List.set_cons_zero, List.set_cons_succ]
          refine held_take (v := ?v708) 7 rfl (by kernel_rfl) (by kernel_rfl) (by kernel_rfl) (fun _ _ _ h => h) (by rfl) ?y708 (by assumption) ?_
          case y708 => (intro w hSw; unfold HeldC13 at hSw; go_simp; (try with_reducible rfl); (try omega))
          simp only [List.setIfInBounds_toArray, List.set_cons_zero, List.set_cons_succ]
          refine held_take (v := ?v711) 8 rfl (by kernel_rfl) (by kernel_rfl) (by kernel_rfl) (fun _ _ _ h => h) (by rfl) ?y711 (by assumption) ?_
          case y711 => (intro w hSw; unfold HeldC13 at hSw; go_simp; (try with_reducible rfl); (try omega))
          simp only [List.setIfInBounds_toArray, List.set_cons_zero, List.set_cons_succ]
          refine held_take (v := ?v714) 9 rfl (by kernel_rfl) (by kernel_rfl) (by kernel_rfl) (fun _ _ _ h => h) (by rfl) ?y714 (by assumption) ?_
          case y714 => (intro w hSw; unfold HeldC13 at hSw; go_simp; (try with_reducible rfl); (try omega))
          simp only [List.setIfInBounds_toArray, List.set_cons_zero, List.set_cons_succ]
          refine held_take (v := ?v717) 10 rfl (by kernel_rfl) (by kernel_rfl) (by kernel_rfl) (fun _ _ _ h => h) (by rfl) ?y717 (by assumption) ?_
          case y717 => (intro w hSw; unfold HeldC13 at hSw; go_simp; (try with_reducible rfl); (try omega))
          simp only [List.setIfInBounds_toArray, List.set_cons_zero, List.set_cons_succ]
          refine held_take (v := ?v720) 11 rfl (by kernel_rfl) (by kernel_rfl) (by kernel_rfl) (fun _ _ _ h => h) (by rfl) ?y720 (by assumption) ?_
          case y720 => (intro w hSw; unfold HeldC13 at hSw; go_simp; (try with_reducible rfl); (try omega))
          simp only [List.setIfInBounds_toArray, List.set_cons_zero, List.set_cons_succ]
          refine held_take (v := ?v723) 12 rfl (by kernel_rfl) (by kernel_rfl) (by kernel_rfl) (fun _ _ _ h => h) (by rfl) ?y723 (by assumption) ?_
          case y723 => (intro w hSw; unfold HeldC13 at hSw; go_simp; (try with_reducible rfl); (try omega))
          simp only [List.setIfInBounds_toArray, List.set_cons_zero, List.set_cons_succ]
          refine held_take (v := ?v726) 13 rfl (by kernel_rfl) (by kernel_rfl) (by kernel_rfl) (fun _ _ _ h => h) (by rfl) ?y726 (by assumption) ?_
          case y726 => (intro w hSw; unfold HeldC13 at hSw; go_simp; (try with_reducible rfl); (try omega))
          simp only [List.setIfInBounds_toArray, List.set_cons_zero, List.set_cons_succ]
          refine held_take (v := ?v729) 14 rfl (by kernel_rfl) (by kernel_rfl) (by kernel_rfl) (fun _ _ _ h => h) (by rfl) ?y729 (by assumption) ?_
          case y729 => (intro w hSw; unfold HeldC13 at hSw; go_simp; (try with_reducible rfl); (try omega))
          simp only [List.setIfInBounds_toArray, List.set_cons_zero, List.set_cons_succ]
          refine held_take (v := ?v732) 15 rfl (by kernel_rfl) (by kernel_rfl) (by kernel_rfl) (fun _ _ _ h => h) (by rfl) ?y732 (by assumption) ?_
          case y732 => (intro w hSw; unfold HeldC13 at hSw; go_simp; (try with_reducible rfl); (try omega))
          simp only [List.setIfInBounds_toArray, List.set_cons_zero, List.set_cons_succ]
          refine held_take (v := ?v735) 16 rfl (by kernel_rfl) (by kernel_rfl) (by kernel_rfl) (fun _ _ _ h => h) (by rfl) ?y735 (by assumption) ?_
          case y735 => (intro w hSw; unfold HeldC13 at hSw; go_simp; (try with_reducible rfl); (try omega))
          simp only [List.setIfInBounds_toArray, List.set_cons_zero, List.set_cons_succ]
          refine held_take (v := ?v738) 17 rfl (by kernel_rfl) (by kernel_rfl) (by kernel_rfl) (fun _ _ _ h => h) (by rfl) ?y738 (by assumption) ?_
          case y738 => (intro w hSw; unfold HeldC13 at hSw; go_simp; (try with_reducible rfl); (try omega))
          simp only [List.setIfInBounds_toArray, List.set_cons_zero, List.set_cons_succ]
          refine held_take (v := ?v741) 18 rfl (by kernel_rfl) (by kernel_rfl) (by kernel_rfl) (fun _ _ _ h => h) (by rfl) ?y741 (by assumption) ?_
          case y741 => (intro w hSw; unfold HeldC13 at hSw; go_simp; (try with_reducible rfl); (try omega))
          simp only [List.setIfInBounds_toArray, List.set_cons_zero, List.set_cons_succ]
          refine held_take (v := ?v744) 19 rfl (by kernel_rfl) (by kernel_rfl) (by kernel_rfl) (fun _ _ _ h => h) (by rfl) ?y744 (by assumption) ?_
          case y744 => (intro w hSw; unfold HeldC13 at hSw; go_simp; (try with_reducible rfl); (try omega))
          simp only [List.setIfInBounds_toArray, List.set_cons_zero, List.set_cons_succ]
          refine held_take (v := ?v747) 20 rfl (by kernel_rfl) (by kernel_rfl) (by kernel_rfl) (fun _ _ _ h => h) (by rfl) ?y747 (by assumption) ?_
          case y747 => (intro w hSw; unfold HeldC13 at hSw; go_simp; (try with_reducible rfl); (try omega))
          simp only [List.setIfInBounds_toArray, List.set_cons_zero, List.set_cons_succ]
          refine held_take (v := ?v750) 21 rfl (by kernel_rfl) (by kernel_rfl) (by kernel_rfl) (fun _ _ _ h => h) (by rfl) ?y750 (by assumption) ?_
          case y750 => (intro w hSw; unfold HeldC13 at hSw; go_simp; (try with_reducible rfl); (try omega))
          simp only [List.setIfInBounds_toArray, List.set_cons_zero, List.set_cons_succ]
          refine held_take (v := ?v753) 22 rfl (by kernel_rfl) (by kernel_rfl) (by kernel_rfl) (fun _ _ _ h => h) (by rfl) ?y753 (by assumption) ?_
          case y753 => (intro w hSw; unfold HeldC13 at hSw; go_simp; (try with_reducible rfl); (try omega))
          simp only [List.setIfInBounds_toArray, List.set_cons_zero, List.set_cons_succ]
          refine held_take (v := ?v756) 23 rfl (by kernel_rfl) (by kernel_rfl) (by kernel_rfl) (fun _ _ _ h => h) (by rfl) ?y756 (by assumption) ?_
          case y756 => (intro w hSw; unfold HeldC13 at hSw; go_simp; (try with_reducible rfl); (try omega))
          simp only [List.setIfInBounds_toArray, List.set_cons_zero, List.set_cons_succ]
          refine held_take (v := ?v759) 24 rfl (by kernel_rfl) (by kernel_rfl) (by kernel_rfl) (fun _ _ _ h => h) (by rfl) ?y759 (by assumption) ?_
          case y759 => (intro w hSw; unfold HeldC13 at hSw; go_simp; (try with_reducible rfl); (try omega))
          simp only [List.setIfInBounds_toArray, List.set_cons_zero, List.set_cons_succ]
          refine held_take (v := ?v762) 25 rfl (by kernel_rfl) (by kernel_rfl) (by kernel_rfl) (fun _ _ _ h => h) (by rfl) ?y762 (by assumption) ?_
          case y762 => (intro w hSw; unfold HeldC13 at hSw; go_simp; (try with_reducible rfl); (try omega))
          simp only [List.setIfInBounds_toArray, List.set_cons_zero, List.set_cons_succ]
          refine wpAnyH_done (by kernel_rfl) ?_ _
          refine NoPanic.normal ?_
          go_wp2
          go_roundw
          case rel => exact ⟨q + 1, hqlt, by go_num, HDD⟩
          case measure => simp [intOf]; omega
        · have hqi : ¬ (q : Int) < (L.length : Int) := by omega
          have HBW := Lib.hid (below_up HZ5.out.b HBQ.out HZ5.out.b.size)
          clear HBQ
          go_wp2
          go_ret
          exact ⟨rfl, HBW.out⟩
end Go.Proofs.Ytoliijajhikhgaa
