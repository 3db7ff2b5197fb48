/- SlotsFound: however labels come and go, all that came last, and went not, are found, and no others. -/
import Derived.Test.YtoliijajhikhgaaLaw13Order
namespace Go.Proofs.Ytoliijajhikhgaa
open Go Go.RowKit Go.Shelf
attribute [local go_sem] Oper.semAt_some

def numI (b x : Nat) : Int := ((x * b % 1048576 : Nat) : Int)
theorem numI_chk (b x : Nat) : chk13 (numI b x) = 0 := by
  unfold chk13 numI
  rw [if_neg (by omega)]
/-- what came last of a label, told step by step -/
def stF (lab gn : List Int) (n : Int) (k : Nat) (s : Int) : Int := if gn[k]? = some n then -1 else if lab[k]? = some n then (k : Int) else s
def foldF (lab gn : List Int) (n : Int) : Nat → Int
  | 0 => -1
  | k + 1 => stF lab gn n k (foldF lab gn n k)
def tellF (s : Int) : Int × Bool := if 0 ≤ s then (s, true) else (0, false)
theorem tell_put {lab : List Int} {L : List (Int × Int)} {j : Nat} {a : Int} {f : Int → Int} (hs : SrtL L) (h : ∀ n, get13 n L = tellF (f n)) (ha : lab[j]? = some a) :
    ∀ n, get13 n (put13 a (j : Int) L) = tellF (if lab[j]? = some n then (j : Int) else f n) := by
  intro n
  rw [get_put13 hs, ha]
  by_cases e : a = n
  · subst e
    rw [if_pos rfl, if_pos rfl]
    unfold tellF
    rw [if_pos (by omega)]
  · rw [if_neg e, if_neg (fun h => e (Option.some.inj h))]
    exact h n
theorem tell_del {gn : List Int} {L : List (Int × Int)} {j : Nat} {b : Int} {f : Int → Int} (hs : SrtL L) (h : ∀ n, get13 n L = tellF (f n)) (hc : chk13 b = 0) (hb : gn[j]? = some b) :
    ∀ n, get13 n (delQ b L).2 = tellF (if gn[j]? = some n then -1 else f n) := by
  intro n
  unfold delQ
  rw [if_pos hc, hb]
  have ht : tellF (-1) = (0, false) := rfl
  cases hi : is13 b L with
  | true =>
    rw [if_pos rfl]
    show get13 n (del13 b L) = _
    rw [get_del13 hs n hi]
    by_cases e : b = n
    · subst e
      rw [if_pos rfl, if_pos rfl, ht]
    · rw [if_neg e, if_neg (fun h => e (Option.some.inj h))]
      exact h n
  | false =>
    rw [if_neg (by decide)]
    show get13 n L = _
    by_cases e : b = n
    · subst e
      rw [if_pos rfl, ht]
      exact is13_none hi
    · rw [if_neg (fun h => e (Option.some.inj h))]
      exact h n
theorem delQ_le (a : Int) (L : List (Int × Int)) : (delQ a L).2.length ≤ L.length := by
  unfold delQ
  split
  · split
    · show (del13 a L).length ≤ _
      unfold del13
      have := idx13_le a L
      rw [List.length_append, List.length_take, List.length_drop]
      omega
    · exact Nat.le_refl _
  · exact Nat.le_refl _
theorem stF_same {lab gn : List Int} {n : Int} {k : Nat} (h : lab[k]? = some n) (s t : Int) : stF lab gn n k s = stF lab gn n k t := by
  unfold stF
  rw [if_pos h, if_pos h]
theorem getF {L : List (Int × Int)} {n s : Int} (hc : chk13 n = 0) (h : get13 n L = tellF s) : getQ n L = tellF s := by
  unfold getQ
  rw [if_pos hc]
  exact h
theorem u16R_all (l : List Nat) : ∀ x ∈ l, (u16R x).length = 1 := fun _ _ => rfl
theorem u16_at {W : World} {a : Option Addr} {n cap : Nat} {l : List Nat} (h : IsC u16R 1 W (.slice a n cap) l) (j : Nat) (x : Nat) (hx : l[j]? = some x) : ∃ b k, a = some ⟨b, k, none⟩ ∧ b < W.heap.size ∧ ∀ V, Below W.heap.size W V → V.cell? ⟨b, k + j, none⟩ = some (.int .u16 (x : Int)) := by
  obtain ⟨rfl, _, _, h3⟩ := h.shape
  have hj := (List.getElem?_eq_some_iff.1 hx).1
  obtain ⟨b, k, e, hb, hc⟩ := h3 (by omega)
  refine ⟨b, k, e, hb, fun V hV => ?_⟩
  have h4 := flat_range (u16R_all l) hc j x hx 0 _ rfl
  rw [Nat.mul_one] at h4
  exact (hV.cell (p := ⟨b, k + j, none⟩) hb).trans h4
theorem tmod_pos {y : Int} (h : 0 ≤ y) : Int.tmod y 1048576 = y % 1048576 := Int.tmod_eq_emod_of_nonneg h
/-- what the walk asks of a label's number -/
structure NumZ (b x : Nat) (Y : Int) : Prop where
  q : (x : Int) * (b : Int) = Y
  m1 : IntKind.i64.wrap Y = Y
  m2 : wrap64 Y = Y
  r : Int.tmod Y 1048576 = numI b x
  r2 : Y % 1048576 = numI b x
  n1 : IntKind.i64.wrap (numI b x) = numI b x
  n2 : wrap64 (numI b x) = numI b x
theorem num_z {b x : Nat} (hb : b ≤ 256) (hx : x ≤ 65535) : ∃ Y, NumZ b x Y := by
  have hle : x * b ≤ 65535 * 256 := Nat.mul_le_mul hx hb
  have hq : (x : Int) * (b : Int) = ((x * b : Nat) : Int) := (Int.natCast_mul x b).symm
  have hn : numI b x = ((x * b : Nat) : Int) % 1048576 := by unfold numI; rw [Int.natCast_emod]; rfl
  refine ⟨((x * b : Nat) : Int), hq, ?_, ?_, ?_, hn.symm, ?_, ?_⟩
  · rw [IntKind.wrap_i64]; omega
  · unfold wrap64; omega
  · rw [hn]; exact tmod_pos (by omega)
  · rw [hn, IntKind.wrap_i64]; omega
  · rw [hn]; unfold wrap64; omega
set_option maxRecDepth 100000 in
set_option maxHeartbeats 16000000 in
theorem found13_walk (a1 : Option Addr) (n1 c1 : Nat) (l : List Nat) (a2 : Option Addr) (n2 c2 : Nat) (m : List Nat) (u : Int) (w : World) (h1 : IsC u16R 1 w (.slice a1 n1 c1) l) (hl : ∀ n ∈ l, n ≤ 65535) (h2 : IsC u16R 1 w (.slice a2 n2 c2) m) (hm : ∀ n ∈ m, n ≤ 65535) (hu0 : 0 ≤ u) (hu1 : u ≤ 255) :
    Calls Try.prog 4 #[.slice a1 n1 c1, .slice a2 n2 c2, .int .u8 u] w fun e w' => e = .returned (.bool true) ∧ Below w.heap.size w w' := by
  have HA := Lib.hid (fun W => awake13_any W)
  obtain ⟨rfl, _, hcm1, _⟩ := h1.shape
  obtain ⟨rfl, _, hcm2, _⟩ := h2.shape
  unfold maxLen at hcm1 hcm2
  have HI1 := Lib.hid h1
  have HI2 := Lib.hid h2
  have HL := Lib.hid hl
  have HM := Lib.hid hm
  clear h1 h2 hl hm
  by_cases h60 : 60 < l.length
  · have h60i : (60 : Int) < (l.length : Int) := by omega
    go_enter Try.func4, Try.ntmps4
    go_wp2_with (go_at_call 6; refine (HA.out _).mono ?_; rintro e w1 ⟨rfl, b1⟩; refine Hid.out ?_)
    refine Lib.hid ?_
    have HB := Lib.hid b1
    clear b1
    go_wp2
    go_ret
    exact ⟨rfl, HB.out⟩
  have h60i : (l.length : Int) ≤ 60 := by omega
  by_cases g60 : 60 < m.length
  · have g60i : (60 : Int) < (m.length : Int) := by omega
    go_enter Try.func4, Try.ntmps4
    go_wp2_with (go_at_call 6; refine (HA.out _).mono ?_; rintro e w1 ⟨rfl, b1⟩; refine Hid.out ?_)
    refine Lib.hid ?_
    have HB := Lib.hid b1
    clear b1
    go_wp2
    go_ret
    exact ⟨rfl, HB.out⟩
  have g60i : (m.length : Int) ≤ 60 := by omega
  obtain ⟨b, hb⟩ : ∃ b : Nat, (b : Int) = u + 1 := ⟨(u + 1).toNat, Int.toNat_of_nonneg (by omega)⟩
  have hb256 : b ≤ 256 := by omega
  have k0 : IntKind.i64.wrap u = u := by simp [IntKind.wrap, IntKind.bits, IntKind.signed]; omega
  have k1 : IntKind.i64.wrap (u + 1) = (b : Int) := by rw [hb]; simp [IntKind.wrap, IntKind.bits, IntKind.signed]; omega
  have k2 : wrap64 (u + 1) = (b : Int) := by rw [hb]; unfold wrap64; omega
  obtain ⟨lab, hlab⟩ : ∃ lab, lab = l.map (numI b) := ⟨_, rfl⟩
  obtain ⟨gn, hgn⟩ : ∃ gn, gn = m.map (numI b) := ⟨_, rfl⟩
  have HLAB : Hid (∀ (i : Nat) (x : Nat), l[i]? = some x → lab[i]? = some (numI b x)) := fun i x hx => by rw [hlab, List.getElem?_map, hx]; rfl
  have HGN : Hid (∀ (i : Nat) (x : Nat), m[i]? = some x → gn[i]? = some (numI b x)) := fun i x hx => by rw [hgn, List.getElem?_map, hx]; rfl
  have HGE : Hid (∀ (i : Nat), m.length ≤ i → gn[i]? = none) := fun i hi => by rw [hgn]; exact List.getElem?_eq_none (by rw [List.length_map]; exact hi)
  have HNEW := Lib.hid (fun W => new13_yes 64 W (by decide) (by decide))
  clear hb hlab hgn
  go_enter Try.func4, Try.ntmps4
  go_wp2_with (go_at_call 6; refine (HA.out _).mono ?_; rintro e w1 ⟨rfl, b1⟩; refine Hid.out ?_)
  refine Lib.hid ?_
  have HB1 := Lib.hid b1
  clear b1
  go_wp2_with (go_at_call 7; refine (HNEW.out _).mono ?_; rintro e w2 ⟨pt, g, wd, rfl, h1, h2, h3, h4⟩; refine Hid.out ?_)
  refine Lib.hid ?_
  have HZ0 := Lib.hid (show Z13 w pt g wd 64 [] w2 from ⟨h1, below_up HB1.out h4 HB1.out.size, Nat.le_trans HB1.out.size h2, Nat.le_trans HB1.out.size h3⟩)
  clear h1 h2 h3 h4 HNEW HB1
  go_wp2
  go_loopw [10] (fun i wr => ∃ (j : Nat) (L : List (Int × Int)), j ≤ l.length ∧ i = .int .i64 (j : Int) ∧ Hid (Z13 w pt g wd 64 L wr) ∧ Hid (L.length ≤ j) ∧ Hid (∀ n, get13 n L = tellF (foldF lab gn n j))) (fun i _ => l.length - (intOf i).toNat)
  case atStart => exact ⟨0, [], Nat.zero_le _, rfl, HZ0, Lib.hid (Nat.le_refl _), Lib.hid (fun n => rfl)⟩
  case round =>
    clear HZ0 k0 k1 k2
    obtain ⟨j, L, hj, rfl, HZ, HLJ, HGT⟩ := hrel
    by_cases hlt : j < l.length
    · have hlti : (j : Int) < (l.length : Int) := by omega
      have h0k : ¬ (j : Int) < 0 := by omega
      obtain ⟨x, hx⟩ : ∃ x, l[j]? = some x := ⟨l[j], List.getElem?_eq_getElem hlt⟩
      obtain ⟨bb, kk, rfl, hbw, hr⟩ := u16_at HI1.out j x hx
      have hx16 := HL.out x (List.mem_of_getElem? hx)
      have c0 : wr.cell? ⟨bb, kk + j, none⟩ = some (.int .u16 (x : Int)) := hr wr HZ.out.b
      have q0 : IntKind.i64.wrap (x : Int) = (x : Int) := by simp [IntKind.wrap, IntKind.bits, IntKind.signed]; omega
      obtain ⟨Y, z1, z2, z3, z4, z5, z6, z7⟩ := num_z hb256 hx16
      have HAJ := Lib.hid (HLAB.out j x hx)
      have HCK := Lib.hid (numI_chk b x)
      generalize numI b x = na at *
      obtain ⟨sl, hsl⟩ := HZ.out.t
      have HPD := Lib.hid (HZ.out.put na (j : Int))
      have hpq : putQ 64 na (j : Int) L = (0, put13 na (j : Int) L) := by
        unfold putQ
        rw [if_pos HCK.out, if_neg (fun h => by have := HLJ.out; omega)]
      rw [hpq] at HPD
      have HS1 := Lib.hid (put13_srt hsl.s na (j : Int))
      have HT1 := Lib.hid (tell_put hsl.s HGT.out HAJ.out)
      have HL1 : Hid ((put13 na (j : Int) L).length ≤ j + 1) := by
        have h1 := putQ_len 64 na (j : Int) L
        rw [hpq] at h1
        have h2 := HLJ.out
        exact Lib.hid (by have h3 : (put13 na (j : Int) L).length ≤ L.length + 1 := h1; omega)
      clear hx hr hsl hpq hx16
      go_wp2_with (go_at_call 9; refine HPD.out.mono ?_; rintro e w3 ⟨rfl, y3, _⟩; refine Hid.out ?_)
      refine Lib.hid ?_
      have HZ3 := Lib.hid y3
      clear y3 HPD HZ HGT c0 q0 z1 z2 z3 z4 z5 z6 z7 HCK
      generalize put13 na (j : Int) L = L1 at *
      by_cases hlm : j < m.length
      · have hlmi : (j : Int) < (m.length : Int) := by omega
        obtain ⟨x2, hx2⟩ : ∃ x2, m[j]? = some x2 := ⟨m[j], List.getElem?_eq_getElem hlm⟩
        obtain ⟨bc, kc, rfl, hbw2, hr2⟩ := u16_at HI2.out j x2 hx2
        have hx16 := HM.out x2 (List.mem_of_getElem? hx2)
        have c0 : w3.cell? ⟨bc, kc + j, none⟩ = some (.int .u16 (x2 : Int)) := hr2 w3 HZ3.out.b
        have q0 : IntKind.i64.wrap (x2 : Int) = (x2 : Int) := by simp [IntKind.wrap, IntKind.bits, IntKind.signed]; omega
        obtain ⟨Y2, z1, z2, z3, z4, z5, z6, z7⟩ := num_z hb256 hx16
        have HBJ := Lib.hid (HGN.out j x2 hx2)
        have HCK := Lib.hid (numI_chk b x2)
        generalize numI b x2 = nb at *
        have HDD := Lib.hid (HZ3.out.del nb)
        have HT2 := Lib.hid (tell_del HS1.out HT1.out HCK.out HBJ.out)
        have HL2 : Hid ((delQ nb L1).2.length ≤ j + 1) := by
          have h1 := delQ_le nb L1
          have h2 := HL1.out
          exact Lib.hid (by omega)
        clear hx2 hr2 hx16
        go_wp2_with (go_at_call 11; refine HDD.out.mono ?_; rintro e w4 ⟨rfl, y4, _⟩; refine Hid.out ?_)
        refine Lib.hid ?_
        have HZ4 := Lib.hid y4
        clear y4 HDD HZ3 c0 q0 z1 z2 z3 z4 z5 z6 z7
        go_wp2
        go_roundw
        case rel => exact ⟨j + 1, _, hlt, by go_num, HZ4, HL2, HT2⟩
        case measure => simp [intOf]; omega
      · have hlmi : ¬ (j : Int) < (m.length : Int) := by omega
        have HT2 : Hid (∀ n, get13 n L1 = tellF (foldF lab gn n (j + 1))) := fun n => by
          rw [HT1.out n]
          show _ = tellF (stF lab gn n j (foldF lab gn n j))
          unfold stF
          rw [HGE.out j (by omega), if_neg (show ¬ (none : Option Int) = some n from fun h => by cases h)]
        go_wp2
        go_roundw
        case rel => exact ⟨j + 1, L1, hlt, by go_num, HZ3, HL1, HT2⟩
        case measure => simp [intOf]; omega
    · have hlti : ¬ (j : Int) < (l.length : Int) := by omega
      obtain hje : j = l.length := by omega
      have HFD : Hid (∀ n, get13 n L = tellF (foldF lab gn n l.length)) := fun n => by rw [← hje]; exact HGT.out n
      clear hje HGT HLJ
      go_wp2
      go_loopw [12] (fun i wq => ∃ (q : Nat), q ≤ l.length ∧ i = .int .i64 (q : Int) ∧ Hid (Z13 w pt g wd 64 L wq)) (fun i _ => l.length - (intOf i).toNat)
      case atStart => exact ⟨0, Nat.zero_le _, rfl, HZ⟩
      case round =>
        clear HZ
        obtain ⟨q, hq, rfl, HZQ⟩ := hrel
        rename World => wq
        by_cases hqlt : q < l.length
        · have hqi : (q : Int) < (l.length : Int) := by omega
          have hq0 : ¬ (q : Int) < 0 := by omega
          obtain ⟨x, hx⟩ : ∃ x, l[q]? = some x := ⟨l[q], List.getElem?_eq_getElem hqlt⟩
          obtain ⟨bb, kk, rfl, hbw, hr⟩ := u16_at HI1.out q x hx
          have hx16 := HL.out x (List.mem_of_getElem? hx)
          have c0 : wq.cell? ⟨bb, kk + q, none⟩ = some (.int .u16 (x : Int)) := hr wq HZQ.out.b
          have q0 : IntKind.i64.wrap (x : Int) = (x : Int) := by simp [IntKind.wrap, IntKind.bits, IntKind.signed]; omega
          obtain ⟨Y, z1, z2, z3, z4, z5, z6, z7⟩ := num_z hb256 hx16
          have HAJ := Lib.hid (HLAB.out q x hx)
          have HCK := Lib.hid (numI_chk b x)
          generalize numI b x = na at *
          clear hx hr hx16
          go_wp2
          clear c0 q0 z1 z2 z3 z4 z5 z6 z7
          go_loopw [14, 15] (fun sv kv wi => ∃ (r : Nat) (s : Int), q ≤ r ∧ r ≤ l.length ∧ kv = .int .i64 (r : Int) ∧ sv = .int .i64 s ∧ Hid (Z13 w pt g wd 64 L wi) ∧ Hid ((r = q ∧ s = -1) ∨ (q < r ∧ s = foldF lab gn na r))) (fun _ kv _ => l.length - (intOf kv).toNat)
          case atStart => exact ⟨q, -1, Nat.le_refl _, hq, rfl, rfl, HZQ, Lib.hid (.inl ⟨rfl, rfl⟩)⟩
          case round =>
            clear HZQ
            obtain ⟨r, s, hqr, hrl, rfl, rfl, HZI, HSR⟩ := hrel
            rename World => wi
            by_cases hrlt : r < l.length
            · have hri : (r : Int) < (l.length : Int) := by omega
              have hr0 : ¬ (r : Int) < 0 := by omega
              obtain ⟨x, hx⟩ : ∃ x, l[r]? = some x := ⟨l[r], List.getElem?_eq_getElem hrlt⟩
              obtain ⟨bb, kk, e9, hbw, hr⟩ := u16_at HI1.out r x hx
              cases e9
              have hx16 := HL.out x (List.mem_of_getElem? hx)
              have c0 : wi.cell? ⟨bb, kk + r, none⟩ = some (.int .u16 (x : Int)) := hr wi HZI.out.b
              have q0 : IntKind.i64.wrap (x : Int) = (x : Int) := by simp [IntKind.wrap, IntKind.bits, IntKind.signed]; omega
              obtain ⟨Y, z1, z2, z3, z4, z5, z6, z7⟩ := num_z hb256 hx16
              have HXJ := Lib.hid (HLAB.out r x hx)
              generalize numI b x = nx at *
              have HNX : Hid (∀ t : Int, stF lab gn na r s = t → Hid ((r + 1 = q ∧ t = -1) ∨ (q < r + 1 ∧ t = foldF lab gn na (r + 1)))) := fun t ht => Lib.hid (.inr ⟨by omega, by
                rw [← ht]
                rcases HSR.out with ⟨h1, h2⟩ | ⟨h1, h2⟩
                · rw [h1]
                  exact stF_same HAJ.out _ _
                · rw [h2]
                  rfl⟩)
              clear hx hr hx16 HSR
              by_cases hen : nx = na
              · obtain rfl : na = nx := hen.symm
                by_cases hrm : r < m.length
                · have hrmi : (r : Int) < (m.length : Int) := by omega
                  obtain ⟨x2, hx2⟩ : ∃ x2, m[r]? = some x2 := ⟨m[r], List.getElem?_eq_getElem hrm⟩
                  obtain ⟨bc, kc, rfl, hbw2, hr2⟩ := u16_at HI2.out r x2 hx2
                  have hx26 := HM.out x2 (List.mem_of_getElem? hx2)
                  have d0 : wi.cell? ⟨bc, kc + r, none⟩ = some (.int .u16 (x2 : Int)) := hr2 wi HZI.out.b
                  have e0 : IntKind.i64.wrap (x2 : Int) = (x2 : Int) := by simp [IntKind.wrap, IntKind.bits, IntKind.signed]; omega
                  obtain ⟨Y2, y1, y2, y3, y4, y5, y6, y7⟩ := num_z hb256 hx26
                  have HBJ := Lib.hid (HGN.out r x2 hx2)
                  generalize numI b x2 = n2 at *
                  clear hx2 hr2 hx26
                  by_cases hem : n2 = na
                  · have HT := Lib.hid (HNX.out (-1) (by unfold stF; rw [if_pos (by rw [HBJ.out, hem])]))
                    obtain rfl : na = n2 := hem.symm
                    go_wp2
                    go_roundw
                    case rel => exact ⟨r + 1, -1, by omega, hrlt, by go_num, rfl, HZI, HT.out⟩
                    case measure => simp [intOf]; omega
                  · have hb2 : (n2 == na) = false := by simpa using hem
                    have HT := Lib.hid (HNX.out (r : Int) (by unfold stF; rw [if_neg (by rw [HBJ.out]; exact fun h => hem (Option.some.inj h))]; exact (by rw [if_pos HXJ.out])))
                    clear hem
                    go_wp2
                    go_roundw
                    case rel => exact ⟨r + 1, (r : Int), by omega, hrlt, by go_num, rfl, HZI, HT.out⟩
                    case measure => simp [intOf]; omega
                · have hrmi : ¬ (r : Int) < (m.length : Int) := by omega
                  have HT := Lib.hid (HNX.out (r : Int) (by unfold stF; rw [HGE.out r (by omega), if_neg (show ¬ (none : Option Int) = some na from fun h => by cases h)]; exact (by rw [if_pos HXJ.out])))
                  go_wp2
                  go_roundw
                  case rel => exact ⟨r + 1, (r : Int), by omega, hrlt, by go_num, rfl, HZI, HT.out⟩
                  case measure => simp [intOf]; omega
              · have HEN := Lib.hid hen
                have hb1 : (nx == na) = false := by simpa using hen
                clear hen
                by_cases hrm : r < m.length
                · have hrmi : (r : Int) < (m.length : Int) := by omega
                  obtain ⟨x2, hx2⟩ : ∃ x2, m[r]? = some x2 := ⟨m[r], List.getElem?_eq_getElem hrm⟩
                  obtain ⟨bc, kc, rfl, hbw2, hr2⟩ := u16_at HI2.out r x2 hx2
                  have hx26 := HM.out x2 (List.mem_of_getElem? hx2)
                  have d0 : wi.cell? ⟨bc, kc + r, none⟩ = some (.int .u16 (x2 : Int)) := hr2 wi HZI.out.b
                  have e0 : IntKind.i64.wrap (x2 : Int) = (x2 : Int) := by simp [IntKind.wrap, IntKind.bits, IntKind.signed]; omega
                  obtain ⟨Y2, y1, y2, y3, y4, y5, y6, y7⟩ := num_z hb256 hx26
                  have HBJ := Lib.hid (HGN.out r x2 hx2)
                  generalize numI b x2 = n2 at *
                  clear hx2 hr2 hx26
                  by_cases hem : n2 = na
                  · have HT := Lib.hid (HNX.out (-1) (by unfold stF; rw [if_pos (by rw [HBJ.out, hem])]))
                    obtain rfl : na = n2 := hem.symm
                    go_wp2
                    go_roundw
                    case rel => exact ⟨r + 1, -1, by omega, hrlt, by go_num, rfl, HZI, HT.out⟩
                    case measure => simp [intOf]; omega
                  · have hb2 : (n2 == na) = false := by simpa using hem
                    have HT := Lib.hid (HNX.out s (by unfold stF; rw [if_neg (by rw [HBJ.out]; exact fun h => hem (Option.some.inj h))]; exact (by rw [if_neg (by rw [HXJ.out]; exact fun h => HEN.out (Option.some.inj h))])))
                    clear hem
                    go_wp2
                    go_roundw
                    case rel => exact ⟨r + 1, s, by omega, hrlt, by go_num, rfl, HZI, HT.out⟩
                    case measure => simp [intOf]; omega
                · have hrmi : ¬ (r : Int) < (m.length : Int) := by omega
                  have HT := Lib.hid (HNX.out s (by unfold stF; rw [HGE.out r (by omega), if_neg (show ¬ (none : Option Int) = some na from fun h => by cases h)]; exact (by rw [if_neg (by rw [HXJ.out]; exact fun h => HEN.out (Option.some.inj h))])))
                  go_wp2
                  go_roundw
                  case rel => exact ⟨r + 1, s, by omega, hrlt, by go_num, rfl, HZI, HT.out⟩
                  case measure => simp [intOf]; omega
            · have hri : ¬ (r : Int) < (l.length : Int) := by omega
              have hse : s = foldF lab gn na l.length := by
                have hrE : r = l.length := by omega
                rcases HSR.out with ⟨h1, h2⟩ | ⟨h1, h2⟩
                · omega
                · rw [h2, hrE]
              have hgt := getF HCK.out (HFD.out na)
              rw [← hse] at hgt
              have HGE2 := Lib.hid (tget_any na wi HZI.out.t)
              rw [hgt] at HGE2
              clear hse hgt HSR
              by_cases h0s : 0 ≤ s
              · rw [show tellF s = (s, true) from if_pos h0s] at HGE2
                have h0g : s ≥ 0 := h0s
                go_wp2_with (go_at_call 13; refine HGE2.out.mono ?_; rintro e w6 ⟨rfl, b6⟩; refine Hid.out ?_)
                refine Lib.hid ?_
                have HZ6 := Lib.hid (HZI.out.up b6)
                clear b6 HGE2 HZI
                go_wp2
                go_roundw
                case rel => exact ⟨q + 1, hqlt, by go_num, HZ6⟩
                case measure => simp [intOf]; omega
              · rw [show tellF s = (0, false) from if_neg h0s] at HGE2
                have h0g : ¬ s ≥ 0 := h0s
                go_wp2_with (go_at_call 13; refine HGE2.out.mono ?_; rintro e w6 ⟨rfl, b6⟩; refine Hid.out ?_)
                refine Lib.hid ?_
                have HZ6 := Lib.hid (HZI.out.up b6)
                clear b6 HGE2 HZI
                go_wp2
                go_roundw
                case rel => exact ⟨q + 1, hqlt, by go_num, HZ6⟩
                case measure => simp [intOf]; omega
        · have hqi : ¬ (q : Int) < (l.length : Int) := by omega
          have HLN := Lib.hid HZQ.out.len
          have HAL := Lib.hid (tall_any wq HZQ.out.t)
          go_wp2_with (first
            | (go_at_call 15; refine HLN.out.mono ?_; rintro e w8 ⟨rfl, rfl⟩)
            | (go_at_call 16; refine HAL.out.mono ?_; rintro e w9 ⟨⟨v9, rfl, i9⟩, b9⟩; refine Hid.out ?_))
          refine Lib.hid ?_
          have HB9 := Lib.hid (below_up HZQ.out.b b9 HZQ.out.b.size)
          obtain ⟨_, a9, c9, rfl, _⟩ := i9
          clear b9
          go_wp2
          go_ret
          exact ⟨rfl, HB9.out⟩
end Go.Proofs.Ytoliijajhikhgaa
