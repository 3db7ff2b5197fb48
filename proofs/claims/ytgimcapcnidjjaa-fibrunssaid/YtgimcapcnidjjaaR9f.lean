/- The document's table of stage 9: Look. -/
import Derived.Test.YtgimcapcnidjjaaRefB
import Derived.Test.YtgimcapcnidjjaaH9
namespace Go.Proofs.Ytgimcapcnidjjaa
open Go Go.RowKit

theorem results_i2 {fn : Func} {u v : Tmp} (h : fn.results = #[.cell u 47, .tmp v]) (tmps : Array Value) (w : World) (g : Nat) (p : Pfx) (x : Int) (f : p.addr.length = 16) (hp : tmps.getD u undef = .pointer (some ⟨g, 0, none⟩))
    (hg : Bx w g 47 (itR p x)) : (results fn tmps).run Try.prog w = .ok (.tuple #[itV p x, tmps.getD v undef]) w := by
  rw [results_cell_tmp h, hp]
  have := run_loadVar_row (P := Try.prog) w g _ _ (itR p x).toArray (0, 0) _ hg Try.underlying47 rfl (by simpa using i_infoC f x)
  simp only [asAddr, Sem.run_pure, Result.andThen_ok, this]
  rfl
theorem built_i0 : Try.prog.built 47 [] = some (itR zeroP 0).toArray := by kernel_rfl
/-- What is found is told by its Len. -/
theorem look_is {six : Bool} {L : List (Pfx × Int)} (h : InOrder cmpP (okP six) L) (a : List UInt8) (x : Pfx × Int) (hx : x ∈ L) (hh : hasP x.1 a = true) (hm : ∀ y ∈ L, hasP y.1 a = true → y.1.len ≤ x.1.len) : lookT a L = some x := by
  cases hl : lookT a L with
  | none => exact absurd hh (by rw [look_all_none a L hl x hx]; simp)
  | some z =>
    obtain ⟨h1, h2⟩ := look_mem a L z hl
    have h3 := look_most a L z x hl hx hh
    have h4 := hm z h1 h2
    have e := has_one (h.2 z h1) (h.2 x hx) (by omega) a h2 hh
    have := get_mem_in L h z h1
    rw [e, get_mem_in L h x hx] at this
    cases z
    cases x
    simp only [Option.some.injEq] at this
    simp only at e
    rw [e, this]
structure LookB (w : World) (l : List Value) (a : List UInt8) (W : World) : Prop where
  t : Bx W w.heap.size 31 l
  a : Bx W (w.heap.size + 1) 23 (byteVals a)
  r : Bx W (w.heap.size + 1 + 1) 47 (itR zeroP 0)
  below : Below w.heap.size w W
theorem LookB.up {w : World} {l : List Value} {a : List UInt8} {W W' : World} (h : LookB w l a W) (hb : Below W.heap.size W W') : LookB w l a W' := ⟨h.t.up hb, h.a.up hb, h.r.up hb, below_up h.below hb h.below.size⟩
theorem lookB_new (w : World) (l : List Value) (a : List UInt8) : LookB w l a (((w.alloc (.cells l.toArray 31)).alloc (.cells (byteVals a).toArray 23)).alloc (.cells (itR zeroP 0).toArray 47)) := by
  have h := twoB_new w 31 23 l (byteVals a)
  refine ⟨h.1.al _, h.2.1.al _, ?_, h.2.2.alloc (by simp; omega) _⟩
  have := Bx.new ((w.alloc (.cells l.toArray 31)).alloc (.cells (byteVals a).toArray 23)) 47 (itR zeroP 0)
  rwa [World.size_alloc, World.size_alloc] at this
def HeldLk (b0 : Nat) (v : Value) (l : List Value) (b k : Nat) (m : List Value) (y : Int) (k2 : Nat) (z : Int) (W : World) : Prop := W.cell? ⟨b0, 3, none⟩ = some v ∧ Bx W (b0 + 1) 23 l ∧ W.rangeAt b k m ∧ W.cell? ⟨b, k + 17, none⟩ = some (.int .i64 y) ∧ W.cell? ⟨b, k2 + 17, none⟩ = some (.int .i64 z)
/-- How far the row was looked through: none has it, or the longest of those that have it stands at a place. -/
def LookAt (a : List UInt8) (L : List (Pfx × Int)) (i : Nat) (at_ : Int) : Prop :=
  (at_ = -1 ∧ ∀ y ∈ L.take i, hasP y.1 a = false) ∨ ∃ (j : Nat) (x : Pfx × Int), at_ = (j : Int) ∧ j < i ∧ L[j]? = some x ∧ hasP x.1 a = true ∧ ∀ y ∈ L.take i, hasP y.1 a = true → y.1.len ≤ x.1.len
theorem mem_snoc {α : Type} {L : List α} {i : Nat} {x : α} (hx : L[i]? = some x) {y : α} (h : y ∈ L.take (i + 1)) : y ∈ L.take i ∨ y = x := by
  obtain ⟨hi, rfl⟩ := List.getElem?_eq_some_iff.1 hx
  rw [List.take_succ_eq_append_getElem hi] at h
  rcases List.mem_append.1 h with h | h
  · exact .inl h
  · exact .inr (List.mem_singleton.1 h)
set_option maxRecDepth 100000 in
set_option maxHeartbeats 8000000 in
theorem qlook (is six : Bool) (room : Int) (sa : Option Addr) (n cap : Nat) (L : List (Pfx × Int)) (a : List UInt8) (w : World) (six2 : Bool) (hO : InOrder cmpP (okP six2) L) (hC : IsC itF 19 w (.slice sa n cap) L) (ha : a.length = 16) (hl : L.length ≤ 1000000) :
    Calls Try.prog 37 #[tV is six room (.slice sa n cap), arrV a] w fun e w' => e = .returned (.tuple #[itV ((lookT a L).getD it0).1 ((lookT a L).getD it0).2, .bool (lookT a L).isSome]) ∧ Below w.heap.size w w' := by
  have HZ := Lib.hid (lookB_new w (tR is six room (.slice sa n cap)) a)
  have ez : (#[.bool false, .int .u8 0, .int .u8 0, .int .u8 0, .int .u8 0, .int .u8 0, .int .u8 0, .int .u8 0, .int .u8 0, .int .u8 0, .int .u8 0, .int .u8 0, .int .u8 0, .int .u8 0, .int .u8 0, .int .u8 0, .int .u8 0, .int .i64 0, .int .i64 0] : Array Value) = (itR zeroP 0).toArray := rfl
  obtain ⟨rfl, hcap, hcm, _⟩ := hC.shape
  unfold maxLen at hcm
  have HO := Lib.hid hO
  have HC := Lib.hid hC
  have HAL := Lib.hid ha
  rw [show tV is six room (.slice sa L.length cap) = .agg (tR is six room (.slice sa L.length cap)).toArray from rfl, show arrV a = .agg (byteVals a).toArray from rfl]
  clear hO hC ha
  go_enter Try.func37, Try.ntmps37
  go_wp2
  go_loopw [6, 7] (fun av iv wr => ∃ (i : Nat) (t : Int), i ≤ L.length ∧ iv = .int .i64 (i : Int) ∧ av = .int .i64 t ∧ LookAt a L i t ∧ LookB w (tR is six room (.slice sa L.length cap)) a wr) (fun _ iv _ => L.length - (intOf iv).toNat)
  case atStart => exact ⟨0, -1, by omega, rfl, rfl, .inl ⟨rfl, fun y hy => by simp at hy⟩, HZ.out⟩
  case round =>
    obtain ⟨i, t, hi, rfl, rfl, hat, hz⟩ := hrel
    clear HZ
    have c3 : wr.cell? ⟨w.heap.size, 3, none⟩ = some (.slice sa L.length cap) := by rw [hz.t.cell]; rfl
    by_cases hie : i = L.length
    · subst hie
      unfold LookAt at hat
      rw [List.take_length] at hat
      have HZ := Lib.hid hz
      clear hz
      rcases hat with ⟨rfl, hno⟩ | ⟨j, x, rfl, hjl, hx, hxh, hxm⟩
      · have hlk : lookT a L = none := by
          cases hl : lookT a L with
          | none => rfl
          | some z =>
            obtain ⟨h1, h2⟩ := look_mem a L z hl
            rw [hno z h1] at h2
            cases h2
        have HLK := Lib.hid hlk
        clear hlk hno
        go_wp2_with (first
          | (refine wpList_build0 rfl 47 rfl (itR zeroP 0) built_i0 ?_)
          | (refine wpList_store_bx rfl 47 (.tmp 4) (.tmp 47) rfl (w.heap.size + 1 + 1) (itR zeroP 0) (itR zeroP 0) rfl rfl HZ.out.r (i_infoC rfl 0) rfl (it_one _ _) ?_; refine Hid.out ?_))
        refine Lib.hid ?_
        go_wp2
        exact bodyPost_ret (results_i2 Try.results37 _ _ (w.heap.size + 1 + 1) zeroP 0 rfl rfl (HZ.out.r.row _)) rfl ⟨by rw [HLK.out]; rfl, below_row HZ.out.below (by omega) _⟩
      · have hlk := look_is HO.out a x (List.mem_of_getElem? hx) hxh hxm
        have hx16 := (HO.out.2 x (List.mem_of_getElem? hx)).2.1
        obtain ⟨b, k, rfl, hbw, hr⟩ := isC_at (HC.out.below HZ.out.below) j x hx
        have HR := Lib.hid hr
        have HLK := Lib.hid hlk
        have HX16 := Lib.hid hx16
        have hjj : (j : Int) < (L.length : Int) := by omega
        clear hlk hxm hxh hx hr hx16
        go_wp2_with (first
          | (refine plV rfl (itV x.1 x.2) (exec_load_any _ (.tmp 51) rfl b (k + j * 19) (itR x.1 x.2) _ rfl HR.out Try.underlying47 rfl (i_infoC HX16.out x.2)) ?_)
          | (refine wpList_store_bx rfl 47 (.tmp 4) (.tmp 52) rfl (w.heap.size + 1 + 1) (itR x.1 x.2) (itR zeroP 0) rfl rfl HZ.out.r (i_infoC HX16.out x.2) (by rw [it_len HX16.out]; rfl) (it_one _ _) ?_; refine Hid.out ?_))
        refine Lib.hid ?_
        go_wp2
        exact bodyPost_ret (results_i2 Try.results37 _ _ (w.heap.size + 1 + 1) x.1 x.2 HX16.out rfl (HZ.out.r.row _)) rfl ⟨by rw [HLK.out]; rfl, below_row HZ.out.below (by omega) _⟩
    · have hlt : i < L.length := by omega
      obtain ⟨x, hx⟩ : ∃ x, L[i]? = some x := ⟨_, List.getElem?_eq_getElem hlt⟩
      have hx16 := (HO.out.2 x (List.mem_of_getElem? hx)).2.1
      obtain ⟨b, k, rfl, hbw, hr⟩ := isC_at (HC.out.below hz.below) i x hx
      have hii : (i : Int) < (L.length : Int) := by omega
      have HX16 := Lib.hid hx16
      have HH := Lib.hid (fun W => qhas_any x.1 a W hx16 HAL.out)
      have hr2 := range_pre hr
      have hb0 := hz.t.lt
      have hlen := hr2 17 _ (row_plen hx16)
      -- the next place
      have hnext : ∀ y, y ∈ L.take (i + 1) → y ∈ L.take i ∨ y = x := fun y hy => mem_snoc hx hy
      have HNX := Lib.hid hnext
      have HXX := Lib.hid hx
      have HZ := Lib.hid hz
      have HA := Lib.hid hat
      -- where the longest stands: a place of the row, whatever it is
      obtain ⟨k2, z, hk2⟩ : ∃ (k2 : Nat) (z : Int), wr.cell? ⟨b, k2 + 17, none⟩ = some (.int .i64 z) ∧ ∀ j y, t = ((j : Nat) : Int) → L[j]? = some y → k2 = k + j * 19 ∧ z = y.1.len := by
        rcases hat with ⟨rfl, _⟩ | ⟨j, y, rfl, hj, hy, _, _⟩
        · exact ⟨k + i * 19, x.1.len, hlen, fun j y e => by omega⟩
        · obtain ⟨b', k', e', _, hr3⟩ := isC_at (HC.out.below hz.below) j y hy
          cases e'
          have hy16 := (HO.out.2 y (List.mem_of_getElem? hy)).2.1
          refine ⟨k + j * 19, y.1.len, range_pre hr3 17 _ (row_plen hy16), fun j' y' e he => ?_⟩
          obtain rfl : j = j' := by omega
          rw [hy] at he
          cases he
          exact ⟨rfl, rfl⟩
      have hH : ∀ W, Below wr.heap.size wr W → HeldLk w.heap.size (.slice (some ⟨b, k, none⟩) L.length cap) (byteVals a) b (k + i * 19) x.1.row x.1.len k2 z W := fun W hW => ⟨(hW.cell (p := ⟨w.heap.size, 3, none⟩) hb0).trans c3, hz.a.up hW, fun j v hv => (hW.cell (p := ⟨b, k + i * 19 + j, none⟩) hbw).trans (hr2 j v hv), (hW.cell (p := ⟨b, k + i * 19 + 17, none⟩) hbw).trans hlen, (hW.cell (p := ⟨b, k2 + 17, none⟩) hbw).trans hk2.1⟩
      have HHL := Lib.hid hH
      have HK2 := Lib.hid hk2.2
      clear hH hk2 hat hz hr hr2 hlen hx16 hx hnext hb0
      generalize hhb : hasP x.1 a = hb at *
      go_wp2
      refine wp_region_noPanic ?_
      refine wp_region_held_drew (S := HeldLk w.heap.size (.slice (some ⟨b, k, none⟩) L.length cap) (byteVals a) b (k + i * 19) x.1.row x.1.len k2 z) (by kernel_rfl) (HHL.out _ (Below.refl _ _).drew) (fun hHeld => ?_)
      refine held_take (v := ?v143) 0 rfl (by kernel_rfl) (by kernel_rfl) (by kernel_rfl) (fun _ _ _ h => h) (by rfl) ?y143 (by assumption) ?_
      case y143 => (intro w hSw; unfold HeldLk at hSw; go_simp; (try with_reducible rfl); (try omega))
      simp only [List.setIfInBounds_toArray, List.set_cons_zero, List.set_cons_succ]
      refine held_take (v := ?v146) 1 rfl (by kernel_rfl) (by kernel_rfl) (by kernel_rfl) (fun _ _ _ h => h) (by rfl) ?y146 (by assumption) ?_
      case y146 => (intro w hSw; unfold HeldLk at hSw; go_simp; (try with_reducible rfl); (try omega))
      simp only [List.setIfInBounds_toArray, List.set_cons_zero, List.set_cons_succ]
      refine held_take (v := ?v149) 2 rfl (by kernel_rfl) (by kernel_rfl) (by kernel_rfl) (fun _ _ _ h => h) (by rfl) ?y149 (by assumption) ?_
      case y149 => (intro w hSw; unfold HeldLk at hSw; go_simp; (try with_reducible rfl); (try omega))
      simp only [List.setIfInBounds_toArray, List.set_cons_zero, List.set_cons_succ]
      refine held_take (v := ?v152) 3 rfl (by kernel_rfl) (by kernel_rfl) (by kernel_rfl) (fun _ _ _ h => h) (by rfl) ?y152 (by assumption) ?_
      case y152 => (intro w hSw; unfold HeldLk at hSw; go_simp; (try with_reducible rfl); (try omega))
      simp only [List.setIfInBounds_toArray, List.set_cons_zero, List.set_cons_succ]
      refine held_take (v := ?v155) 4 rfl (by kernel_rfl) (by kernel_rfl) (by kernel_rfl) (fun _ _ _ h => h) (by rfl) ?y155 (by assumption) ?_
      case y155 => (intro w hSw; unfold HeldLk at hSw; go_simp; (try with_reducible rfl); (try omega))
      simp only [List.setIfInBounds_toArray, List.set_cons_zero, List.set_cons_succ]
      refine held_take (v := x.1.val) 5 rfl (by kernel_rfl) (by kernel_rfl) (by kernel_rfl) (fun _ _ _ h => h) (by rfl) (fun W hSw => exec_load_any _ (.tmp 19) rfl b (k + i * 19) x.1.row _ rfl hSw.2.2.1 Try.underlying25 rfl (pf_infoC HX16.out)) (by assumption) ?_
      simp only [List.setIfInBounds_toArray, List.set_cons_zero, List.set_cons_succ]
      refine held_take (v := arrV a) 6 rfl (by kernel_rfl) (by kernel_rfl) (by kernel_rfl) (fun _ _ _ h => h) (by rfl) (fun W hSw => exec_load_any _ (.tmp 3) rfl (w.heap.size + 1) 0 (byteVals a) _ rfl (rangeAll hSw.2.1) Try.underlying23 rfl (by rw [byteVals_length, HAL.out]; exact arr16P.info)) (by assumption) ?_
      simp only [List.setIfInBounds_toArray, List.set_cons_zero, List.set_cons_succ]
      refine held_one 7 rfl (by kernel_rfl) (by rfl) (fun K hK => ?_)
      go_simp
      refine (HH.out _).mono ?_
      rintro e w6 ⟨rfl, b6⟩
      have hb6 : Below wr.heap.size wr w6 := (Below.refl wr.heap.size wr).drew.trans b6
      have hH6 := HHL.out _ hb6
      refine hK.out _ _ hH6 (fun _ => ?_)
      have HZ6 := Lib.hid (HZ.out.up hb6)
      clear hK K b6 HZ HHL hb6 HH
      refine held_take (v := ?v171) 8 rfl (by kernel_rfl) (by kernel_rfl) (by kernel_rfl) (fun _ _ _ h => h) (by rfl) ?y171 (by assumption) ?_
      case y171 => (intro w hSw; unfold HeldLk at hSw; go_simp; (try with_reducible rfl); (try omega))
      simp only [List.setIfInBounds_toArray, List.set_cons_zero, List.set_cons_succ]
      cases hb with
      | false =>
        refine held_skip 9 rfl (by kernel_rfl) (by kernel_rfl) (by kernel_rfl) (fun _ _ _ h => h) (by rfl) (by assumption) ?_
        simp only [List.setIfInBounds_toArray, List.set_cons_zero, List.set_cons_succ]
        refine held_skip 10 rfl (by kernel_rfl) (by kernel_rfl) (by kernel_rfl) (fun _ _ _ h => h) (by rfl) (by assumption) ?_
        simp only [List.setIfInBounds_toArray, List.set_cons_zero, List.set_cons_succ]
        refine held_skip 11 rfl (by kernel_rfl) (by kernel_rfl) (by kernel_rfl) (fun _ _ _ h => h) (by rfl) (by assumption) ?_
        simp only [List.setIfInBounds_toArray, List.set_cons_zero, List.set_cons_succ]
        refine held_skip 12 rfl (by kernel_rfl) (by kernel_rfl) (by kernel_rfl) (fun _ _ _ h => h) (by rfl) (by assumption) ?_
        simp only [List.setIfInBounds_toArray, List.set_cons_zero, List.set_cons_succ]
        refine held_skip 13 rfl (by kernel_rfl) (by kernel_rfl) (by kernel_rfl) (fun _ _ _ h => h) (by rfl) (by assumption) ?_
        simp only [List.setIfInBounds_toArray, List.set_cons_zero, List.set_cons_succ]
        refine held_skip 14 rfl (by kernel_rfl) (by kernel_rfl) (by kernel_rfl) (fun _ _ _ h => h) (by rfl) (by assumption) ?_
        simp only [List.setIfInBounds_toArray, List.set_cons_zero, List.set_cons_succ]
        refine held_skip 15 rfl (by kernel_rfl) (by kernel_rfl) (by kernel_rfl) (fun _ _ _ h => h) (by rfl) (by assumption) ?_
        simp only [List.setIfInBounds_toArray, List.set_cons_zero, List.set_cons_succ]
        refine held_skip 16 rfl (by kernel_rfl) (by kernel_rfl) (by kernel_rfl) (fun _ _ _ h => h) (by rfl) (by assumption) ?_
        simp only [List.setIfInBounds_toArray, List.set_cons_zero, List.set_cons_succ]
        refine held_skip 17 rfl (by kernel_rfl) (by kernel_rfl) (by kernel_rfl) (fun _ _ _ h => h) (by rfl) (by assumption) ?_
        simp only [List.setIfInBounds_toArray, List.set_cons_zero, List.set_cons_succ]
        refine held_skip 18 rfl (by kernel_rfl) (by kernel_rfl) (by kernel_rfl) (fun _ _ _ h => h) (by rfl) (by assumption) ?_
        simp only [List.setIfInBounds_toArray, List.set_cons_zero, List.set_cons_succ]
        refine held_skip 19 rfl (by kernel_rfl) (by kernel_rfl) (by kernel_rfl) (fun _ _ _ h => h) (by rfl) (by assumption) ?_
        simp only [List.setIfInBounds_toArray, List.set_cons_zero, List.set_cons_succ]
        refine held_skip 20 rfl (by kernel_rfl) (by kernel_rfl) (by kernel_rfl) (fun _ _ _ h => h) (by rfl) (by assumption) ?_
        simp only [List.setIfInBounds_toArray, List.set_cons_zero, List.set_cons_succ]
        refine held_skip 21 rfl (by kernel_rfl) (by kernel_rfl) (by kernel_rfl) (fun _ _ _ h => h) (by rfl) (by assumption) ?_
        simp only [List.setIfInBounds_toArray, List.set_cons_zero, List.set_cons_succ]
        refine held_skip 22 rfl (by kernel_rfl) (by kernel_rfl) (by kernel_rfl) (fun _ _ _ h => h) (by rfl) (by assumption) ?_
        simp only [List.setIfInBounds_toArray, List.set_cons_zero, List.set_cons_succ]
        refine held_skip 23 rfl (by kernel_rfl) (by kernel_rfl) (by kernel_rfl) (fun _ _ _ h => h) (by rfl) (by assumption) ?_
        simp only [List.setIfInBounds_toArray, List.set_cons_zero, List.set_cons_succ]
        refine held_skip 24 rfl (by kernel_rfl) (by kernel_rfl) (by kernel_rfl) (fun _ _ _ h => h) (by rfl) (by assumption) ?_
        simp only [List.setIfInBounds_toArray, List.set_cons_zero, List.set_cons_succ]
        refine held_skip 25 rfl (by kernel_rfl) (by kernel_rfl) (by kernel_rfl) (fun _ _ _ h => h) (by rfl) (by assumption) ?_
        simp only [List.setIfInBounds_toArray, List.set_cons_zero, List.set_cons_succ]
        refine held_skip 26 rfl (by kernel_rfl) (by kernel_rfl) (by kernel_rfl) (fun _ _ _ h => h) (by rfl) (by assumption) ?_
        simp only [List.setIfInBounds_toArray, List.set_cons_zero, List.set_cons_succ]
        refine held_skip 27 rfl (by kernel_rfl) (by kernel_rfl) (by kernel_rfl) (fun _ _ _ h => h) (by rfl) (by assumption) ?_
        simp only [List.setIfInBounds_toArray, List.set_cons_zero, List.set_cons_succ]
        refine held_take (v := ?v214) 28 rfl (by kernel_rfl) (by kernel_rfl) (by kernel_rfl) (fun _ _ _ h => h) (by rfl) ?y214 (by assumption) ?_
        case y214 => (intro w hSw; unfold HeldLk at hSw; go_simp; (try with_reducible rfl); (try omega))
        simp only [List.setIfInBounds_toArray, List.set_cons_zero, List.set_cons_succ]
        refine wpAnyH_done (by kernel_rfl) ?_ _
        refine NoPanic.normal ?_
        clear hHeld hH6
        go_wp2
        go_roundw
        case rel =>
          refine ⟨i + 1, t, by omega, by go_num, rfl, ?_, HZ6.out⟩
          rcases HA.out with ⟨rfl, h1⟩ | ⟨j, y, rfl, h1, h2, h3, h4⟩
          · exact .inl ⟨rfl, fun y hy => (HNX.out y hy).elim (h1 y) (fun e => by rw [e]; exact hhb)⟩
          · exact .inr ⟨j, y, rfl, by omega, h2, h3, fun u hu hh => (HNX.out u hu).elim (fun h => h4 u h hh) (fun e => by rw [e, hhb] at hh; cases hh)⟩
        case measure => simp [intOf]; omega
      | true =>
        rcases HA.out with ⟨rfl, h1⟩ | ⟨j, y, rfl, h1, h2, h3, h4⟩
        · have H1 := Lib.hid h1
          clear h1
          refine held_take (v := ?v232) 9 rfl (by kernel_rfl) (by kernel_rfl) (by kernel_rfl) (fun _ _ _ h => h) (by rfl) ?y232 (by assumption) ?_
          case y232 => (intro w hSw; unfold HeldLk at hSw; go_simp; (try with_reducible rfl); (try omega))
          simp only [List.setIfInBounds_toArray, List.set_cons_zero, List.set_cons_succ]
          refine held_take (v := ?v235) 10 rfl (by kernel_rfl) (by kernel_rfl) (by kernel_rfl) (fun _ _ _ h => h) (by rfl) ?y235 (by assumption) ?_
          case y235 => (intro w hSw; unfold HeldLk at hSw; go_simp; (try with_reducible rfl); (try omega))
          simp only [List.setIfInBounds_toArray, List.set_cons_zero, List.set_cons_succ]
          refine held_take (v := ?v238) 11 rfl (by kernel_rfl) (by kernel_rfl) (by kernel_rfl) (fun _ _ _ h => h) (by rfl) ?y238 (by assumption) ?_
          case y238 => (intro w hSw; unfold HeldLk at hSw; go_simp; (try with_reducible rfl); (try omega))
          simp only [List.setIfInBounds_toArray, List.set_cons_zero, List.set_cons_succ]
          refine held_skip 12 rfl (by kernel_rfl) (by kernel_rfl) (by kernel_rfl) (fun _ _ _ h => h) (by rfl) (by assumption) ?_
          simp only [List.setIfInBounds_toArray, List.set_cons_zero, List.set_cons_succ]
          refine held_skip 13 rfl (by kernel_rfl) (by kernel_rfl) (by kernel_rfl) (fun _ _ _ h => h) (by rfl) (by assumption) ?_
          simp only [List.setIfInBounds_toArray, List.set_cons_zero, List.set_cons_succ]
          refine held_skip 14 rfl (by kernel_rfl) (by kernel_rfl) (by kernel_rfl) (fun _ _ _ h => h) (by rfl) (by assumption) ?_
          simp only [List.setIfInBounds_toArray, List.set_cons_zero, List.set_cons_succ]
          refine held_skip 15 rfl (by kernel_rfl) (by kernel_rfl) (by kernel_rfl) (fun _ _ _ h => h) (by rfl) (by assumption) ?_
          simp only [List.setIfInBounds_toArray, List.set_cons_zero, List.set_cons_succ]
          refine held_skip 16 rfl (by kernel_rfl) (by kernel_rfl) (by kernel_rfl) (fun _ _ _ h => h) (by rfl) (by assumption) ?_
          simp only [List.setIfInBounds_toArray, List.set_cons_zero, List.set_cons_succ]
          refine held_skip 17 rfl (by kernel_rfl) (by kernel_rfl) (by kernel_rfl) (fun _ _ _ h => h) (by rfl) (by assumption) ?_
          simp only [List.setIfInBounds_toArray, List.set_cons_zero, List.set_cons_succ]
          refine held_skip 18 rfl (by kernel_rfl) (by kernel_rfl) (by kernel_rfl) (fun _ _ _ h => h) (by rfl) (by assumption) ?_
          simp only [List.setIfInBounds_toArray, List.set_cons_zero, List.set_cons_succ]
          refine held_skip 19 rfl (by kernel_rfl) (by kernel_rfl) (by kernel_rfl) (fun _ _ _ h => h) (by rfl) (by assumption) ?_
          simp only [List.setIfInBounds_toArray, List.set_cons_zero, List.set_cons_succ]
          refine held_skip 20 rfl (by kernel_rfl) (by kernel_rfl) (by kernel_rfl) (fun _ _ _ h => h) (by rfl) (by assumption) ?_
          simp only [List.setIfInBounds_toArray, List.set_cons_zero, List.set_cons_succ]
          refine held_skip 21 rfl (by kernel_rfl) (by kernel_rfl) (by kernel_rfl) (fun _ _ _ h => h) (by rfl) (by assumption) ?_
          simp only [List.setIfInBounds_toArray, List.set_cons_zero, List.set_cons_succ]
          refine held_skip 22 rfl (by kernel_rfl) (by kernel_rfl) (by kernel_rfl) (fun _ _ _ h => h) (by rfl) (by assumption) ?_
          simp only [List.setIfInBounds_toArray, List.set_cons_zero, List.set_cons_succ]
          refine held_skip 23 rfl (by kernel_rfl) (by kernel_rfl) (by kernel_rfl) (fun _ _ _ h => h) (by rfl) (by assumption) ?_
          simp only [List.setIfInBounds_toArray, List.set_cons_zero, List.set_cons_succ]
          refine held_skip 24 rfl (by kernel_rfl) (by kernel_rfl) (by kernel_rfl) (fun _ _ _ h => h) (by rfl) (by assumption) ?_
          simp only [List.setIfInBounds_toArray, List.set_cons_zero, List.set_cons_succ]
          refine held_skip 25 rfl (by kernel_rfl) (by kernel_rfl) (by kernel_rfl) (fun _ _ _ h => h) (by rfl) (by assumption) ?_
          simp only [List.setIfInBounds_toArray, List.set_cons_zero, List.set_cons_succ]
          refine held_skip 26 rfl (by kernel_rfl) (by kernel_rfl) (by kernel_rfl) (fun _ _ _ h => h) (by rfl) (by assumption) ?_
          simp only [List.setIfInBounds_toArray, List.set_cons_zero, List.set_cons_succ]
          refine held_take (v := ?v271) 27 rfl (by kernel_rfl) (by kernel_rfl) (by kernel_rfl) (fun _ _ _ h => h) (by rfl) ?y271 (by assumption) ?_
          case y271 => (intro w hSw; unfold HeldLk at hSw; go_simp; (try with_reducible rfl); (try omega))
          simp only [List.setIfInBounds_toArray, List.set_cons_zero, List.set_cons_succ]
          refine held_take (v := ?v274) 28 rfl (by kernel_rfl) (by kernel_rfl) (by kernel_rfl) (fun _ _ _ h => h) (by rfl) ?y274 (by assumption) ?_
          case y274 => (intro w hSw; unfold HeldLk at hSw; go_simp; (try with_reducible rfl); (try omega))
          simp only [List.setIfInBounds_toArray, List.set_cons_zero, List.set_cons_succ]
          refine wpAnyH_done (by kernel_rfl) ?_ _
          refine NoPanic.normal ?_
          clear hHeld hH6
          go_wp2
          go_roundw
          case rel =>
            refine ⟨i + 1, (i : Int), by omega, by go_num, rfl, .inr ⟨i, x, rfl, by omega, HXX.out, hhb, fun u hu hh => ?_⟩, HZ6.out⟩
            rcases HNX.out u hu with h | h
            · rw [H1.out u h] at hh; cases hh
            · rw [h]; omega
          case measure => simp [intOf]; omega
        · obtain ⟨rfl, rfl⟩ := HK2.out j y rfl h2
          have H2 := Lib.hid h2
          have H3 := Lib.hid h3
          have H4 := Lib.hid h4
          have hjj : (j : Int) < (L.length : Int) := by omega
          have hj0 : (0 : Int) ≤ (j : Int) := by omega
          clear h2 h3 h4
          refine held_take (v := ?v295) 9 rfl (by kernel_rfl) (by kernel_rfl) (by kernel_rfl) (fun _ _ _ h => h) (by rfl) ?y295 (by assumption) ?_
          case y295 => (intro w hSw; unfold HeldLk at hSw; go_simp; (try with_reducible rfl); (try omega))
          simp only [List.setIfInBounds_toArray, List.set_cons_zero, List.set_cons_succ]
          refine held_take (v := .bool false) 10 rfl (by kernel_rfl) (by kernel_rfl) (by kernel_rfl) (fun _ _ _ h => h) (by rfl) (fun W hSw => (by go_simp; first | done | omega)) (by assumption) ?_
          simp only [List.setIfInBounds_toArray, List.set_cons_zero, List.set_cons_succ]
          refine held_take (v := ?v300) 11 rfl (by kernel_rfl) (by kernel_rfl) (by kernel_rfl) (fun _ _ _ h => h) (by rfl) ?y300 (by assumption) ?_
          case y300 => (intro w hSw; unfold HeldLk at hSw; go_simp; (try with_reducible rfl); (try omega))
          simp only [List.setIfInBounds_toArray, List.set_cons_zero, List.set_cons_succ]
          refine held_take (v := ?v303) 12 rfl (by kernel_rfl) (by kernel_rfl) (by kernel_rfl) (fun _ _ _ h => h) (by rfl) ?y303 (by assumption) ?_
          case y303 => (intro w hSw; unfold HeldLk at hSw; go_simp; (try with_reducible rfl); (try omega))
          simp only [List.setIfInBounds_toArray, List.set_cons_zero, List.set_cons_succ]
          refine held_take (v := ?v306) 13 rfl (by kernel_rfl) (by kernel_rfl) (by kernel_rfl) (fun _ _ _ h => h) (by rfl) ?y306 (by assumption) ?_
          case y306 => (intro w hSw; unfold HeldLk at hSw; go_simp; (try with_reducible rfl); (try omega))
          simp only [List.setIfInBounds_toArray, List.set_cons_zero, List.set_cons_succ]
          refine held_take (v := ?v309) 14 rfl (by kernel_rfl) (by kernel_rfl) (by kernel_rfl) (fun _ _ _ h => h) (by rfl) ?y309 (by assumption) ?_
          case y309 => (intro w hSw; unfold HeldLk at hSw; go_simp; (try with_reducible rfl); (try omega))
          simp only [List.setIfInBounds_toArray, List.set_cons_zero, List.set_cons_succ]
          refine held_take (v := ?v312) 15 rfl (by kernel_rfl) (by kernel_rfl) (by kernel_rfl) (fun _ _ _ h => h) (by rfl) ?y312 (by assumption) ?_
          case y312 => (intro w hSw; unfold HeldLk at hSw; go_simp; (try with_reducible rfl); (try omega))
          simp only [List.setIfInBounds_toArray, List.set_cons_zero, List.set_cons_succ]
          refine held_take (v := ?v315) 16 rfl (by kernel_rfl) (by kernel_rfl) (by kernel_rfl) (fun _ _ _ h => h) (by rfl) ?y315 (by assumption) ?_
          case y315 => (intro w hSw; unfold HeldLk at hSw; go_simp; (try with_reducible rfl); (try omega))
          simp only [List.setIfInBounds_toArray, List.set_cons_zero, List.set_cons_succ]
          refine held_take (v := ?v318) 17 rfl (by kernel_rfl) (by kernel_rfl) (by kernel_rfl) (fun _ _ _ h => h) (by rfl) ?y318 (by assumption) ?_
          case y318 => (intro w hSw; unfold HeldLk at hSw; go_simp; (try with_reducible rfl); (try omega))
          simp only [List.setIfInBounds_toArray, List.set_cons_zero, List.set_cons_succ]
          refine held_take (v := ?v321) 18 rfl (by kernel_rfl) (by kernel_rfl) (by kernel_rfl) (fun _ _ _ h => h) (by rfl) ?y321 (by assumption) ?_
          case y321 => (intro w hSw; unfold HeldLk at hSw; go_simp; (try with_reducible rfl); (try omega))
          simp only [List.setIfInBounds_toArray, List.set_cons_zero, List.set_cons_succ]
          refine held_take (v := ?v324) 19 rfl (by kernel_rfl) (by kernel_rfl) (by kernel_rfl) (fun _ _ _ h => h) (by rfl) ?y324 (by assumption) ?_
          case y324 => (intro w hSw; unfold HeldLk at hSw; go_simp; (try with_reducible rfl); (try omega))
          simp only [List.setIfInBounds_toArray, List.set_cons_zero, List.set_cons_succ]
          refine held_take (v := ?v327) 20 rfl (by kernel_rfl) (by kernel_rfl) (by kernel_rfl) (fun _ _ _ h => h) (by rfl) ?y327 (by assumption) ?_
          case y327 => (intro w hSw; unfold HeldLk at hSw; go_simp; (try with_reducible rfl); (try omega))
          simp only [List.setIfInBounds_toArray, List.set_cons_zero, List.set_cons_succ]
          refine held_take (v := ?v330) 21 rfl (by kernel_rfl) (by kernel_rfl) (by kernel_rfl) (fun _ _ _ h => h) (by rfl) ?y330 (by assumption) ?_
          case y330 => (intro w hSw; unfold HeldLk at hSw; go_simp; (try with_reducible rfl); (try omega))
          simp only [List.setIfInBounds_toArray, List.set_cons_zero, List.set_cons_succ]
          refine held_take (v := ?v333) 22 rfl (by kernel_rfl) (by kernel_rfl) (by kernel_rfl) (fun _ _ _ h => h) (by rfl) ?y333 (by assumption) ?_
          case y333 => (intro w hSw; unfold HeldLk at hSw; go_simp; (try with_reducible rfl); (try omega))
          simp only [List.setIfInBounds_toArray, List.set_cons_zero, List.set_cons_succ]
          refine held_take (v := ?v336) 23 rfl (by kernel_rfl) (by kernel_rfl) (by kernel_rfl) (fun _ _ _ h => h) (by rfl) ?y336 (by assumption) ?_
          case y336 => (intro w hSw; unfold HeldLk at hSw; go_simp; (try with_reducible rfl); (try omega))
          simp only [List.setIfInBounds_toArray, List.set_cons_zero, List.set_cons_succ]
          refine held_take (v := ?v339) 24 rfl (by kernel_rfl) (by kernel_rfl) (by kernel_rfl) (fun _ _ _ h => h) (by rfl) ?y339 (by assumption) ?_
          case y339 => (intro w hSw; unfold HeldLk at hSw; go_simp; (try with_reducible rfl); (try omega))
          simp only [List.setIfInBounds_toArray, List.set_cons_zero, List.set_cons_succ]
          refine held_take (v := ?v342) 25 rfl (by kernel_rfl) (by kernel_rfl) (by kernel_rfl) (fun _ _ _ h => h) (by rfl) ?y342 (by assumption) ?_
          case y342 => (intro w hSw; unfold HeldLk at hSw; go_simp; (try with_reducible rfl); (try omega))
          simp only [List.setIfInBounds_toArray, List.set_cons_zero, List.set_cons_succ]
          by_cases hgt : y.1.len < x.1.len
          · skip
            refine held_take (v := .bool true) 26 rfl (by kernel_rfl) (by kernel_rfl) (by kernel_rfl) (fun _ _ _ h => h) (by rfl) (fun W hSw => (by go_simp; first | done | omega | simp [hgt])) (by assumption) ?_
            simp only [List.setIfInBounds_toArray, List.set_cons_zero, List.set_cons_succ]
            refine held_take (v := ?v349) 27 rfl (by kernel_rfl) (by kernel_rfl) (by kernel_rfl) (fun _ _ _ h => h) (by rfl) ?y349 (by assumption) ?_
            case y349 => (intro w hSw; unfold HeldLk at hSw; go_simp; (try with_reducible rfl); (try omega))
            simp only [List.setIfInBounds_toArray, List.set_cons_zero, List.set_cons_succ]
            refine held_take (v := ?v352) 28 rfl (by kernel_rfl) (by kernel_rfl) (by kernel_rfl) (fun _ _ _ h => h) (by rfl) ?y352 (by assumption) ?_
            case y352 => (intro w hSw; unfold HeldLk at hSw; go_simp; (try with_reducible rfl); (try omega))
            simp only [List.setIfInBounds_toArray, List.set_cons_zero, List.set_cons_succ]
            refine wpAnyH_done (by kernel_rfl) ?_ _
            refine NoPanic.normal ?_
            clear hHeld hH6
            go_wp2
            go_roundw
            case rel =>
              refine ⟨i + 1, (i : Int), by omega, by go_num, rfl, .inr ⟨i, x, rfl, by omega, HXX.out, hhb, fun u hu hh => ?_⟩, HZ6.out⟩
              rcases HNX.out u hu with h | h
              · have := H4.out u h hh
                omega
              · rw [h]; omega
            case measure => simp [intOf]; omega
          · skip
            refine held_take (v := .bool false) 26 rfl (by kernel_rfl) (by kernel_rfl) (by kernel_rfl) (fun _ _ _ h => h) (by rfl) (fun W hSw => (by go_simp; first | done | omega | simp [hgt])) (by assumption) ?_
            simp only [List.setIfInBounds_toArray, List.set_cons_zero, List.set_cons_succ]
            refine held_take (v := ?v370) 27 rfl (by kernel_rfl) (by kernel_rfl) (by kernel_rfl) (fun _ _ _ h => h) (by rfl) ?y370 (by assumption) ?_
            case y370 => (intro w hSw; unfold HeldLk at hSw; go_simp; (try with_reducible rfl); (try omega))
            simp only [List.setIfInBounds_toArray, List.set_cons_zero, List.set_cons_succ]
            refine held_take (v := ?v373) 28 rfl (by kernel_rfl) (by kernel_rfl) (by kernel_rfl) (fun _ _ _ h => h) (by rfl) ?y373 (by assumption) ?_
            case y373 => (intro w hSw; unfold HeldLk at hSw; go_simp; (try with_reducible rfl); (try omega))
            simp only [List.setIfInBounds_toArray, List.set_cons_zero, List.set_cons_succ]
            refine wpAnyH_done (by kernel_rfl) ?_ _
            refine NoPanic.normal ?_
            clear hHeld hH6
            go_wp2
            go_roundw
            case rel =>
              refine ⟨i + 1, (j : Int), by omega, by go_num, rfl, .inr ⟨j, y, rfl, by omega, H2.out, H3.out, fun u hu hh => ?_⟩, HZ6.out⟩
              rcases HNX.out u hu with h | h
              · exact H4.out u h hh
              · rw [h]; omega
            case measure => simp [intOf]; omega
end Go.Proofs.Ytgimcapcnidjjaa
