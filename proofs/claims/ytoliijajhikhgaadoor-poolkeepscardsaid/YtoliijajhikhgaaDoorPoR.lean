/- Package pool: a pool in the middle of a step, part by part. -/
import Derived.Test.YtoliijajhikhgaaDoorPo2
namespace Go.Proofs.YtoliijajhikhgaaDoor
open Go Go.RowKit Go.Shelf

/-- A pool whose count and whose bits are yet to be put right. -/
structure PoR (W : World) (base pt : Nat) (room c : Int) (T : List (Value × Int)) (vt vk : Value) (ks : List Nat) : Prop where
  bx : Bx W pt 64 [.int .i64 room, .int .i64 c, vt, vk]
  kt : W.ownsRow base 74 2 vt T.length (T.flatMap thR)
  kk : W.ownsRow base 79 1 vk ks.length (ks.flatMap kR)
  hb : base ≤ pt
  ca : ∀ x ∈ T, x.1.oneCell' = true
  tz : TzE W base
section
variable {w W W' : World} {base pt : Nat} {room c : Int} {T : List (Value × Int)} {vt vk : Value} {ks : List Nat}
theorem PoolM.raw (h : PoolM W base pt room T vt vk ks) : PoR W base pt room (cntU (usT T)) T vt vk ks := ⟨h.bx, h.kt, h.kk, h.hb, h.ca, h.tz⟩
theorem PoR.net (h : PoR W base pt room c T vt vk ks) : vt.ownBlock ≠ some pt := fun e => by
  obtain ⟨cur, hc⟩ := own_type h.kt pt e
  have h2 := h.bx
  unfold Bx at h2
  rw [hc] at h2
  have h3 := Option.some.inj h2
  injection h3 with _ h4
  exact absurd h4 (by decide)
theorem PoR.nek (h : PoR W base pt room c T vt vk ks) : vk.ownBlock ≠ some pt := fun e => by
  obtain ⟨cur, hc⟩ := own_type h.kk pt e
  have h2 := h.bx
  unfold Bx at h2
  rw [hc] at h2
  have h3 := Option.some.inj h2
  injection h3 with _ h4
  exact absurd h4 (by decide)
theorem PoR.netk (h : PoR W base pt room c T vt vk ks) : ∀ k, vt.ownBlock = some k → vk.ownBlock ≠ some k := fun k e e2 => by
  obtain ⟨cur, hc⟩ := own_type h.kt k e
  obtain ⟨cur2, hc2⟩ := own_type h.kk k e2
  rw [hc] at hc2
  have h3 := Option.some.inj hc2
  injection h3 with _ h4
  exact absurd h4 (by decide)
/-- A pool in the middle of a step that began in w. -/
structure PoS (w W : World) (base pt : Nat) (room c : Int) (T : List (Value × Int)) (vt vk : Value) (ks : List Nat) : Prop where
  r : PoR W base pt room c T vt vk ks
  k : KpO (OT14 w base) w W
theorem PoolM.begin (h : PoolM w base pt room T vt vk ks) : PoS w w base pt room (cntU (usT T)) T vt vk ks := ⟨h.raw, KpO.refl _ _⟩
theorem PoTo.mid (h : PoTo w W base pt room T vt vk ks) : PoS w W base pt room (cntU (usT T)) T vt vk ks := ⟨h.m.raw, h.k⟩
theorem PoS.fin (h : PoS w W base pt room c T vt vk ks) (hc : c = cntU (usT T)) (ht : Taken (usT T) ks) : PoTo w W base pt room T vt vk ks := ⟨⟨by rw [← hc]; exact h.r.bx, h.r.kt, h.r.kk, h.r.hb, ht, h.r.ca, h.r.tz⟩, h.k⟩
theorem PoS.up (h : PoS w W base pt room c T vt vk ks) (hb : Below W.heap.size W W') : PoS w W' base pt room c T vt vk ks :=
  ⟨⟨h.r.bx.up hb, own_below h.r.kt hb, own_below h.r.kk hb, h.r.hb, h.r.ca, h.r.tz.up hb⟩, ot_trans h.k (KpO.below hb)⟩
theorem PoS.drew (h : PoS w W base pt room c T vt vk ks) : PoS w W.drew base pt room c T vt vk ks := h.up (Below.refl _ _).drew
/-- the count -/
theorem PoS.cnt (h : PoS w W base pt room c T vt vk ks) (c' : Int) : PoS w (W.setCell ⟨pt, 1, none⟩ (.int .i64 c')) base pt room c' T vt vk ks :=
  ⟨⟨h.r.bx.set 1 _, ownG_otherC h.r.kt h.r.net 1 _, ownG_otherC h.r.kk h.r.nek 1 _, h.r.hb, h.r.ca, h.r.tz.kp (O := fun k => k = pt) (KpO.set W pt 1 _ rfl) (fun k e => by rw [e]; exact h.r.hb)⟩,
    ot_trans h.k ((KpO.set (O := fun k => k = pt) W pt 1 _ rfl).widen (fun k e => by subst e; exact ⟨h.r.hb, _, _, h.r.bx, .inl rfl⟩))⟩
theorem ot_row {e : TypeId} {n s : Nat} {v : Value} {xs : List Value} (h : W.ownsRow base e s v n xs) (ht : e = 64 ∨ e = 74 ∨ e = 79) {k : Nat} (hk : v.ownBlock = some k) : OT14 W base k := by
  obtain ⟨cur, hc⟩ := own_type h k hk
  exact ⟨(h.lt k hk).1, cur, e, hc, ht⟩
/-- a thing -/
theorem PoS.th {g n cap : Nat} (h : PoS w W base pt room c T (.slice (some ⟨g, 0, none⟩) n cap) vk ks) {i : Nat} (hi : i < T.length) (x : Value × Int) (hx : x.1.oneCell' = true) : PoS w (W.setCells g (i * 2) (thR x)) base pt room c (T.set i x) (.slice (some ⟨g, 0, none⟩) n cap) vk ks := by
  have hpt : g ≠ pt := fun e => h.r.net (by rw [e]; rfl)
  have K := kpo_setCells (O := fun k => k = g) rfl (thR x) (i * 2) W
  have hgb : base ≤ g := (h.r.kt.lt g rfl).1
  refine ⟨⟨h.r.bx.kp K (fun e => hpt e.symm), ?_, own_kp h.r.kk K (fun k e e2 => h.r.netk g rfl (by rw [← e2]; exact e)), h.r.hb, fun y hy => ?_, h.r.tz.kp K (fun k e => by rw [e]; exact hgb)⟩, ot_trans h.k (K.widen (fun k e => by rw [e]; exact ot_row h.r.kt (.inr (.inl rfl)) rfl))⟩
  · obtain rfl := (ownG_len h.r.kt).1
    rw [List.length_set]
    exact ownG_put h.r.kt (thR_all T) i hi x rfl
  · rcases List.mem_or_eq_of_mem_set hy with h1 | h1
    · exact h.r.ca y h1
    · rw [h1]; exact hx
/-- how often a thing is used -/
theorem PoS.use {g n cap : Nat} (h : PoS w W base pt room c T (.slice (some ⟨g, 0, none⟩) n cap) vk ks) {i : Nat} {x : Value × Int} (hx : T[i]? = some x) (u : Int) : PoS w (W.setCell ⟨g, i * 2 + 1, none⟩ (.int .i64 u)) base pt room c (T.set i (x.1, u)) (.slice (some ⟨g, 0, none⟩) n cap) vk ks := by
  have hpt : g ≠ pt := fun e => h.r.net (by rw [e]; rfl)
  have K := KpO.set (O := fun k => k = g) W g (i * 2 + 1) (.int .i64 u) rfl
  have hgb : base ≤ g := (h.r.kt.lt g rfl).1
  refine ⟨⟨h.r.bx.kp K (fun e => hpt e.symm), ?_, own_kp h.r.kk K (fun k e e2 => h.r.netk g rfl (by rw [← e2]; exact e)), h.r.hb, fun y hy => ?_, h.r.tz.kp K (fun k e => by rw [e]; exact hgb)⟩, ot_trans h.k (K.widen (fun k e => by rw [e]; exact ot_row h.r.kt (.inr (.inl rfl)) rfl))⟩
  · obtain rfl := (ownG_len h.r.kt).1
    rw [List.length_set]
    exact ownG_cell h.r.kt (thR_all T) i 1 x (x.1, u) hx (by decide) _ rfl
  · rcases List.mem_or_eq_of_mem_set hy with h1 | h1
    · exact h.r.ca y h1
    · rw [h1]; exact h.r.ca x (List.mem_of_getElem? hx)
/-- a row of bits -/
theorem PoS.bits {g n cap : Nat} (h : PoS w W base pt room c T vt (.slice (some ⟨g, 0, none⟩) n cap) ks) {i : Nat} (hi : i < ks.length) (k : Nat) : PoS w (W.setCell ⟨g, i, none⟩ (.int .u64 (k : Int))) base pt room c T vt (.slice (some ⟨g, 0, none⟩) n cap) (ks.set i k) := by
  have hpt : g ≠ pt := fun e => h.r.nek (by rw [e]; rfl)
  have K := KpO.set (O := fun k => k = g) W g i (.int .u64 (k : Int)) rfl
  have hgb : base ≤ g := (h.r.kk.lt g rfl).1
  refine ⟨⟨h.r.bx.kp K (fun e => hpt e.symm), own_kp h.r.kt K (fun k e e2 => h.r.netk k e (by rw [e2]; rfl)), ?_, h.r.hb, h.r.ca, h.r.tz.kp K (fun k e => by rw [e]; exact hgb)⟩, ot_trans h.k (K.widen (fun k e => by rw [e]; exact ot_row h.r.kk (.inr (.inr rfl)) rfl))⟩
  obtain rfl := (ownG_len h.r.kk).1
  rw [List.length_set]
  have := ownG_cell h.r.kk (kR_all ks) i 0 _ k (List.getElem?_eq_getElem hi) (by decide) (.int .u64 (k : Int)) rfl
  simpa using this
end
end Go.Proofs.YtoliijajhikhgaaDoor
