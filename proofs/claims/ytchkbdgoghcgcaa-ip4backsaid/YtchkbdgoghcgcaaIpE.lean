/- Headers compared; the same laws where an operation is guarded; the document's Put, whole. -/
import Derived.Test.YtchkbdgoghcgcaaIpR4
import Derived.ChangeKeysEq
namespace Go.Proofs.Ytchkbdgoghcgcaa
open Go Go.RowKit

theorem eq_four (W : World) (a b c d : Int) : (Op.equalIn 9999 25 (.agg #[.int .u8 a, .int .u8 b, .int .u8 c, .int .u8 d]) (.agg #[.int .u8 a, .int .u8 b, .int .u8 c, .int .u8 d])).run Try.prog W = .ok true W := by
  obtain ⟨i0, hi, _⟩ := info_parts info5
  have hc : Try.prog.cellsOf 5 = 1 := by kernel_rfl
  rw [show 9999 = 9998 + 1 from rfl, run_equalIn_array W 9998 _ _ Try.underlying25 hi, hc, show List.range 4 = [0, 1, 2, 3] from rfl]
  unfold Op.eqItems Op.eqItems Op.eqItems Op.eqItems Op.eqItems
  go_simp
set_option maxHeartbeats 4000000 in
theorem eql_hdr (h : Hdr) (W : World) (i j : Nat) : (do eqGuard .eql 27 (.tmp i) (.tmp j) h.val h.val; binOp .eql 27 h.val h.val : Sem Value).run Try.prog W = .ok (.bool true) W := by
  obtain ⟨tos, len, id, keep, more, off, ttl, proto, s0, s1, s2, s3, d0, d1, d2, d3, opt⟩ := h
  unfold Hdr.val Hdr.cells
  have h1 := fun a b c d => eq_four W a b c d
  go_simp
theorem exec_eql_hdr {ρ : Operand → Value} {o : Oper} {W : World} (i j : Nat) (ty : TypeId) (ho : o.op = .binOp .eql 27 (.tmp i) (.tmp j) ty) (h : Hdr) (hx : ρ (.tmp i) = h.val) (hy : ρ (.tmp j) = h.val) :
    (execOp ρ o).run Try.prog W = .ok (.value (.bool true)) W := by
  have := eql_hdr h W i j
  unfold execOp
  simp only [ho, hx, hy, Sem.run_bind] at this ⊢
  rw [this]
  rfl

section
variable {ops : Array Oper} {rest : List Oper} {o : Oper} {a : Act} {w : World} {Q : Exit → Act → World → Prop}
theorem wpList_wanted {P : Program} (hw : Region.wanted o (yielded ops a.tmps) = true) (h : ∀ K : Act → World → Prop, (∀ a w, wpList P ops Q rest a w → K a w) → o.wp P a w K Q) : wpList P ops Q (o :: rest) a w :=
  wpList_step fun K hK => by rw [if_pos hw]; exact h K hK
theorem wpList_load_hdrG (hw : Region.wanted o (yielded ops a.tmps) = true) (x : Operand) (ho : o.op = .load 27 x) (g : Nat) (h : Hdr) (hx : a.eval x = .pointer (some ⟨g, 0, none⟩)) (hg : w.heap[g]? = some (.cells h.cells 27 (0, 0)))
    (hR : wpList Try.prog ops Q rest (a.put o.dst h.val) w) : wpList Try.prog ops Q (o :: rest) a w :=
  wpList_wanted hw fun K hK => by
    unfold Oper.wp
    rw [exec_load_hdr x ho g h hx hg]
    exact hK _ _ hR
theorem wpList_eql_hdrG (hw : Region.wanted o (yielded ops a.tmps) = true) (i j : Nat) (ty : TypeId) (ho : o.op = .binOp .eql 27 (.tmp i) (.tmp j) ty) (h : Hdr) (hx : a.eval (.tmp i) = h.val) (hy : a.eval (.tmp j) = h.val)
    (hR : wpList Try.prog ops Q rest (a.put o.dst (.bool true)) w) : wpList Try.prog ops Q (o :: rest) a w :=
  wpList_wanted hw fun K hK => by
    unfold Oper.wp
    rw [exec_eql_hdr i j ty ho h hx hy]
    exact hK _ _ hR
end

/-- A row longer than a block lies in another one. -/
theorem isX_of_long {w : World} {v : Value} {l : List UInt8} {g : Nat} {cs : Array Value} {t : TypeId} {z : Nat × Nat} (h : IsB w v l) (hg : w.heap[g]? = some (.cells cs t z)) (hs : cs.size < l.length) : IsX g w v l := by
  obtain ⟨a, cap, rfl, h1, h2, h3⟩ := h
  refine ⟨a, cap, rfl, h1, h2, fun hp => ?_⟩
  obtain ⟨b, off, rfl, hlt, hc⟩ := h3 hp
  refine ⟨b, off, rfl, ?_, hlt, hc⟩
  intro hb
  subst hb
  have := hc cs.size hs
  rw [cell_of_row w b (off + cs.size) _ _ _ hg, Array.getElem?_eq_none (by omega)] at this
  cases this
theorem But.setCell (g i : Nat) (w : World) (v : Value) : But g w (w.setCell ⟨g, i, none⟩ v) :=
  ⟨rfl, rfl, rfl, by simp, fun k _ hk => Below.heap_setCell w ⟨g, i, none⟩ v k hk⟩
/-- A cell of a header in its box is written. -/
theorem hdr_set {w : World} {g : Nat} {h h' : Hdr} (hg : w.heap[g]? = some (.cells h.cells 27 (0, 0))) (i : Nat) (v : Value) (he : h.cells.setIfInBounds i v = h'.cells) : (w.setCell ⟨g, i, none⟩ v).heap[g]? = some (.cells h'.cells 27 (0, 0)) := by
  rw [heap_setCell_same w g i _ _ _ hg, he]

theorem rput4_any (h : Hdr) (body : List UInt8) (w : World) (hid : h.id ≤ 65535) (hlim : body.length ≤ 500000) :
    Calls Try.prog 15 #[h.val, .string ⟨body.toArray⟩] w fun r w' => r = .returned (.tuple #[.string ⟨(putP4 h body).toArray⟩, .int .i64 (putC4 h body.length)]) ∧ Below w.heap.size w w' := by
  unfold putC4 putP4
  cases hf : h.fitB
  · simp only [Bool.false_eq_true, if_false]
    exact rput4_arg h _ w (fun f => by rw [(Hdr.fit_iff h).2 f] at hf; cases hf)
  · simp only [if_true]
    exact rput4_fit h body w ((Hdr.fit_iff h).1 hf) hid hlim
end Go.Proofs.Ytchkbdgoghcgcaa
