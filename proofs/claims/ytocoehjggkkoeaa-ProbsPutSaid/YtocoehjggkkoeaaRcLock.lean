/-
  Layer 3's statements: the reference's encoder in a variable, arrays of probabilities, and all of them beside each other.
-/
import Derived.Test.YtocoehjggkkoeaaRcLaws
import Derived.Test.YtocoehjggkkoeaaRcRefBit
import Derived.Test.YtocoehjggkkoeaaProbsMath
namespace Go.Proofs.Ytocoehjggkkoeaa.Rc
open Go.RowKit
theorem _root_.Go.Proofs.Ytocoehjggkkoeaa.Held.toRow {w : World} {O : Paint} {c : Nat} {v : Value} {l : List UInt8} (h : Held w O c 5 v (l.map byte)) : Row w v l := by
  have := h.row
  rw [List.length_map] at this
  exact this
theorem Row.toOwn {w : World} {v : Value} {l : List UInt8} (h : Row w v l) : w.ownsRow 0 5 1 v (l.map byte).length (l.map byte) := by
  rw [List.length_map]; exact h
/-- Block M holds a reference's encoder with these numbers; it, and its bytes, belong to c. -/
def RefAt (w : World) (O : Paint) (c M g cap : Nat) (e : Enc) : Prop :=
  Blk w O c M (.cells #[.slice (some ⟨g, 0, none⟩) (e.turns + 4) cap, .int .u64 (e.size : Int)] 29 (0, 0)) ∧
  Held w O c 5 (.slice (some ⟨g, 0, none⟩) (e.turns + 4) cap) ((be (e.turns + 4) e.low).map byte)
def RefBlk (w : World) (O : Paint) (c M : Nat) (e : Enc) : Prop := ∃ g cap, RefAt w O c M g cap e
theorem RefBlk.step {cs : List Nat} {w w' : World} {O O' : Paint} {c M : Nat} {e : Enc} (h : RefBlk w O c M e) (hs : Step cs w O w' O') (hc : c ∉ cs) : RefBlk w' O' c M e := by
  obtain ⟨g, cap, h1, h2⟩ := h
  exact ⟨g, cap, h1.step hs hc, h2.step hs hc⟩
/-- The reference's encoder was handed back anew, and is stored. -/
theorem RefAt.set {w w' : World} {O : Paint} {c M g cap g' n' cap' : Nat} {e e' : Enc} (h : RefAt w O c M g cap e) (hb : Below w.heap.size w w') (hr : Row w' (.slice (some ⟨g', 0, none⟩) n' cap') (be (e'.turns + 4) e'.low)) (hm : Moved w (.slice (some ⟨g, 0, none⟩) (e.turns + 4) cap) (.slice (some ⟨g', 0, none⟩) n' cap')) (hn : n' = e'.turns + 4) :
    RefBlk ((w'.setCell ⟨M, 0, none⟩ (.slice (some ⟨g', 0, none⟩) n' cap')).setCell ⟨M, 1, none⟩ (.int .u64 (e'.size : Int))) (Step.paint O w c) c M e' ∧
    Step [c] w O ((w'.setCell ⟨M, 0, none⟩ (.slice (some ⟨g', 0, none⟩) n' cap')).setCell ⟨M, 1, none⟩ (.int .u64 (e'.size : Int))) (Step.paint O w c) := by
  subst hn
  obtain ⟨h1, h2⟩ := h
  have s0 : Step [c] w O w' (Step.paint O w c) := (Step.of_below hb O c).nil
  have hne : g ≠ M := h2.ne h1.1 (by decide)
  have b2 := h1.step (Step.of_below hb O c) (by simp)
  have r2 : Held w' (Step.paint O w c) c 5 (.slice (some ⟨g', 0, none⟩) (e'.turns + 4) cap') ((be (e'.turns + 4) e'.low).map byte) := h2.moved hr.toOwn hm
  have hn2 : (Value.slice (some ⟨g', 0, none⟩) (e'.turns + 4) cap').ownBlock ≠ some M := by simp [Value.ownBlock]; exact r2.ne b2.1 (by decide)
  refine ⟨⟨g', cap', ?_, ?_⟩, ?_⟩
  · simpa using (b2.setCell 0 (.slice (some ⟨g', 0, none⟩) (e'.turns + 4) cap')).setCell 1 (.int .u64 (e'.size : Int))
  · exact (r2.setCell_other (p := ⟨M, 0, none⟩) hn2 _).setCell_other (p := ⟨M, 1, none⟩) hn2 _
  · have hc : O M ∈ [c] := by simp [h1.2]
    exact (s0.setCell (p := ⟨M, 0, none⟩) (.inl hc) _).setCell (p := ⟨M, 1, none⟩) (.inl hc) _
def u16s (l : List Nat) : List Value := l.map fun (n : Nat) => Value.int .u16 (n : Int)
def u64s (l : List Nat) : List Value := l.map fun (n : Nat) => Value.int .u64 (n : Int)
def Arr16 (w : World) (O : Paint) (c P : Nat) (l : List Nat) : Prop := Blk w O c P (.cells (u16s l).toArray 32 (0, 0))
def Arr64 (w : World) (O : Paint) (c P : Nat) (l : List Nat) : Prop := Blk w O c P (.cells (u64s l).toArray 33 (0, 0))
theorem Arr16.cellAt {w : World} {O : Paint} {c P : Nat} {l : List Nat} (h : Arr16 w O c P l) {j : Nat} (hj : j < l.length) : w.cell? ⟨P, j, none⟩ = some (.int .u16 ((l.getD j 0 : Nat) : Int)) := by
  rw [Blk.cell h j]; simp [u16s, hj, List.getD]
theorem Arr64.cellAt {w : World} {O : Paint} {c P : Nat} {l : List Nat} (h : Arr64 w O c P l) {j : Nat} (hj : j < l.length) : w.cell? ⟨P, j, none⟩ = some (.int .u64 ((l.getD j 0 : Nat) : Int)) := by
  rw [Blk.cell h j]; simp [u64s, hj, List.getD]
theorem Arr16.set {w : World} {O : Paint} {c P : Nat} {l : List Nat} (h : Arr16 w O c P l) (j x : Nat) : Arr16 (w.setCell ⟨P, j, none⟩ (.int .u16 (x : Int))) O c P (l.set j x) := by
  have := Blk.setCell h j (.int .u16 (x : Int))
  unfold Arr16
  have e : (u16s (l.set j x)).toArray = (u16s l).toArray.setIfInBounds j (.int .u16 (x : Int)) := by simp [u16s, List.map_set]
  rw [e]; exact this
theorem Arr64.set {w : World} {O : Paint} {c P : Nat} {l : List Nat} (h : Arr64 w O c P l) (j x : Nat) : Arr64 (w.setCell ⟨P, j, none⟩ (.int .u64 (x : Int))) O c P (l.set j x) := by
  have := Blk.setCell h j (.int .u64 (x : Int))
  unfold Arr64
  have e : (u64s (l.set j x)).toArray = (u64s l).toArray.setIfInBounds j (.int .u64 (x : Int)) := by simp [u64s, List.map_set]
  rw [e]; exact this
/-- The developers' encoder, the reference's, and their probabilities. -/
structure Lock (w0 : World) (a M P Q : Nat) (e er : Enc) (pl ql : List Nat) (w : World) (O : Paint) : Prop where
  run : Run w0 w O
  enc : EncAt w O 1 a e
  ref : RefBlk w O 2 M er
  ps : Arr16 w O 3 P pl
  qs : Arr64 w O 4 Q ql
namespace Lock
variable {w0 w w' : World} {a M P Q : Nat} {e er : Enc} {pl ql : List Nat} {O O' : Paint}
theorem idle (h : Lock w0 a M P Q e er pl ql w O) (hs : Step [] w O w' O') : Lock w0 a M P Q e er pl ql w' O' :=
  ⟨h.run.step hs (by simp), h.enc.step hs (by simp), h.ref.step hs (by simp), Blk.step h.ps hs (by simp), Blk.step h.qs hs (by simp)⟩
theorem below (h : Lock w0 a M P Q e er pl ql w O) (hb : Below w.heap.size w w') : Lock w0 a M P Q e er pl ql w' O := h.idle (Step.of_below_same hb O)
theorem dev (h : Lock w0 a M P Q e er pl ql w O) (hs : Step [1] w O w' O') {e' : Enc} (he : EncAt w' O' 1 a e') : Lock w0 a M P Q e' er pl ql w' O' :=
  ⟨h.run.step hs (by simp), he, h.ref.step hs (by simp), Blk.step h.ps hs (by simp), Blk.step h.qs hs (by simp)⟩
theorem refs (h : Lock w0 a M P Q e er pl ql w O) (hs : Step [2] w O w' O') {e' : Enc} (he : RefBlk w' O' 2 M e') : Lock w0 a M P Q e e' pl ql w' O' :=
  ⟨h.run.step hs (by simp), h.enc.step hs (by simp), he, Blk.step h.ps hs (by simp), Blk.step h.qs hs (by simp)⟩
theorem setP (h : Lock w0 a M P Q e er pl ql w O) (j x : Nat) : Lock w0 a M P Q e er (pl.set j x) ql (w.setCell ⟨P, j, none⟩ (.int .u16 (x : Int))) O := by
  have hs := Step.store w O ⟨P, j, none⟩ (.int .u16 (x : Int))
  simp only [h.ps.2] at hs
  exact ⟨h.run.step hs (by simp), h.enc.step hs (by simp), h.ref.step hs (by simp), h.ps.set j x, Blk.step h.qs hs (by simp)⟩
theorem setQ (h : Lock w0 a M P Q e er pl ql w O) (j x : Nat) : Lock w0 a M P Q e er pl (ql.set j x) (w.setCell ⟨Q, j, none⟩ (.int .u64 (x : Int))) O := by
  have hs := Step.store w O ⟨Q, j, none⟩ (.int .u64 (x : Int))
  simp only [h.qs.2] at hs
  exact ⟨h.run.step hs (by simp), h.enc.step hs (by simp), h.ref.step hs (by simp), Blk.step h.ps hs (by simp), h.qs.set j x⟩
end Lock
/-- What a round of a law begins and ends with. -/
def Locked (w0 : World) (a M P Q : Nat) (e : Enc) (pl : List Nat) (w : World) : Prop := pl.length = 4 ∧ Probs pl ∧ ∃ O, Lock w0 a M P Q e e pl pl w O
theorem and1_i64 (v i : Nat) (hv : v < 9223372036854775808) : bits .and .i64 ((v : Int) / 2 ^ i) 1 = ((bitAt v i : Nat) : Int) := by
  have hle : v / 2 ^ i < 9223372036854775808 := Nat.lt_of_le_of_lt (Nat.div_le_self _ _) hv
  have h2 : ((v : Int) / 2 ^ i) = ((v / 2 ^ i : Nat) : Int) := by simp
  have two63 : (2 : Int) ^ 63 = 9223372036854775808 := by decide
  rw [h2]
  unfold bitAt
  generalize v / 2 ^ i = q at *
  have h := bits_mask .i64 63 (by decide) (fun n h0 h1 => by rw [two63] at h1; rw [IntKind.wrap_i64]; omega) 1 (by decide) (q : Int) (by omega) (by rw [two63]; omega)
  have e : ((2 : Int) ^ 1 - 1) = 1 := by decide
  rw [e] at h
  rw [h]
  omega
theorem low_bit (v : Nat) (hv : v < 4294967296) : IntKind.i64.wrap (bits .and .u32 (v : Int) 1) = ((v % 2 : Nat) : Int) := by
  have e := u32_and_nat v 1 hv (by omega)
  rw [nat_mask1] at e
  rw [show (1 : Int) = ((1 : Nat) : Int) from rfl, e]
  exact IntWalk.i64_in _ (by omega)
theorem low_bit64 (v : Nat) (hv : v < 4294967296) : wrap64 (bits .and .u32 (v : Int) 1) = ((v % 2 : Nat) : Int) := by
  rw [← IntWalk.i64_left]; exact low_bit v hv
theorem shr_wrap (v i : Nat) (hv : v < 9223372036854775808) : IntKind.i64.wrap ((v : Int) / 2 ^ i) = (v : Int) / 2 ^ i := by
  have hle : v / 2 ^ i < 9223372036854775808 := Nat.lt_of_le_of_lt (Nat.div_le_self _ _) hv
  have h2 : ((v : Int) / 2 ^ i) = ((v / 2 ^ i : Nat) : Int) := by simp
  rw [h2]
  generalize v / 2 ^ i = q at *
  exact IntWalk.i64_in _ (by omega)
theorem row_len {w : World} {v : Value} {t L : Nat} (h : Row w v (be (t + 4) L)) : ∃ g cap, v = .slice (some ⟨g, 0, none⟩) (t + 4) cap := by
  obtain ⟨g, cap, e⟩ := h.form (by rw [be_length]; omega)
  rw [be_length] at e
  exact ⟨g, cap, e⟩
theorem directb_any {w : World} {v : Value} {e : Enc} (h : Row w v (be (e.turns + 4) e.low)) (hf : Fine e) (ht : e.turns ≤ 999990) (b : Nat) (hb : b ≤ 1) :
    Calls Try.prog 13 #[.agg #[v, .int .u64 (e.size : Int)], .int .i64 (b : Int)] w (Gives w v (e.direct b)) := by
  rcases (show b = 0 ∨ b = 1 by omega) with h0 | h0
  · exact direct0_any h hf ht b h0
  · exact direct1_any h hf ht b h0
/-- Both encoders at an end: the reference's with its slice. -/
def Ended (w0 : World) (a M P Q g cap : Nat) (e : Enc) (pl : List Nat) (w : World) (O : Paint) : Prop := Lock w0 a M P Q e e pl pl w O ∧ RefAt w O 2 M g cap e
theorem Ended.below {w0 w w' : World} {a M P Q g cap : Nat} {e : Enc} {pl : List Nat} {O : Paint} (h : Ended w0 a M P Q g cap e pl w O) (hb : Below w.heap.size w w') : Ended w0 a M P Q g cap e pl w' O :=
  ⟨h.1.below hb, h.2.1.step (Step.of_below_same hb O) (by simp), h.2.2.step (Step.of_below_same hb O) (by simp)⟩
theorem Ended.drew {w0 w : World} {a M P Q g cap : Nat} {e : Enc} {pl : List Nat} {O : Paint} (h : Ended w0 a M P Q g cap e pl w O) : Ended w0 a M P Q g cap e pl w.drew O :=
  ⟨h.1.idle (Step.refl [] w O).drew, h.2.1.step (Step.refl [] w O).drew (by simp), h.2.2.step (Step.refl [] w O).drew (by simp)⟩
theorem Ended.dev {w0 w : World} {a M P Q g cap : Nat} {e : Enc} {pl : List Nat} {O : Paint} (h : Ended w0 a M P Q g cap e pl w O) (ht : e.turns ≤ 1000000) :
    Calls Try.prog 19 #[.pointer (some ⟨a, 0, none⟩)] w fun x w' => x = .returned (.string ⟨e.bytes.toArray⟩) ∧ Ended w0 a M P Q g cap e pl w' O :=
  (enc_end h.1.enc ht).mono fun _ _ ⟨h1, h2⟩ => ⟨h1, h.below h2⟩
theorem Ended.refs {w0 w : World} {a M P Q g cap : Nat} {e : Enc} {pl : List Nat} {O : Paint} (h : Ended w0 a M P Q g cap e pl w O) (ht : e.turns ≤ 1000000) :
    Calls Try.prog 20 #[.agg #[.slice (some ⟨g, 0, none⟩) (e.turns + 4) cap, .int .u64 (e.size : Int)]] w fun x w' => x = .returned (.string ⟨e.bytes.toArray⟩) ∧ Ended w0 a M P Q g cap e pl w' O :=
  (end_any h.2.2.toRow ht e.size).mono fun _ _ ⟨h1, h2⟩ => ⟨h1, h.below h2⟩
end Go.Proofs.Ytocoehjggkkoeaa.Rc
