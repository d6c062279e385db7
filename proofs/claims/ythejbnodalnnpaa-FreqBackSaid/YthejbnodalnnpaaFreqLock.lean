/-
  Layer 5's statements: the developers' table and encoder, and the document's, beside each other.
-/
import Derived.Test.YthejbnodalnnpaaFreqRefPut
import Derived.Test.YthejbnodalnnpaaFreqCountsWalk
import Derived.Test.YthejbnodalnnpaaRcLock
namespace Go.Proofs.Ythejbnodalnnpaa.Fq
open Go.RowKit
open Rc (Enc EncAt RefBlk RefAt Row be Fine byte)
theorem setA_all (N : Nat → Bool) : (setA N).all (·.oneCell') = true := by
  have := all_oneCell_toArray (setA_one N)
  simpa using this
structure LockP (w0 : World) (a M E G : Nat) (e er : Enc) (ld lr : List (Nat × Nat)) (vt v1 v2 : Value) (w : World) (O : Paint) : Prop where
  tabs : LockF w0 a M ld lr vt v1 v2 w O
  enc : EncAt w O 3 E e
  ref : RefBlk w O 4 G er
/-- An entry of the list that was read, and its sets. -/
structure RoundP (b m x : Nat) (N : Nat → Bool) (s : Nat) (t : ByteArray) (any : Bool) (w : World) (O : Paint) : Prop where
  set : SetAt w O 5 b N
  map : Blk w O 6 m (.cells (setA N) 41 (0, 0))
  var : Blk w O 7 x (.cells #[.int .u8 (s : Int), .string t, .bool any] 39 (0, 0))
theorem RoundP.step {cs : List Nat} {b m x s : Nat} {N : Nat → Bool} {t : ByteArray} {any : Bool} {w w' : World} {O O' : Paint} (h : RoundP b m x N s t any w O) (hs : Step cs w O w' O') (h5 : 5 ∉ cs) (h6 : 6 ∉ cs) (h7 : 7 ∉ cs) : RoundP b m x N s t any w' O' :=
  ⟨h.set.step hs h5, h.map.step hs h6, h.var.step hs h7⟩
namespace LockP
variable {w0 w w' : World} {a M E G : Nat} {e er e' : Enc} {ld lr l' : List (Nat × Nat)} {vt v1 v2 : Value} {O O' : Paint}
theorem idle (h : LockP w0 a M E G e er ld lr vt v1 v2 w O) (hs : Step [] w O w' O') : LockP w0 a M E G e er ld lr vt v1 v2 w' O' :=
  ⟨h.tabs.idle hs, h.enc.step hs (by simp), h.ref.step hs (by simp)⟩
/-- A step of the round's own objects. -/
theorem other {cs : List Nat} (h : LockP w0 a M E G e er ld lr vt v1 v2 w O) (hs : Step cs w O w' O') (h0 : 0 ∉ cs) (h1 : 1 ∉ cs) (h2 : 2 ∉ cs) (h3 : 3 ∉ cs) (h4 : 4 ∉ cs) : LockP w0 a M E G e er ld lr vt v1 v2 w' O' := by
  obtain ⟨r1, r2, r3⟩ := LockF.keep h.tabs.rows h.tabs.own1 h.tabs.own2 hs h2
  exact ⟨⟨h.tabs.run.step hs h0, h.tabs.tab.step hs h1, h.tabs.var.step hs h2, r1, r2, r3, h.tabs.nil0⟩, h.enc.step hs h3, h.ref.step hs h4⟩
theorem below (h : LockP w0 a M E G e er ld lr vt v1 v2 w O) (hb : Below w.heap.size w w') : LockP w0 a M E G e er ld lr vt v1 v2 w' O := h.idle (Step.of_below_same hb O)
theorem add (h : LockP w0 a M E G e er ld lr vt v1 v2 w O) (ha : Added w O 1 a l' w') : ∃ O' vt', Step [1] w O w' O' ∧ LockP w0 a M E G e er l' lr vt' v1 v2 w' O' := by
  obtain ⟨O', vt', hs, ht⟩ := ha
  obtain ⟨r1, r2, r3⟩ := LockF.keep h.tabs.rows h.tabs.own1 h.tabs.own2 hs (by simp)
  exact ⟨O', vt', hs, ⟨h.tabs.run.step hs (by simp), ht, h.tabs.var.step hs (by simp), r1, r2, r3, h.tabs.nil0⟩, h.enc.step hs (by simp), h.ref.step hs (by simp)⟩
theorem put (h : LockP w0 a M E G e er ld lr vt v1 v2 w O) (hs : Step [3] w O w' O') (he : EncAt w' O' 3 E e') : LockP w0 a M E G e' er ld lr vt v1 v2 w' O' := by
  obtain ⟨r1, r2, r3⟩ := LockF.keep h.tabs.rows h.tabs.own1 h.tabs.own2 hs (by simp)
  exact ⟨⟨h.tabs.run.step hs (by simp), h.tabs.tab.step hs (by simp), h.tabs.var.step hs (by simp), r1, r2, r3, h.tabs.nil0⟩, he, h.ref.step hs (by simp)⟩
/-- The document's encoder is handed back anew, and stored. -/
theorem rput (h : LockP w0 a M E G e er ld lr vt v1 v2 w O) {g cap g' n' cap' : Nat} (hR : RefAt w O 4 G g cap er) (hb : Below w.heap.size w w') (hr : Row w' (.slice (some ⟨g', 0, none⟩) n' cap') (be (e'.turns + 4) e'.low)) (hm : Moved w (.slice (some ⟨g, 0, none⟩) (er.turns + 4) cap) (.slice (some ⟨g', 0, none⟩) n' cap')) (hn : n' = e'.turns + 4) :
    ∃ O', Step [4] w O ((w'.setCell ⟨G, 0, none⟩ (.slice (some ⟨g', 0, none⟩) n' cap')).setCell ⟨G, 1, none⟩ (.int .u64 (e'.size : Int))) O' ∧ LockP w0 a M E G e e' ld lr vt v1 v2 ((w'.setCell ⟨G, 0, none⟩ (.slice (some ⟨g', 0, none⟩) n' cap')).setCell ⟨G, 1, none⟩ (.int .u64 (e'.size : Int))) O' := by
  obtain ⟨k1, hs⟩ := hR.set hb hr hm hn
  obtain ⟨r1, r2, r3⟩ := LockF.keep h.tabs.rows h.tabs.own1 h.tabs.own2 hs (by simp)
  exact ⟨_, hs, ⟨h.tabs.run.step hs (by simp), h.tabs.tab.step hs (by simp), h.tabs.var.step hs (by simp), r1, r2, r3, h.tabs.nil0⟩, h.enc.step hs (by simp), k1⟩
theorem radd (h : LockP w0 a M E G e er ld lr vt v1 v2 w O) {v1' v2' : Value} (hb : Below w.heap.size w w') (hR : RefT w' v1' v2' l') (n1 : ∀ k, v1'.ownBlock = some k → w.heap.size ≤ k) (n2 : ∀ k, v2'.ownBlock = some k → w.heap.size ≤ k) (hne : l' ≠ []) :
    ∃ O', Step [2] w O ((w'.setCell ⟨M, 0, none⟩ v1').setCell ⟨M, 1, none⟩ v2') O' ∧ LockP w0 a M E G e er ld l' vt v1' v2' ((w'.setCell ⟨M, 0, none⟩ v1').setCell ⟨M, 1, none⟩ v2') O' := by
  have s0 := Step.of_below hb O 2
  have hM : O M ∈ [2] := by rw [h.tabs.var.2]; simp
  have s1 : Step [2] w O ((w'.setCell ⟨M, 0, none⟩ v1').setCell ⟨M, 1, none⟩ v2') (Step.paint O w 2) := (s0.nil.setCell (p := ⟨M, 0, none⟩) (.inl hM) _).setCell (p := ⟨M, 1, none⟩) (.inl hM) _
  exact ⟨_, s1, h.tabs.refs hb hR n1 n2 hne, h.enc.step s1 (by simp), h.ref.step s1 (by simp)⟩
end LockP
/-- Both encoders at the end. -/
def EndedP (w0 : World) (a M E G g cap : Nat) (e : Enc) (l : List (Nat × Nat)) (vt v1 v2 : Value) (w : World) (O : Paint) : Prop := LockP w0 a M E G e e l l vt v1 v2 w O ∧ RefAt w O 4 G g cap e
section
variable {w0 w w' : World} {a M E G g cap : Nat} {e : Enc} {l : List (Nat × Nat)} {vt v1 v2 : Value} {O : Paint}
theorem EndedP.below (h : EndedP w0 a M E G g cap e l vt v1 v2 w O) (hb : Below w.heap.size w w') : EndedP w0 a M E G g cap e l vt v1 v2 w' O :=
  ⟨h.1.below hb, h.2.1.step (Step.of_below_same hb O) (by simp), h.2.2.step (Step.of_below_same hb O) (by simp)⟩
theorem EndedP.drew (h : EndedP w0 a M E G g cap e l vt v1 v2 w O) : EndedP w0 a M E G g cap e l vt v1 v2 w.drew O :=
  ⟨h.1.idle (Step.refl [] w O).drew, h.2.1.step (Step.refl [] w O).drew (by simp), h.2.2.step (Step.refl [] w O).drew (by simp)⟩
theorem EndedP.dev (h : EndedP w0 a M E G g cap e l vt v1 v2 w O) (ht : e.turns ≤ 1000000) :
    Calls Try.prog 27 #[.pointer (some ⟨E, 0, none⟩)] w fun x w' => x = .returned (.string ⟨e.bytes.toArray⟩) ∧ EndedP w0 a M E G g cap e l vt v1 v2 w' O :=
  (Rc.enc_end h.1.enc ht).mono fun _ _ ⟨h1, h2⟩ => ⟨h1, h.below h2⟩
theorem EndedP.refs (h : EndedP w0 a M E G g cap e l vt v1 v2 w O) (ht : e.turns ≤ 1000000) :
    Calls Try.prog 28 #[.agg #[.slice (some ⟨g, 0, none⟩) (e.turns + 4) cap, .int .u64 (e.size : Int)]] w fun x w' => x = .returned (.string ⟨e.bytes.toArray⟩) ∧ EndedP w0 a M E G g cap e l vt v1 v2 w' O :=
  (Rc.end_any h.2.2.toRow ht e.size).mono fun _ _ ⟨h1, h2⟩ => ⟨h1, h.below h2⟩
end
theorem nil_shas (w : World) (s : Nat) (hs : s < 256) : Calls Try.prog 21 #[.pointer none, .int .u8 (s : Int)] w fun x w' => x = .returned (.bool false) ∧ w = w' := setHas (N := noN) (.inl ⟨rfl, fun _ => rfl⟩) s hs
theorem nil_shas1 (w : World) : Calls Try.prog 21 #[.pointer none, .int .u8 1] w fun x w' => x = .returned (.bool false) ∧ w = w' := nil_shas w 1 (by omega)
/-- Signs stand once in a table. -/
theorem more_fst (l : List (Nat × Nat)) (i : Nat) (hi : i < l.length) : (more l i).map (·.1) = l.map (·.1) := set_fst l i _ hi
theorem halve_fst (l : List (Nat × Nat)) : (halve l).map (·.1) = l.map (·.1) := by simp [halve]
theorem not_found {l : List (Nat × Nat)} {s : Nat} (h : ¬ find l s < l.length) : s ∉ l.map (·.1) := by
  intro hm
  rw [List.mem_map] at hm
  obtain ⟨x, hx, rfl⟩ := hm
  obtain ⟨i, hi, rfl⟩ := List.mem_iff_getElem.1 hx
  have := find_has l i hi
  have e : at' l i = l[i] := by simp [at', List.getD, hi]
  rw [e] at this
  exact h this
theorem add_nodup {l : List (Nat × Nat)} (h : (l.map (·.1)).Nodup) (s : Nat) : ((addT l s).map (·.1)).Nodup := by
  unfold addT
  split
  · rename_i h1
    split
    · rw [halve_fst, more_fst _ _ h1]; exact h
    · rw [more_fst _ _ h1]; exact h
  · rename_i h1
    rw [List.map_append, List.nodup_append]
    refine ⟨h, by simp, ?_⟩
    intro x hx y hy e
    simp at hy
    subst e
    subst hy
    exact not_found h1 hx
/-- What the statement's loop does, entry by entry. -/
structure Asked where
  sign : Nat
  text : ByteArray
  any : Bool
def Asked.N (x : Asked) : Nat → Bool := inN (x.text.data.toList.take 200)
def stepE (e : Enc) (l : List (Nat × Nat)) (x : Asked) : Enc × List (Nat × Nat) :=
  if x.any then (if x.N x.sign then (e, l) else (e.part (free x.N x.sign) 1 (free x.N 256), l)) else ((putE e l x.N x.sign).1, addT l x.sign)
/-- What a walk is told of an entry that came in, and of their list. -/
def IsAsk (w : World) (b o : Nat) (x : Asked) : Prop :=
  w.cell? ⟨b, o, none⟩ = some (.int .u8 (x.sign : Int)) ∧ w.cell? ⟨b, o + 1, none⟩ = some (.string x.text) ∧ w.cell? ⟨b, o + 2, none⟩ = some (.bool x.any) ∧ x.sign < 256 ∧ x.text.size ≤ maxLen
def IsAsks (w : World) (a : Option Addr) (len : Nat) : Prop :=
  len ≤ maxLen ∧ (len = 0 ∨ ∃ b off, a = some ⟨b, off, none⟩ ∧ b < w.heap.size ∧ ∀ i, i < len → ∃ x : Asked, IsAsk w b (off + i * 3) x)
end Go.Proofs.Ythejbnodalnnpaa.Fq
