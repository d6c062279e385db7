/-
  Layer 4's statements: both encoders and both trees beside each other.
-/
import Derived.Test.YtjfoolhgjnnhgaaProbsSpeaks4
import Derived.Test.YtjfoolhgjnnhgaaProbsRefLike
namespace Go.Proofs.Ytjfoolhgjnnhgaa.Rc
open Go.RowKit
/-- The developers' encoder and tree, the reference's encoder and tree, with the same numbers. -/
structure LockT (w0 : World) (a M : Nat) (s sr : Tr) (vt vu : Value) (w : World) (O : Paint) : Prop where
  run : Run w0 w O
  enc : EncAt w O 1 a s.e
  ref : RefBlk w O 2 M sr.e
  tree : TreeAt w O 3 vt s.l
  row : Held w O 4 33 vu (sr.l.map num)
namespace LockT
variable {w0 w w' : World} {a M : Nat} {s sr s' : Tr} {vt vu vu' : Value} {O O' : Paint}
theorem idle (h : LockT w0 a M s sr vt vu w O) (hs : Step [] w O w' O') : LockT w0 a M s sr vt vu w' O' :=
  ⟨h.run.step hs (by simp), h.enc.step hs (by simp), h.ref.step hs (by simp), h.tree.step hs (by simp), h.row.step hs (by simp)⟩
theorem below (h : LockT w0 a M s sr vt vu w O) (hb : Below w.heap.size w w') : LockT w0 a M s sr vt vu w' O := h.idle (Step.of_below_same hb O)
theorem dev (h : LockT w0 a M s sr vt vu w O) (hp : Putted w O 1 3 a vt s' w') : ∃ O', LockT w0 a M s' sr vt vu w' O' := by
  obtain ⟨O', hs, he, ht⟩ := hp
  exact ⟨O', h.run.step hs (by simp), he, h.ref.step hs (by simp), ht, h.row.step hs (by simp)⟩
end LockT
theorem row64_of {w : World} {O : Paint} {c : Nat} {v : Value} {l : List Nat} (h : Held w O c 33 v (l.map num)) : Row64 w v l := by
  have := h.row
  rw [List.length_map] at this
  exact this
/-- The reference put something: both of its things are new, or where they were. -/
theorem LockT.refs {w0 w w' : World} {a M g cap g' n' cap' : Nat} {s sr s' : Tr} {vt vu vu' : Value} {O : Paint} (h : LockT w0 a M s sr vt vu w O) (hR : RefAt w O 2 M g cap sr.e) (hb : Below w.heap.size w w')
    (hr : Row w' (.slice (some ⟨g', 0, none⟩) n' cap') (be (s'.e.turns + 4) s'.e.low)) (hm : Moved w (.slice (some ⟨g, 0, none⟩) (sr.e.turns + 4) cap) (.slice (some ⟨g', 0, none⟩) n' cap')) (hn : n' = s'.e.turns + 4)
    (hu : Row64 w' vu' s'.l) (hnew : ∀ k, vu'.ownBlock = some k → w.heap.size ≤ k) :
    ∃ O', LockT w0 a M s s' vt vu' ((w'.setCell ⟨M, 0, none⟩ (.slice (some ⟨g', 0, none⟩) n' cap')).setCell ⟨M, 1, none⟩ (.int .u64 (s'.e.size : Int))) O' := by
  -- first the two stores with the block's own colour, then the new row gets its own
  subst hn
  obtain ⟨h1, h2⟩ := hR
  -- the paint: new blocks belong to 2, but for the row's block, which is 4's
  let O2 : Paint := fun k => if k < w.heap.size then O k else if vu'.ownBlock = some k then 4 else 2
  have old : ∀ k, k < w.heap.size → O2 k = O k := fun k hk => by show (if k < w.heap.size then O k else _) = O k; rw [if_pos hk]
  have s0 : Step [] w O w' O2 := ⟨(Step.of_below_same hb O).frame, old⟩
  have b2 := h1.step s0 (by simp)
  have hneU : ∀ k, vu'.ownBlock = some k → k ≠ g' := by
    intro k hk e
    subst e
    rcases hu.2 with ⟨e1, _⟩ | ⟨gu, cu, cur, e1, _, hgu, _⟩
    · rw [e1] at hk; simp [Value.ownBlock] at hk
    · rw [e1] at hk
      simp [Value.ownBlock] at hk
      subst hk
      exact row_ne hr hgu (by decide) rfl
  have r2 : Held w' O2 2 5 (.slice (some ⟨g', 0, none⟩) (s'.e.turns + 4) cap') ((be (s'.e.turns + 4) s'.e.low).map byte) := by
    refine ⟨hr.toOwn, fun k hk => ?_⟩
    simp [Value.ownBlock] at hk
    subst hk
    rcases of_moved hm with e1 | e1
    · rw [e1, old g (h2.lt rfl)]; exact h2.paint g rfl
    · show (if g' < w.heap.size then O g' else if vu'.ownBlock = some g' then 4 else 2) = 2
      rw [if_neg (by omega), if_neg (fun hk => hneU g' hk rfl)]
  have u2 : Held w' O2 4 33 vu' (s'.l.map num) := by
    refine ⟨by rw [List.length_map]; exact hu, fun k hk => ?_⟩
    show (if k < w.heap.size then O k else if vu'.ownBlock = some k then 4 else 2) = 4
    rw [if_neg (by have := hnew k hk; omega), if_pos hk]
  have hn2 : (Value.slice (some ⟨g', 0, none⟩) (s'.e.turns + 4) cap').ownBlock ≠ some M := by simp [Value.ownBlock]; exact r2.ne b2.1 (by decide)
  have hMu : vu'.ownBlock ≠ some M := fun e => by have := hnew M e; have := h1.lt; omega
  have hc : O2 M ∈ [2] := by simp [b2.2]
  have s1 : Step [2] w' O2 ((w'.setCell ⟨M, 0, none⟩ (.slice (some ⟨g', 0, none⟩) (s'.e.turns + 4) cap')).setCell ⟨M, 1, none⟩ (.int .u64 (s'.e.size : Int))) O2 :=
    ((Step.refl [2] w' O2).setCell (p := ⟨M, 0, none⟩) (.inl hc) _).setCell (p := ⟨M, 1, none⟩) (.inl hc) _
  refine ⟨O2, (h.run.step s0 (by simp)).step s1 (by simp), (h.enc.step s0 (by simp)).step s1 (by simp), ⟨g', cap', ?_, ?_⟩, (h.tree.step s0 (by simp)).step s1 (by simp), (u2.setCell_other (p := ⟨M, 0, none⟩) hMu _).setCell_other (p := ⟨M, 1, none⟩) hMu _⟩
  · simpa using (b2.setCell 0 (.slice (some ⟨g', 0, none⟩) (s'.e.turns + 4) cap')).setCell 1 (.int .u64 (s'.e.size : Int))
  · exact (r2.setCell_other (p := ⟨M, 0, none⟩) hn2 _).setCell_other (p := ⟨M, 1, none⟩) hn2 _
/-- A list of numbers of 16 bits that came in. -/
def IsNums (w : World) (a : Option Addr) (len : Nat) : Prop :=
  len ≤ maxLen ∧ (len = 0 ∨ ∃ b off, a = some ⟨b, off, none⟩ ∧ b < w.heap.size ∧ ∀ i, i < len → ∃ x : Nat, w.cell? ⟨b, off + i, none⟩ = some (.int .u16 (x : Int)) ∧ x < 65536)
/-- Both encoders at an end: the reference's with its slice. -/
def EndedT (w0 : World) (a M g cap : Nat) (s : Tr) (vt vu : Value) (w : World) (O : Paint) : Prop := LockT w0 a M s s vt vu w O ∧ RefAt w O 2 M g cap s.e
theorem EndedT.below {w0 w w' : World} {a M g cap : Nat} {s : Tr} {vt vu : Value} {O : Paint} (h : EndedT w0 a M g cap s vt vu w O) (hb : Below w.heap.size w w') : EndedT w0 a M g cap s vt vu w' O :=
  ⟨h.1.below hb, h.2.1.step (Step.of_below_same hb O) (by simp), h.2.2.step (Step.of_below_same hb O) (by simp)⟩
theorem EndedT.drew {w0 w : World} {a M g cap : Nat} {s : Tr} {vt vu : Value} {O : Paint} (h : EndedT w0 a M g cap s vt vu w O) : EndedT w0 a M g cap s vt vu w.drew O :=
  ⟨h.1.idle (Step.refl [] w O).drew, h.2.1.step (Step.refl [] w O).drew (by simp), h.2.2.step (Step.refl [] w O).drew (by simp)⟩
theorem EndedT.dev {w0 w : World} {a M g cap : Nat} {s : Tr} {vt vu : Value} {O : Paint} (h : EndedT w0 a M g cap s vt vu w O) (ht : s.e.turns ≤ 1000000) :
    Calls Try.prog 18 #[.pointer (some ⟨a, 0, none⟩)] w fun x w' => x = .returned (.string ⟨s.e.bytes.toArray⟩) ∧ EndedT w0 a M g cap s vt vu w' O :=
  (enc_end h.1.enc ht).mono fun _ _ ⟨h1, h2⟩ => ⟨h1, h.below h2⟩
theorem EndedT.refs {w0 w : World} {a M g cap : Nat} {s : Tr} {vt vu : Value} {O : Paint} (h : EndedT w0 a M g cap s vt vu w O) (ht : s.e.turns ≤ 1000000) :
    Calls Try.prog 19 #[.agg #[.slice (some ⟨g, 0, none⟩) (s.e.turns + 4) cap, .int .u64 (s.e.size : Int)]] w fun x w' => x = .returned (.string ⟨s.e.bytes.toArray⟩) ∧ EndedT w0 a M g cap s vt vu w' O :=
  (end_any h.2.2.toRow ht s.e.size).mono fun _ _ ⟨h1, h2⟩ => ⟨h1, h.below h2⟩
end Go.Proofs.Ytjfoolhgjnnhgaa.Rc
