/-
  Rows of bytes: what a slice of bytes owns, in memory.
-/
import Derived.Test.YtakbocaemlgbaaaProg
import Derived.Test.YtakbocaemlgbaaaSep
import Derived.Test.YtakbocaemlgbaaaRcMath
import Derived.WalkSpells
import Derived.WalkLawsBesides
import Derived.ProofKit
import Derived.Outline
import Derived.Laws.IdiomStrings
import Derived.Deep.QuietTactic
import Derived.BigQuiet
import Derived.RegionTactic
import Derived.Lib.Hide
import Derived.IntWalk
import Derived.Deep.LoopGhost
import Derived.Deep.DeepCutAuto
namespace Go.Proofs.Ytakbocaemlgbaaa.Rc
open Go.RowKit

def byte (x : UInt8) : Value := .int .u8 (x.toNat : Int)
theorem info8 : (Try.prog.info? 5).map (fun i => (i.zero, i.size, i.bytes)) = some (some (.int .u8 0), 1, 1) := by kernel_rfl
/-- A slice that owns just these bytes. -/
def Row (w : World) (v : Value) (l : List UInt8) : Prop := w.ownsRow 0 5 1 v l.length (l.map byte)
theorem Row.form {w : World} {v : Value} {l : List UInt8} (h : Row w v l) (hn : 0 < l.length) : ∃ g cap, v = .slice (some ⟨g, 0, none⟩) l.length cap := own_form h hn
theorem Row.cell {w : World} {g cap : Nat} {l : List UInt8} (h : Row w (.slice (some ⟨g, 0, none⟩) l.length cap) l) (j : Nat) (hj : j < l.length) : w.cell? ⟨g, j, none⟩ = some (byte l[j]) := by
  rw [World.ownsRow.cellAt h j (by omega)]
  simp [hj]
theorem Row.news {w : World} {g cap : Nat} {l : List UInt8} (h : Row w (.slice (some ⟨g, 0, none⟩) l.length cap) l) : ∀ j u, (l.map byte)[j]? = some u → w.cell? ((⟨g, 0, none⟩ : Addr).add j) = some u := World.ownsRow.cells h rfl
theorem Row.lt {w : World} {g cap n : Nat} {l : List UInt8} (h : Row w (.slice (some ⟨g, 0, none⟩) n cap) l) : g < w.heap.size := ownsRow_lt h g rfl
theorem Row.below {w w' : World} {v : Value} {l : List UInt8} {B : Nat} (h : Row w v l) (hb : Below B w w') (hv : ∀ k, v.ownBlock = some k → k < B) : Row w' v l :=
  ownsRow_frame h (Frame.of_below hb) (fun k hk => by have := hv k hk; omega)
theorem Row.frame {own : Nat → Prop} {w w' : World} {v : Value} {l : List UInt8} (h : Row w v l) (hf : Frame own w w') (hn : ∀ k, v.ownBlock = some k → ¬ own k) : Row w' v l := ownsRow_frame h hf hn
theorem row_empty (w : World) : Row (w.alloc (.cells #[] 5)) (.slice (some ⟨w.heap.size, 0, none⟩) 0 0) [] :=
  ⟨rfl, .inr ⟨w.heap.size, 0, #[], rfl, Nat.zero_le _, heap_alloc_new w _, Nat.le_refl _, by unfold maxLen; omega, rfl, rfl⟩⟩
theorem ones (l : List UInt8) : ∀ u ∈ l.map byte, u.oneCell' = true := by
  intro u hu
  obtain ⟨x, _, rfl⟩ := List.mem_map.1 hu
  rfl
theorem Row.set {w : World} {g k cap : Nat} {l : List UInt8} (h : Row w (.slice (some ⟨g, 0, none⟩) k cap) l) (hl : l.length = k) (p : Nat) (y : UInt8) {n : Int} (hn : n = (y.toNat : Int)) :
    Row (w.setCell ⟨g, p, none⟩ (.int .u8 n)) (.slice (some ⟨g, 0, none⟩) k cap) (l.set p y) := by
  subst hn
  unfold Row at h ⊢
  rw [hl] at h
  rw [List.length_set, hl]
  have := (World.ownsRow.stored h p (byte y)).1
  rw [List.map_set]
  exact this
/-- A new row, in a block that was not there. -/
def Fresh (w : World) (l : List UInt8) (e : Ending) (w' : World) : Prop := ∃ g cap, e = .returned (.slice (some ⟨g, 0, none⟩) l.length cap) ∧ Row w' (.slice (some ⟨g, 0, none⟩) l.length cap) l ∧ Below w.heap.size w w' ∧ w.heap.size ≤ g
theorem fresh_of {w w2 : World} {g k cap : Nat} {l : List UInt8} (hl : (l.map byte).length = k * 1) (ho : w2.ownsRow 0 5 1 (.slice (some ⟨g, 0, none⟩) (0 + k) cap) (0 + k) ([] ++ l.map byte))
    (hg : (w.alloc (.cells #[] 5)).grownBy w2 (Value.slice (some ⟨w.heap.size, 0, none⟩) 0 0).ownBlock) (hm : Moved (w.alloc (.cells #[] 5)) (.slice (some ⟨w.heap.size, 0, none⟩) 0 0) (.slice (some ⟨g, 0, none⟩) (0 + k) cap)) :
    Row w2 (.slice (some ⟨g, 0, none⟩) k cap) l ∧ Below w.heap.size w w2 ∧ w.heap.size ≤ g := by
  have hlk : l.length = k := by simpa using hl
  refine ⟨?_, ?_, ?_⟩
  · unfold Row; rw [hlk]; simpa using ho
  · exact ((Below.refl _ _).alloc (Nat.le_refl _) _).grown hg (by simp) (fun j hj => by simp [Value.ownBlock] at hj; omega)
  · rcases hm with e | e
    · simp [Value.ownBlock] at e; omega
    · have := e g rfl
      rw [World.size_alloc] at this; omega
theorem own_row {w : World} {g k cap : Nat} {l : List UInt8} (hl : (l.map byte).length = k * 1) (h : Row w (.slice (some ⟨g, 0, none⟩) k cap) l) : w.ownsRow 0 5 1 (.slice (some ⟨g, 0, none⟩) k cap) k (l.map byte) := by
  have hlk : l.length = k := by simpa using hl
  unfold Row at h; rw [hlk] at h; exact h
/-- A cell of a block that lay below: behind two appends on rows that are newer. -/
theorem old_cell {w1 w2 w3 : World} {b g2 k cap2 : Nat} {cs : Array Value} {t : TypeId} {o : Obj} (hc : w1.heap[b]? = some (.cells cs t (0, 0))) (hb : b + 1 < w1.heap.size) (hbl : Below w1.heap.size w1 w2) (hg : w1.heap.size ≤ g2) (hgr : (w2.alloc o).grownBy w3 (Value.slice (some ⟨g2, 0, none⟩) k cap2).ownBlock) :
    w3.cell? ⟨b, 0, none⟩ = cs[0]? ∧ w3.frozen? ⟨b, 0, none⟩ = false ∧ b + 1 < w3.heap.size := by
  have h2 := hbl.size
  have h3 := hgr.size
  rw [World.size_alloc] at h3
  have e : w3.heap[b]? = some (.cells cs t (0, 0)) := by
    rw [hgr.block b (by rw [World.size_alloc]; omega) (by simp [Value.ownBlock]; omega), Below.heap_alloc w2 o b (by omega), hbl.block b (by omega)]
    exact hc
  exact ⟨by simp [World.cell?, e], by simp [World.frozen?, e], by omega⟩
end Go.Proofs.Ytakbocaemlgbaaa.Rc
