/-
  Package packet: the contract of Fits.
-/
import Derived.Test.YthejbnodalnnpaaPackPlain
import Derived.Deep.RegionWith
import Derived.Deep.RegionHeld3
namespace Go.Proofs.Ythejbnodalnnpaa.Pk
open Go.RowKit
/-- What a packet tells behind so many bytes: from how far back, how many bytes, the last distances behind it. -/
def Pt.fit (p : Pt) (hv : Int) (r : Rp) : Option (Int × Int × Rp) :=
  if p.plain = false then none
  else if p.k = 1 then some (0, 1, r)
  else if p.k = 2 then (if 1 ≤ p.d ∧ p.d ≤ min hv 1048576 ∧ lenB p.n = true then some (p.d, p.n, r.push p.d) else none)
  else if p.k = 3 then (if (0 ≤ p.d ∧ p.d < 4) ∧ r.at p.d ≤ hv ∧ lenB p.n = true then some (r.at p.d, p.n, r.front p.d) else none)
  else if r.a ≤ hv then some (r.a, 1, r) else none
def fitVal (r : Rp) : Option (Int × Int × Rp) → Value
  | none => .tuple #[.int .i64 0, .int .i64 0, r.val, .bool false]
  | some (d, n, s) => .tuple #[.int .i64 d, .int .i64 n, s.val, .bool true]
/-- The packet, the distances and the result's place in memory. -/
structure Mem (w w1 : World) (X : Nat) (p : Pt) (r : Rp) : Prop where
  below : Below w.heap.size w w1
  eqX : w.heap.size = X
  hp : w1.heap[X]? = some (.cells #[.int .i64 p.k, .int .i64 p.d, .int .i64 p.n, .int .u8 (p.b : Int)] 74 (0, 0))
  hr : w1.heap[X + 1]? = some (.cells #[.int .i64 r.a, .int .i64 r.b, .int .i64 r.c, .int .i64 r.d] 78 (0, 0))
  hz : w1.heap[X + 1 + 1]? = some (.cells #[.int .i64 0, .int .i64 0, .int .i64 0, .int .i64 0] 78 (0, 0))
theorem Mem.next {w w1 w2 : World} {X : Nat} {p : Pt} {r : Rp} (h : Mem w w1 X p r) (hb : Below w1.heap.size w1 w2) : Mem w w2 X p r :=
  ⟨h.below.trans (hb.mono h.below.size), h.eqX, (hb.block _ (lt_of_heap h.hp)).trans h.hp, (hb.block _ (lt_of_heap h.hr)).trans h.hr, (hb.block _ (lt_of_heap h.hz)).trans h.hz⟩
theorem Mem.drew {w w1 : World} {X : Nat} {p : Pt} {r : Rp} (h : Mem w w1 X p r) : Mem w w1.drew X p r := h.next ⟨rfl, rfl, rfl, Nat.le_refl _, fun _ _ => rfl⟩
theorem Mem.done {w w1 : World} {X : Nat} {p : Pt} {r : Rp} (h : Mem w w1 X p r) (s : Rp) : Below w.heap.size w ((((w1.setCell ⟨X + 1 + 1, 0, none⟩ (.int .i64 s.a)).setCell ⟨X + 1 + 1, 1, none⟩ (.int .i64 s.b)).setCell ⟨X + 1 + 1, 2, none⟩ (.int .i64 s.c)).setCell ⟨X + 1 + 1, 3, none⟩ (.int .i64 s.d)) :=
  below_four h.below (by have := h.eqX; omega) _ _ _ _
theorem push_raw (r0 r1 r2 r3 d : Int) (w : World) : Calls Try.prog 42 #[.agg #[.int .i64 r0, .int .i64 r1, .int .i64 r2, .int .i64 r3], .int .i64 d] w fun x w' => x = .returned (.agg #[.int .i64 d, .int .i64 r0, .int .i64 r1, .int .i64 r2]) ∧ Below w.heap.size w w' := push_any ⟨r0, r1, r2, r3⟩ d w
theorem set_keep {W : World} {X k : Nat} {a b c d : Value} (hk : k ≠ X) (j : Nat) : ((((W.setCell ⟨X, 0, none⟩ a).setCell ⟨X, 1, none⟩ b).setCell ⟨X, 2, none⟩ c).setCell ⟨X, 3, none⟩ d).cell? ⟨k, j, none⟩ = W.cell? ⟨k, j, none⟩ := by
  apply World.cell?_of_block
  show (World.setCell _ _ _).heap[k]? = _
  rw [Below.heap_setCell _ _ _ _ hk, Below.heap_setCell _ _ _ _ hk, Below.heap_setCell _ _ _ _ hk, Below.heap_setCell _ _ _ _ hk]
end Go.Proofs.Ythejbnodalnnpaa.Pk
