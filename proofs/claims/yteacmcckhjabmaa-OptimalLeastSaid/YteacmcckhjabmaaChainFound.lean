/-
  Package chain: the contracts of longer and Next.
  Package chain: the contract of Next.
  Plain mathematics of layer 7: what is found rises.
-/
import Derived.Test.YteacmcckhjabmaaChainBase
import Derived.Deep.AppendLies
section
namespace Go.Proofs.Yteacmcckhjabmaa.Ch
open Go.RowKit Go.Maps
open Mt
/-- The cells of what was found. -/
def flatF (l : List (Nat × Nat)) : List Value := l.flatMap fun x => [.int .i64 (x.1 : Int), .int .i64 (x.2 : Int)]
theorem flatF_length : ∀ l, (flatF l).length = l.length * 2
  | [] => rfl
  | x :: l => by have := flatF_length l; simp only [flatF, List.flatMap_cons, List.length_append, List.length_cons, List.length_nil] at this ⊢; omega
theorem flatF_append (l k : List (Nat × Nat)) : flatF (l ++ k) = flatF l ++ flatF k := by simp [flatF]
theorem flatF_at : ∀ (l : List (Nat × Nat)) (i : Nat) (h : i < l.length), (flatF l)[i * 2]? = some (.int .i64 (l[i].1 : Int)) ∧ (flatF l)[i * 2 + 1]? = some (.int .i64 (l[i].2 : Int))
  | [], i, h => by simp at h
  | x :: l, 0, _ => ⟨rfl, rfl⟩
  | x :: l, i + 1, h => by
    have := flatF_at l i (by simpa using h)
    rw [show (i + 1) * 2 = i * 2 + 1 + 1 from by omega]
    exact this
/-- A slice that owns just what was found; its block, where it has one, is new since w. -/
structure Founds (t : TypeId) (w0 w : World) (v : Value) (l : List (Nat × Nat)) : Prop where
  row : w.ownsRow 0 t 2 v l.length (flatF l)
  new : ∀ k, v.ownBlock = some k → w0.heap.size ≤ k
theorem Founds.nil (t : TypeId) (w0 w : World) : Founds t w0 w (.slice none 0 0) [] := ⟨World.ownsRow_nil _ _ _ _, by simp [Value.ownBlock]⟩
theorem Founds.below {t : TypeId} {w0 w w' : World} {v : Value} {l : List (Nat × Nat)} (h : Founds t w0 w v l) (hb : Below w.heap.size w w') : Founds t w0 w' v l := by
  refine ⟨ownsRow_frame h.row (Frame.of_below_size hb) (fun _ _ h => h), h.new⟩
theorem Founds.form {t : TypeId} {w0 w : World} {v : Value} {l : List (Nat × Nat)} (h : Founds t w0 w v l) : (v = .slice none 0 0 ∧ l = []) ∨ ∃ g cap, v = .slice (some ⟨g, 0, none⟩) l.length cap ∧ w0.heap.size ≤ g ∧ g < w.heap.size := by
  rcases h.row.2 with ⟨h1, h2⟩ | ⟨g, cap, cur, rfl, _, hg, _⟩
  · exact .inl ⟨h1, List.eq_nil_of_length_eq_zero h2⟩
  · exact .inr ⟨g, cap, rfl, h.new g rfl, lt_of_heap hg⟩
theorem Founds.slice {t : TypeId} {w0 w : World} {v : Value} {l : List (Nat × Nat)} (h : Founds t w0 w v l) : ∃ A cap, v = .slice A l.length cap := by
  rcases h.form with ⟨rfl, rfl⟩ | ⟨g, cap, rfl, _⟩
  · exact ⟨none, 0, rfl⟩
  · exact ⟨_, cap, rfl⟩
theorem Founds.cell {t : TypeId} {w0 w : World} {g n cap : Nat} {l : List (Nat × Nat)} (h : Founds t w0 w (.slice (some ⟨g, 0, none⟩) n cap) l) (i : Nat) (hi : i < l.length) : w.cell? ⟨g, i * 2, none⟩ = some (.int .i64 (l[i].1 : Int)) ∧ w.cell? ⟨g, i * 2 + 1, none⟩ = some (.int .i64 (l[i].2 : Int)) := by
  have hn : n = l.length := by
    rcases h.row.2 with ⟨e1, _⟩ | ⟨g', cap', cur, e1, _⟩
    · simp at e1
    · simp only [Value.slice.injEq] at e1; exact e1.2.1
  subst hn
  obtain ⟨a1, a2⟩ := flatF_at l i hi
  rw [World.ownsRow.cellAt h.row (i * 2) (by omega), World.ownsRow.cellAt h.row (i * 2 + 1) (by omega)]
  exact ⟨a1, a2⟩
theorem infoF : (Try.prog.info? 146).map (fun i => (i.zero, i.size, i.bytes)) = some (some (.agg #[.int .i64 0, .int .i64 0]), 2, 16) := by kernel_rfl
theorem fd_new (w : World) (a b : Value) (t : TypeId) : ∀ j u, [a, b][j]? = some u → (w.alloc (.cells #[a, b] t)).cell? ((⟨w.heap.size, 0, none⟩ : Addr).add j) = some u := World.news_of_block (heap_alloc_new _ _)
theorem fd_one (a b : Int) : ∀ u ∈ [Value.int .i64 a, .int .i64 b], u.oneCell' = true := by
  intro u hu
  simp at hu
  rcases hu with rfl | rfl <;> rfl
theorem Founds.app {t : TypeId} {w0 w w' : World} {v v' : Value} {l : List (Nat × Nat)} {o : Obj} {n d : Nat} (h : Founds t w0 w v l) (hb : Below w0.heap.size w0 w)
    (hown : w'.ownsRow 0 t 2 v' (l.length + 1) (flatF l ++ [.int .i64 (n : Int), .int .i64 (d : Int)])) (hg : (w.alloc o).grownBy w' v.ownBlock) (hm : Moved (w.alloc o) v v') : Founds t w0 w' v' (l ++ [(n, d)]) ∧ Below w0.heap.size w0 w' := by
  refine ⟨⟨?_, fun k hk => ?_⟩, hb.trans ((((Frame.refl (fun k => v.ownBlock = some k) w).alloc o).grown hg (fun k hk => .inl hk)).below hb.size (fun k hk ho => by have := h.new k ho; omega))⟩
  · rw [List.length_append, flatF_append]
    exact hown
  · rcases hm with e | e
    · rw [e] at hk; exact h.new k hk
    · have h1 := e k hk
      rw [World.size_alloc] at h1
      have := hb.size
      omega
theorem devL_go {b : Nat → Nat} {p most left longest q : Nat} {window : Int} (h2 : ¬ window < (p : Int) - (q : Int)) (h3 : longest ≠ most) : devL b p most window (left + 1) (q : Int) longest =
    if longest < mat b p q 0 most then (mat b p q 0 most, p - q) :: devL b p most window left (prevF b q q) (mat b p q 0 most) else devL b p most window left (prevF b q q) longest := by
  rw [devL, if_neg (by rintro (h | h | h); omega; exact h2 h; exact h3 h), Int.toNat_natCast]
/-- Within the loop of longer. -/
structure LongAt (w0 : World) (b : Nat → Nat) (p most : Nat) (window : Int) (full : List (Nat × Nat)) (left : Nat) (q : Int) (longest : Nat) (v : Value) (w : World) (l : List (Nat × Nat)) : Prop where
  founds : Founds 146 w0 w v l
  below : Below w0.heap.size w0 w
  eq : l ++ devL b p most window left q longest = full
  len : l.length ≤ longest
  le : longest ≤ most
theorem LongAt.news {w0 w w' : World} {b : Nat → Nat} {p most left longest : Nat} {window q : Int} {full l : List (Nat × Nat)} {v : Value} (h : LongAt w0 b p most window full left q longest v w l) (hb : Below w.heap.size w w') : LongAt w0 b p most window full left q longest v w' l :=
  ⟨h.founds.below hb, h.below.trans (hb.mono h.below.size), h.eq, h.len, h.le⟩
/-- What longer hands back. -/
def FoundTo (w : World) (l : List (Nat × Nat)) (x : Ending) (w' : World) : Prop := ∃ v, x = .returned v ∧ Founds 146 w w' v l ∧ Below w.heap.size w w'
section
variable {w w' : World} {O O' : Paint} {c a : Nat} {s : ByteArray} {window cut : Int} {p r B : Nat} {v : Value} {xs : List Int} {D : Dm}
end
end Go.Proofs.Yteacmcckhjabmaa.Ch
end
section
namespace Go.Proofs.Yteacmcckhjabmaa.Ch
open Go.RowKit Go.Maps
open Mt
/-- What is found at p. -/
def foundL (s : ByteArray) (window cut : Int) (p : Nat) : List (Nat × Nat) := refL (bt s) p (min (s.size - p) 273) (decide (p + 3 ≤ s.size)) window cut p 0 0
theorem foundL_more {s : ByteArray} {window cut : Int} {p : Nat} (h : p + 3 ≤ s.size) : devL (bt s) p (min (s.size - p) 273) window cut.toNat (prevF (bt s) p p) 0 = foundL s window cut p := by
  unfold foundL
  rw [decide_eq_true h, ← dev_ref (bt s) p _ window cut p 0 0 (Nat.le_refl _) (Nat.zero_le _)]
  simp
theorem foundL_none {s : ByteArray} {window cut : Int} {p : Nat} (h : ¬ p + 3 ≤ s.size) : foundL s window cut p = [] := by
  unfold foundL
  rw [decide_eq_false h]
  exact refL_no _ _ _ _ _ _ _ _
section
variable {w w' : World} {O O' : Paint} {c a : Nat} {s : ByteArray} {window cut : Int} {p r B : Nat} {v : Value} {xs : List Int} {D : Dm}
end
end Go.Proofs.Yteacmcckhjabmaa.Ch
end
section
namespace Go.Proofs.Yteacmcckhjabmaa.Ch
open Mt
theorem foundL_rising (s : ByteArray) (window cut : Int) (p : Nat) : Rising (bt s) p (min (s.size - p) 273) window 2 0 (foundL s window cut p) := by
  by_cases h : p + 3 ≤ s.size
  · unfold foundL
    rw [decide_eq_true h]
    have := refL_rising (bt s) p (min (s.size - p) 273) true window cut (by omega) p 0 0 (Nat.le_refl _)
    rw [Nat.sub_self] at this
    exact this
  · rw [foundL_none h]
    trivial
theorem foundL_cut (s : ByteArray) (window cut : Int) (p : Nat) : (foundL s window cut p).length ≤ cut.toNat := by
  unfold foundL
  have := refL_cut (bt s) p (min (s.size - p) 273) (decide (p + 3 ≤ s.size)) window cut p 0 0
  simpa using this
theorem Rising.at : ∀ {b : Nat → Nat} {p most : Nat} {window : Int} {n0 d0 : Nat} {l : List (Nat × Nat)}, Rising b p most window n0 d0 l → ∀ i (h : i < l.length),
    n0 < l[i].1 ∧ l[i].1 ≤ most ∧ d0 < l[i].2 ∧ l[i].2 ≤ p ∧ (l[i].2 : Int) ≤ window ∧ (∀ j, j < l[i].1 → b (p + j) = b (p + j - l[i].2)) ∧ ∀ (h0 : 0 < i), l[i - 1].1 < l[i].1 ∧ l[i - 1].2 < l[i].2
  | _, _, _, _, _, _, [], _, i, h => by simp at h
  | _, _, _, _, _, _, x :: l, ⟨h1, h2, h3, h4, h5, h6, _⟩, 0, _ => ⟨h1, h2, h3, h4, h5, h6, fun h0 => by omega⟩
  | _, _, _, _, _, _, x :: l, ⟨h1, h2, h3, h4, h5, h6, h7⟩, i + 1, h => by
    have hi : i < l.length := by simpa using h
    obtain ⟨g1, g2, g3, g4, g5, g6, g7⟩ := Rising.at h7 i hi
    refine ⟨?_, g2, ?_, g4, g5, g6, fun _ => ?_⟩
    · show _ < l[i].1; omega
    · show _ < l[i].2; omega
    · cases i with
      | zero => exact ⟨g1, g3⟩
      | succ i => exact g7 (by omega)
end Go.Proofs.Yteacmcckhjabmaa.Ch
end
