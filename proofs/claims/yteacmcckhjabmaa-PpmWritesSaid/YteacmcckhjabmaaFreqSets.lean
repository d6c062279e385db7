/-
  Layer 5's statements: sets of signs, the program's beside the document's: contract of the law's sets.
-/
import Derived.Test.YteacmcckhjabmaaFreqSet
import Derived.Test.YteacmcckhjabmaaFreqRef
import Derived.Deep.MidRow
import Derived.Deep.WholeRow
namespace Go.Proofs.Yteacmcckhjabmaa.Fq
open Go.RowKit
theorem all_list {l : List Value} (h : ∀ v ∈ l, v.oneCell' = true) : l.toArray.all (·.oneCell') = true := all_oneCell_toArray h
/-- The document's set, as an array. -/
def setA (N : Nat → Bool) : Array Value := ((List.range 256).map fun i => Value.bool (N i)).toArray
theorem setA_size (N : Nat → Bool) : (setA N).size = 256 := by simp [setA]
theorem setA_at (N : Nat → Bool) (s : Nat) (hs : s < 256) : (setA N)[s]? = some (.bool (N s)) := by simp [setA, hs]
theorem setA_of {arr : Array Value} {N : Nat → Bool} (h1 : arr.size = 256) (h2 : ∀ s, s < 256 → arr[s]? = some (.bool (N s))) : arr = setA N := by
  apply Array.ext_getElem?
  intro i
  by_cases h : i < 256
  · rw [h2 i h, setA_at N i h]
  · rw [Array.getElem?_eq_none (by omega), Array.getElem?_eq_none (by rw [setA_size]; omega)]
theorem setA_add (N : Nat → Bool) (s : Nat) (hs : s < 256) : (setA N).setIfInBounds s (.bool true) = setA (addN N s) := by
  refine setA_of (by simp [setA_size]) (fun k hk => ?_)
  by_cases e : k = s
  · subst e
    rw [Array.getElem?_setIfInBounds_self_of_lt (by rw [setA_size]; omega)]
    simp [addN]
  · rw [Array.getElem?_setIfInBounds_ne (fun h => e h.symm), setA_at N k hk]
    simp [addN, e]
theorem setA_one (N : Nat → Bool) : ∀ v ∈ (setA N).toList, v.oneCell' = true := by
  intro v hv
  simp only [setA, List.mem_map] at hv
  obtain ⟨i, _, rfl⟩ := hv
  rfl
def noN : Nat → Bool := fun _ => false
theorem cnt_no : ∀ k, cnt noN k = 0
  | 0 => rfl
  | k + 1 => by have := cnt_no k; simp [cnt, noN] at this ⊢; exact this
theorem rep_at (n s : Nat) (h : s < n) (v : Value) : (List.replicate n v).toArray[s]? = some v := by simp [h]
theorem rep_size (n : Nat) (v : Value) : (List.replicate n v).toArray.size = n := by simp
theorem rep_at2 (n s : Nat) (h : s < n) (v u : Value) : (List.replicate n v ++ [u]).toArray[s]? = some v := by simp [List.getElem?_append, h]
theorem rep_end (n : Nat) (v u : Value) : (List.replicate n v ++ [u]).toArray[n]? = some u := by simp
theorem rep_size2 (n : Nat) (v u : Value) : (List.replicate n v ++ [u]).toArray.size = n + 1 := by simp
theorem zeros256 : Try.zeroCells78 = (List.replicate 256 (Value.bool false)).toArray := by kernel_rfl
theorem zeros257 : Try.zeroCells124 = (List.replicate 256 (Value.bool false) ++ [Value.int .i64 0]).toArray := by kernel_rfl
theorem zeroA : Try.zeroCells78 = setA noN := by
  rw [zeros256]
  exact setA_of (rep_size 256 _) (fun s hs => rep_at 256 s hs _)
theorem zeroS : SetCells Try.zeroCells124 noN := by
  rw [zeros257]
  exact ⟨rep_size2 256 _ _, fun s hs => rep_at2 256 s hs _ _, by rw [cnt_no]; exact rep_end 256 _ _⟩
theorem sizeA : (Try.prog.info? 78).map (·.size) = some 256 := by kernel_rfl
/-- The set of a text's signs. -/
def inN (l : List UInt8) : Nat → Bool := l.foldl (fun N s => addN N s.toNat) noN
theorem inN_snoc (l : List UInt8) (x : UInt8) : inN (l ++ [x]) = addN (inN l) x.toNat := by simp [inN]
section
variable {b : Nat}
theorem setCells_other {k : Nat} (hk : k ≠ b) : ∀ (vs : List Value) (o : Nat) (w : World), (w.setCells b o vs).heap[k]? = w.heap[k]?
  | [], _, _ => rfl
  | v :: vs, o, w => by
    show ((w.setCell ⟨b, o, none⟩ v).setCells b (o + 1) vs).heap[k]? = _
    rw [setCells_other hk vs, Below.heap_setCell _ _ _ _ hk]
theorem setCells_blk {t : TypeId} : ∀ (vs : List Value) (o : Nat) (w : World) (arr : Array Value), w.heap[b]? = some (.cells arr t (0, 0)) → ∃ arr', (w.setCells b o vs).heap[b]? = some (.cells arr' t (0, 0)) ∧ arr'.size = arr.size
  | [], _, _, arr, h => ⟨arr, h, rfl⟩
  | v :: vs, o, w, arr, h => by
    obtain ⟨arr', h1, h2⟩ := setCells_blk vs (o + 1) (w.setCell ⟨b, o, none⟩ v) _ (heap_setCell_same w b o _ _ v h)
    exact ⟨arr', h1, by rw [h2]; simp⟩
theorem setCells_all {w : World} {t : TypeId} {arr : Array Value} (vs : Array Value) (h : w.heap[b]? = some (.cells arr t (0, 0))) (hs : arr.size = vs.size) : (w.setCells b 0 vs.toList).heap[b]? = some (.cells vs t (0, 0)) := by
  obtain ⟨arr', h1, h2⟩ := setCells_blk vs.toList 0 w arr h
  have e : arr' = vs := by
    apply Array.ext_getElem?
    intro j
    by_cases hj : j < vs.size
    · have h3 := World.cell?_setCells_in b vs.toList 0 w (fun j hj => by
        have hj' : j < arr.size := by rw [hs]; simpa using hj
        simp [World.cell?, h, hj']) j (by simpa using hj)
      rw [Nat.zero_add] at h3
      simp only [World.cell?, h1] at h3
      simpa [hj] using h3
    · rw [Array.getElem?_eq_none (by omega), Array.getElem?_eq_none (by omega)]
  rw [h1, e]
theorem setCells_step {cs : List Nat} {w0 : World} {O O' : Paint} (hp : O b ∈ cs ∨ w0.heap.size ≤ b) : ∀ (vs : List Value) (o : Nat) (w : World), Step cs w0 O w O' → Step cs w0 O (w.setCells b o vs) O'
  | [], _, _, h => h
  | v :: vs, o, _, h => setCells_step hp vs (o + 1) _ (h.setCell (p := ⟨b, o, none⟩) hp v)
theorem setCells_size : ∀ (vs : List Value) (o : Nat) (w : World), (w.setCells b o vs).heap.size = w.heap.size
  | [], _, _ => rfl
  | v :: vs, o, w => by
    show ((w.setCell ⟨b, o, none⟩ v).setCells b (o + 1) vs).heap.size = _
    rw [setCells_size vs]; simp
end
/-- One new block is c's, all other new ones are d's. -/
def paint2 (O : Paint) (w : World) (c d B : Nat) : Paint := fun k => if k < w.heap.size then O k else if k = B then c else d
/-- The law's sets under way. -/
structure Settings (w0 : World) (O : Paint) (c R B M : Nat) (N : Nat → Bool) (w : World) : Prop where
  step : Step [] w0 O w (paint2 O w0 c (c + 1) B)
  set : SetAt w (paint2 O w0 c (c + 1) B) c B N
  map : w.heap[M]? = some (.cells (setA N) 78 (0, 0))
  res : w.heap[R]? = some (.cells (setA noN) 78 (0, 0))
  hR : w0.heap.size ≤ R
  hM : w0.heap.size ≤ M
  hB : w0.heap.size ≤ B
  ne1 : R ≠ B
  ne2 : M ≠ B
  ne3 : R ≠ M
theorem Settings.add {w0 : World} {O : Paint} {c R B M : Nat} {N : Nat → Bool} {w w1 : World} (h : Settings w0 O c R B M N w) (hO : ∀ k, k < w0.heap.size → O k ≠ c) {s : Nat} (hs : s < 256)
    (h1 : Step [c] w (paint2 O w0 c (c + 1) B) w1 (paint2 O w0 c (c + 1) B)) (h2 : SetAt w1 (paint2 O w0 c (c + 1) B) c B (addN N s)) :
    w1.heap[M]? = some (.cells (setA N) 78 (0, 0)) ∧ Settings w0 O c R B M (addN N s) (w1.setCell ⟨M, s, none⟩ (.bool true)) := by
  have hMc : paint2 O w0 c (c + 1) B M = c + 1 := by unfold paint2; rw [if_neg (by have := h.hM; omega), if_neg h.ne2]
  have hRc : paint2 O w0 c (c + 1) B R = c + 1 := by unfold paint2; rw [if_neg (by have := h.hR; omega), if_neg h.ne1]
  have m1 := (h1.block (lt_of_heap h.map) (by rw [hMc]; simp)).trans h.map
  have r1 := (h1.block (lt_of_heap h.res) (by rw [hRc]; simp)).trans h.res
  have st : Step [] w0 O w1 (paint2 O w0 c (c + 1) B) := ⟨h.step.frame.trans h1.frame (fun k hk ho => by
    have e : paint2 O w0 c (c + 1) B k = O k := by unfold paint2; rw [if_pos hk]
    rw [e] at ho
    exact absurd (by simpa using ho) (hO k hk)), h.step.ext⟩
  refine ⟨m1, st.setCell (p := ⟨M, s, none⟩) (.inr h.hM) _, ?_, ?_, ?_, h.hR, h.hM, h.hB, h.ne1, h.ne2, h.ne3⟩
  · exact h2.step (Step.store w1 _ ⟨M, s, none⟩ _) (by simp only [List.mem_singleton]; rw [hMc]; omega)
  · rw [heap_setCell_same w1 M s _ _ _ m1, setA_add N s hs]
  · rw [Below.heap_setCell _ _ _ _ h.ne3]; exact r1
theorem blk_cells {w : World} {M : Nat} {N : Nat → Bool} (h : w.heap[M]? = some (.cells (setA N) 78 (0, 0))) (s : Nat) (hs : s < 256) : w.cell? ⟨M, s, none⟩ = some (.bool (N s)) ∧ w.frozen? ⟨M, s, none⟩ = false :=
  ⟨by simp [World.cell?, h, setA_at N s hs], by simp [World.frozen?, h]⟩
theorem blk_there {w : World} {M : Nat} {N : Nat → Bool} (h : w.heap[M]? = some (.cells (setA N) 78 (0, 0))) : w.there M 0 256 := by
  intro j hj
  obtain ⟨h1, h2⟩ := blk_cells h j hj
  rw [Nat.zero_add]
  exact ⟨by rw [h1]; rfl, h2⟩
theorem blk_range {w : World} {M : Nat} {N : Nat → Bool} (h : w.heap[M]? = some (.cells (setA N) 78 (0, 0))) : w.rangeAt M 0 (setA N).toList := by
  intro j v hv
  rw [Nat.zero_add]
  simp only [World.cell?, h]
  simpa using hv
theorem settings_start (w : World) (O : Paint) (c : Nat) : Settings w O c w.heap.size (w.heap.size + 1) (w.heap.size + 1 + 1) (inN []) (((w.alloc (.cells Try.zeroCells78 78)).alloc (.cells Try.zeroCells124 124)).alloc (.cells Try.zeroCells78 78)) := by
  rw [zeroA]
  have e0 : inN [] = noN := rfl
  rw [e0]
  have hb : Below w.heap.size w (((w.alloc (.cells (setA noN) 78)).alloc (.cells Try.zeroCells124 124)).alloc (.cells (setA noN) 78)) := bel_alloc _ (bel_alloc _ (bel_alloc _ (Below.refl _ _)))
  refine ⟨⟨Frame.of_below_size hb, fun k hk => by unfold paint2; rw [if_pos hk]⟩, ⟨_, ⟨?_, by unfold paint2; rw [if_neg (by omega), if_pos rfl]⟩, zeroS⟩, ?_, ?_, Nat.le_refl _, by omega, by omega, by omega, by omega, by omega⟩
  · rw [Below.heap_alloc _ _ _ (by simp)]
    have := heap_alloc_new (w.alloc (.cells (setA noN) 78)) (.cells Try.zeroCells124 124)
    rw [World.size_alloc] at this
    exact this
  · have := heap_alloc_new ((w.alloc (.cells (setA noN) 78)).alloc (.cells Try.zeroCells124 124)) (.cells (setA noN) 78)
    rw [World.size_alloc, World.size_alloc] at this
    exact this
  · rw [Below.heap_alloc _ _ _ (by simp; omega), Below.heap_alloc _ _ _ (by simp)]
    exact heap_alloc_new w _
/-- What a text's sets leave. -/
def SetsBy (w : World) (O : Paint) (c : Nat) (N : Nat → Bool) (x : Ending) (w' : World) : Prop := ∃ b, x = .returned (.tuple #[.pointer (some ⟨b, 0, none⟩), .agg (setA N)]) ∧ w.heap.size ≤ b ∧ Step [] w O w' (paint2 O w c (c + 1) b) ∧ SetAt w' (paint2 O w c (c + 1) b) c b N
theorem sets_end {w wr : World} {O : Paint} {c R B M : Nat} {N : Nat → Bool} {cs : List Value} {fn : Func} {a : Act} (hR : w.heap.size = R) (hres : fn.results = #[.tmp 2, .cell 3 78]) (h2 : a.tmps.getD 2 undef = .pointer (some ⟨B, 0, none⟩)) (h3 : a.tmps.getD 3 undef = .pointer (some ⟨R, 0, none⟩)) (hd : a.defers = []) (hcs : (setA N).toList = cs) (h : Settings w O c R B M N wr) :
    bodyPost Try.prog fn (SetsBy w O c N) .ret a (wr.drew.setCells R 0 cs) := by
  subst hcs
  have hr := setCells_all (setA N) (w := wr.drew) (b := R) h.res (by rw [setA_size, setA_size])
  have hlv := run_loadVar_row (P := Try.prog) (wr.drew.setCells R 0 (setA N).toList) R 78 78 (setA N) (0, 0) _ hr Try.underlying78 rfl (by rw [sizeA, setA_size])
  have h2' : a.tmps[2]?.getD undef = .pointer (some ⟨B, 0, none⟩) := by simpa using h2
  have h3' : a.tmps[3]?.getD undef = .pointer (some ⟨R, 0, none⟩) := by simpa using h3
  have st : Step [] w O (wr.drew.setCells R 0 (setA N).toList) (paint2 O w c (c + 1) B) := setCells_step (.inr (by omega)) _ 0 _ h.step.drew
  refine bodyPost_ret (v := .tuple #[.pointer (some ⟨B, 0, none⟩), .agg (setA N)]) (by simp [results, hres, h2', h3', asAddr, hlv]) hd ⟨B, rfl, h.hB, st, ?_⟩
  obtain ⟨arr, hb, hc⟩ := h.set
  exact ⟨arr, ⟨(setCells_other (Ne.symm h.ne1) _ 0 _).trans hb.1, hb.2⟩, hc⟩
end Go.Proofs.Yteacmcckhjabmaa.Fq
