/-
  Package bst: what is told to the closure of Next.
-/
import Derived.Test.YteacmcckhjabmaaBstNew
namespace Go.Proofs.Yteacmcckhjabmaa.Bs
open Go.RowKit Go.Maps
open Mt
open Ch (bt bt_at bt_lt Dm ret_num Founds infoF fd_new fd_one flatF flatF_append)
/-- What the closure has: the longest, and the list; both are new since w0. -/
structure Met (w0 w : World) (X Y longest : Nat) (u : Value) (l : List (Nat × Nat)) : Prop where
  hX : w.heap[X]? = some (.cells #[.int .i64 (longest : Int)] 3 (0, 0))
  hY : w.heap[Y]? = some (.cells #[u] 97 (0, 0))
  nX : w0.heap.size ≤ X
  nY : w0.heap.size ≤ Y
  founds : Founds 146 w0 w u l
  len : l.length ≤ longest
theorem one_cell {w : World} {X : Nat} {a : Value} {t : TypeId} (h : w.heap[X]? = some (.cells #[a] t (0, 0))) : w.cell? ⟨X, 0, none⟩ = some a ∧ w.frozen? ⟨X, 0, none⟩ = false := by
  refine ⟨?_, ?_⟩ <;> simp [World.cell?, World.frozen?, h]
theorem Met.keep {w0 w w' : World} {X Y longest : Nat} {u : Value} {l : List (Nat × Nat)} (h : Met w0 w X Y longest u l) (hf : Frame (fun k => k < w0.heap.size) w w') : Met w0 w' X Y longest u l :=
  ⟨(hf.block X (lt_of_heap h.hX) (by have := h.nX; omega)).trans h.hX, (hf.block Y (lt_of_heap h.hY) (by have := h.nY; omega)).trans h.hY, h.nX, h.nY, ⟨ownsRow_frame h.founds.row hf (fun k hk ho => by have := h.founds.new k hk; omega), h.founds.new⟩, h.len⟩
theorem Met.drewN {w0 w : World} {X Y longest : Nat} {u : Value} {l : List (Nat × Nat)} (h : Met w0 w X Y longest u l) (n : Nat) : Met w0 (w.drewN n) X Y longest u l := h.keep ((Frame.refl _ w).drewN n)
theorem Met.app {w0 w w10 : World} {X Y longest n d : Nat} {u u' : Value} {l : List (Nat × Nat)} {o : Obj} (h : Met w0 w X Y longest u l) (hl : longest < n)
    (hown : w10.ownsRow 0 146 2 u' (l.length + 1) (flatF l ++ [.int .i64 (n : Int), .int .i64 (d : Int)])) (hg : (w.alloc o).grownBy w10 u.ownBlock) (hm : Moved (w.alloc o) u u') (hw : w0.heap.size ≤ w.heap.size) :
    (Met w0 ((w10.setCell ⟨Y, 0, none⟩ u').setCell ⟨X, 0, none⟩ (.int .i64 (n : Int))) X Y n u' (l ++ [(n, d)]) ∧ Below w0.heap.size w ((w10.setCell ⟨Y, 0, none⟩ u').setCell ⟨X, 0, none⟩ (.int .i64 (n : Int)))) ∧
    (w10.setCell ⟨Y, 0, none⟩ u').heap[X]? = some (.cells #[.int .i64 (longest : Int)] 3 (0, 0)) ∧ w10.heap[Y]? = some (.cells #[u] 97 (0, 0)) := by
  have hXY : X ≠ Y := by
    rintro rfl
    have := h.hX
    rw [h.hY] at this
    simp at this
  have hu : ∀ Z t a, w.heap[Z]? = some (.cells #[a] t (0, 0)) → t ≠ 146 → u.ownBlock ≠ some Z := by
    intro Z t a hz ht e
    rcases h.founds.row.2 with ⟨e1, _⟩ | ⟨g, cap, cur, rfl, _, hg, _⟩
    · rw [e1] at e; simp [Value.ownBlock] at e
    · simp [Value.ownBlock] at e
      subst e
      rw [hz] at hg
      simp at hg
      exact ht hg.2
  have uX := hu X _ _ h.hX (by decide)
  have uY := hu Y _ _ h.hY (by decide)
  have al : ∀ Z a t, w.heap[Z]? = some (.cells #[a] t (0, 0)) → u.ownBlock ≠ some Z → w10.heap[Z]? = some (.cells #[a] t (0, 0)) := fun Z a t hz hn =>
    (hg.block Z (by rw [World.size_alloc]; exact Nat.lt_succ_of_lt (lt_of_heap hz)) (Ne.symm hn)).trans ((Below.heap_alloc w o Z (lt_of_heap hz)).trans hz)
  have hX10 := al X _ _ h.hX uX
  have hY10 := al Y _ _ h.hY uY
  have hf10 : Frame (fun k => u.ownBlock = some k) w w10 := ((Frame.refl (fun k => u.ownBlock = some k) w).alloc o).grown hg (fun k hk => .inl hk)
  have hb10 : Below w0.heap.size w w10 := hf10.below hw (fun k hk ho => by have := h.founds.new k ho; omega)
  have hb := (hb10.setCell (p := ⟨Y, 0, none⟩) h.nY u').setCell (p := ⟨X, 0, none⟩) h.nX (.int .i64 (n : Int))
  have s1 := heap_setCell_same w10 Y 0 _ _ u' hY10
  have s2 : (w10.setCell ⟨Y, 0, none⟩ u').heap[X]? = some (.cells #[.int .i64 (longest : Int)] 3 (0, 0)) := by rw [Below.heap_setCell _ _ _ _ (by exact hXY)]; exact hX10
  have s3 := heap_setCell_same _ X 0 _ _ (.int .i64 (n : Int)) s2
  refine ⟨⟨⟨by simpa using s3, ?_, h.nX, h.nY, ⟨?_, ?_⟩, by have := h.len; simp; omega⟩, hb⟩, s2, hY10⟩
  · rw [Below.heap_setCell _ _ _ _ (by exact Ne.symm hXY)]
    simpa using s1
  · rw [List.length_append, flatF_append]
    have f2 : Frame (fun k => k = Y ∨ k = X) w10 ((w10.setCell ⟨Y, 0, none⟩ u').setCell ⟨X, 0, none⟩ (.int .i64 (n : Int))) := ((Frame.refl (fun k => k = Y ∨ k = X) w10).setCell (p := ⟨Y, 0, none⟩) (.inl (.inl rfl)) u').setCell (p := ⟨X, 0, none⟩) (.inl (.inr rfl)) _
    refine ownsRow_frame hown f2 (fun k hk ho => ?_)
    rcases hown.2 with ⟨e1, _⟩ | ⟨g, cap, cur, rfl, _, hg', _⟩
    · rw [e1] at hk; simp [Value.ownBlock] at hk
    · simp [Value.ownBlock] at hk
      subst hk
      rcases ho with rfl | rfl
      · rw [hY10] at hg'; simp at hg'
      · rw [hX10] at hg'; simp at hg'
  · intro k hk
    rcases hm with e | e
    · rw [e] at hk; exact h.founds.new k hk
    · have h1 := e k hk
      rw [World.size_alloc] at h1
      omega
/-- What the closure leaves. -/
def MetTo (w0 w : World) (X Y longest n d : Nat) (l : List (Nat × Nat)) (x : Ending) (w' : World) : Prop :=
  x = .returned (.tuple #[]) ∧ ∃ u', Met w0 w' X Y (if longest < n then n else longest) u' (if longest < n then l ++ [(n, d)] else l) ∧ Below w0.heap.size w w'
set_option maxRecDepth 100000 in
set_option maxHeartbeats 1000000 in
theorem met_any {w0 w : World} {X Y longest : Nat} {u : Value} {l : List (Nat × Nat)} (h : Met w0 w X Y longest u l) (n d : Nat) (hn : n ≤ 273) (hw : w0.heap.size ≤ w.heap.size) :
    Calls Try.prog 87 #[.int .i64 (n : Int), .int .i64 (d : Int), .pointer (some ⟨X, 0, none⟩), .pointer (some ⟨Y, 0, none⟩)] w (MetTo w0 w X Y longest n d l) := by
  obtain ⟨x0, xf⟩ := one_cell h.hX
  obtain ⟨y0, yf⟩ := one_cell h.hY
  have HM := Lib.hid h
  clear h
  by_cases hl : longest < n
  · obtain ⟨i0, hi, hz0, hz1, hz2⟩ := info_parts infoF
    have HI := Lib.hid hi
    have HZ0 := Lib.hid hz0
    have HZ1 := Lib.hid hz1
    have HZ2 := Lib.hid hz2
    have HROW := Lib.hid HM.out.founds.row
    have hll := HM.out.len
    have hl2 : l.length ≤ 273 := by omega
    clear hll
    have hn1 : l.length + 1 ≤ maxLen := by unfold maxLen; omega
    have hn2 : (l.length + 1) * 16 ≤ 140737488355328 := by omega
    clear hi hz0 hz1 hz2
    go_enter Try.func87, Try.ntmps87
    go_wp2_with (at_builtin; refine wpList_append_one _ rfl _ _ 97 rfl 146 i0 (.agg #[.int .i64 0, .int .i64 0]) 2 16 Try.underlying97 HI.out HZ0.out HZ1.out HZ2.out rfl (by decide) u l.length _ rfl (World.ownsRow.alloc HROW.out _) ⟨w.heap.size, 0, none⟩ 1 [.int .i64 (n : Int), .int .i64 (d : Int)] rfl rfl (fd_new _ _ _ _) (fd_one _ _) hn1 hn2 ?_; intro g9 cap9 w10 hown10 hgr10 hmv10; have HTT := Lib.hid (HM.out.app (n := n) (d := d) hl hown10 hgr10 hmv10 hw); clear hown10 hgr10 hmv10; obtain ⟨q0, qf⟩ := one_cell HTT.out.2.2; obtain ⟨qx, qxf⟩ := one_cell HTT.out.2.1)
    go_end0
    exact ⟨rfl, _, by rw [if_pos hl, if_pos hl]; exact HTT.out.1.1, HTT.out.1.2⟩
  · have hd : decide (longest < n) = false := by simpa using hl
    go_enter Try.func87, Try.ntmps87
    go_wp2
    go_end0
    exact ⟨rfl, u, by rw [if_neg hl, if_neg hl]; exact HM.out, ⟨rfl, rfl, rfl, Nat.le_refl _, fun _ _ => rfl⟩⟩
end Go.Proofs.Yteacmcckhjabmaa.Bs
