/-
  The walk of the statement FreqCounts: for every text it returns true, and writes nothing that was there.
-/
import Derived.Test.YteacmcckhjabmaaFreqSpeaks
import Derived.Test.YteacmcckhjabmaaFreqRef0
import Derived.StillTailTactics
namespace Go.Proofs.Yteacmcckhjabmaa.Fq
open Go.RowKit
/-- The document's Add, at a table with signs or without. -/
theorem radd_any {w : World} {v1 v2 : Value} {l : List (Nat × Nat)} (h : RefT w v1 v2 l) (h0 : l = [] → v1 = .slice none 0 0 ∧ v2 = .slice none 0 0) (ht : Tab 120 l) (hl : l.length ≤ 1000000) (s : Nat) (hs : s < 256) :
    Calls Try.prog 83 #[.agg #[v1, v2], .int .u8 (s : Int)] w fun x w' => ∃ v1' v2', x = .returned (.agg #[v1', v2']) ∧ RefT w' v1' v2' (addT l s) ∧ Below w.heap.size w w' ∧ (∀ k, v1'.ownBlock = some k → w.heap.size ≤ k) ∧ (∀ k, v2'.ownBlock = some k → w.heap.size ≤ k) := by
  by_cases hn : l = []
  · obtain ⟨rfl, rfl⟩ := h0 hn
    subst hn
    exact radd_first w s
  · exact radd_more h ht (List.length_pos_iff.2 hn) hl s hs
theorem add_ne (l : List (Nat × Nat)) (s : Nat) : addT l s ≠ [] := by
  intro e
  have h : (addT l s).length = 0 := by rw [e]; rfl
  unfold addT at h
  split at h
  · rename_i h1
    split at h
    · rw [halve_length, more_length] at h; omega
    · rw [more_length] at h; omega
  · simp at h
/-- The developers' table, and the document's in a variable. -/
structure LockF (w0 : World) (a M : Nat) (ld lr : List (Nat × Nat)) (vt v1 v2 : Value) (w : World) (O : Paint) : Prop where
  run : Run w0 w O
  tab : TabAt w O 1 a vt ld
  var : Blk w O 2 M (.cells #[v1, v2] 81 (0, 0))
  rows : RefT w v1 v2 lr
  own1 : ∀ k, v1.ownBlock = some k → O k = 2
  own2 : ∀ k, v2.ownBlock = some k → O k = 2
  nil0 : lr = [] → v1 = .slice none 0 0 ∧ v2 = .slice none 0 0
namespace LockF
variable {w0 w w' : World} {a M : Nat} {ld lr l' : List (Nat × Nat)} {vt v1 v2 : Value} {O O' : Paint}
theorem keep {cs : List Nat} (h : RefT w v1 v2 lr) (o1 : ∀ k, v1.ownBlock = some k → O k = 2) (o2 : ∀ k, v2.ownBlock = some k → O k = 2) (hs : Step cs w O w' O') (h2 : 2 ∉ cs) :
    RefT w' v1 v2 lr ∧ (∀ k, v1.ownBlock = some k → O' k = 2) ∧ (∀ k, v2.ownBlock = some k → O' k = 2) :=
  ⟨⟨ownsRow_frame h.row1 hs.frame (fun k hk ho => h2 (by rw [o1 k hk] at ho; exact ho)), ownsRow_frame h.row2 hs.frame (fun k hk ho => h2 (by rw [o2 k hk] at ho; exact ho))⟩,
    fun k hk => (hs.ext k (ownsRow_lt h.row1 k hk)).trans (o1 k hk), fun k hk => (hs.ext k (ownsRow_lt h.row2 k hk)).trans (o2 k hk)⟩
theorem idle (h : LockF w0 a M ld lr vt v1 v2 w O) (hs : Step [] w O w' O') : LockF w0 a M ld lr vt v1 v2 w' O' := by
  obtain ⟨r1, r2, r3⟩ := keep h.rows h.own1 h.own2 hs (by simp)
  exact ⟨h.run.step hs (by simp), h.tab.step hs (by simp), h.var.step hs (by simp), r1, r2, r3, h.nil0⟩
theorem below (h : LockF w0 a M ld lr vt v1 v2 w O) (hb : Below w.heap.size w w') : LockF w0 a M ld lr vt v1 v2 w' O := h.idle (Step.of_below_same hb O)
theorem dev (h : LockF w0 a M ld lr vt v1 v2 w O) (ha : Added w O 1 a l' w') : ∃ O' vt', LockF w0 a M l' lr vt' v1 v2 w' O' := by
  obtain ⟨O', vt', hs, ht⟩ := ha
  obtain ⟨r1, r2, r3⟩ := keep h.rows h.own1 h.own2 hs (by simp)
  exact ⟨O', vt', h.run.step hs (by simp), ht, h.var.step hs (by simp), r1, r2, r3, h.nil0⟩
theorem refs (h : LockF w0 a M ld lr vt v1 v2 w O) {v1' v2' : Value} (hb : Below w.heap.size w w') (hR : RefT w' v1' v2' l') (n1 : ∀ k, v1'.ownBlock = some k → w.heap.size ≤ k) (n2 : ∀ k, v2'.ownBlock = some k → w.heap.size ≤ k) (hne : l' ≠ []) :
    LockF w0 a M ld l' vt v1' v2' ((w'.setCell ⟨M, 0, none⟩ v1').setCell ⟨M, 1, none⟩ v2') (Step.paint O w 2) := by
  have s0 := Step.of_below hb O 2
  have b1 := h.var.step s0 (by simp)
  have hM : Step.paint O w 2 M ∈ [2] := by rw [b1.2]; simp
  have s1 : Step [2] w' (Step.paint O w 2) ((w'.setCell ⟨M, 0, none⟩ v1').setCell ⟨M, 1, none⟩ v2') (Step.paint O w 2) := ((Step.refl [2] w' _).setCell (p := ⟨M, 0, none⟩) (.inl hM) _).setCell (p := ⟨M, 1, none⟩) (.inl hM) _
  have b2 := b1.setCell 0 v1'
  have b3 := b2.setCell 1 v2'
  exact ⟨(h.run.step s0 (by simp)).step s1 (by simp), (h.tab.step s0 (by simp)).step s1 (by simp), by simpa using b3,
    ⟨own_set (own_set hR.row1 b1.1 (by decide) 0 _) b2.1 (by decide) 1 _, own_set (own_set hR.row2 b1.1 (by decide) 0 _) b2.1 (by decide) 1 _⟩,
    fun k hk => Step.paint_new (n1 k hk), fun k hk => Step.paint_new (n2 k hk), fun e => absurd e hne⟩
end LockF
def TwoNil (w : World) (x : Ending) (w' : World) : Prop := ∃ g1 g2 : Nat, x = .returned (.tuple #[.slice (some ⟨g1, 0, none⟩) 0 0, .slice (some ⟨g2, 0, none⟩) 0 0]) ∧ Below w.heap.size w w'
theorem nil_signs (w : World) : Calls Try.prog 107 #[.pointer none] w (TwoNil w) := by
  have mk8 : ∀ w, (Instr.makeSlice 73 (.int .i64 0) (.int .i64 0)).run Try.prog w = .ok (.slice (some ⟨w.heap.size, 0, none⟩) 0 0) (w.alloc (.cells #[] 5)) := fun w => by kernel_rfl
  have mkI : ∀ w, (Instr.makeSlice 35 (.int .i64 0) (.int .i64 0)).run Try.prog w = .ok (.slice (some ⟨w.heap.size, 0, none⟩) 0 0) (w.alloc (.cells #[] 3)) := fun w => by kernel_rfl
  go_enter Try.func107, Try.ntmps107
  go_wp2_with fail
  refine (nil_all w).mono ?_
  rintro x w1 ⟨rfl, rfl⟩
  go_wp2
  go_region
  focus
    have hb : Below w.heap.size w ((w.alloc (.cells #[] 5)).alloc (.cells #[] 3)).drew := bel_drew (bel_alloc _ (bel_alloc _ (Below.refl _ _)))
    have HB := Lib.hid hb
    clear hb
    go_wp2
  rotate_left
  focus
    have hb : Below w.heap.size w ((w.alloc (.cells #[] 3)).alloc (.cells #[] 5)).drew := bel_drew (bel_alloc _ (bel_alloc _ (Below.refl _ _)))
    have HB := Lib.hid hb
    clear hb
    go_wp2
  all_goals
    go_loop [19] (fun i => i = .int .i64 0) (fun i => 1)
    case atStart => rfl
    case round =>
      subst hrel
      go_wp2
      go_ret2
      exact ⟨_, _, rfl, HB.out⟩
theorem conv_row {w : World} {L : List Nat} {g c : Nat} (h : w.ownsRow 0 5 1 (.slice (some ⟨g, 0, none⟩) L.length c) L.length (u8s L)) (hL : ∀ x ∈ L, x < 256) :
    (convert 73 9 (.slice (some ⟨g, 0, none⟩) L.length c)).run Try.prog w = .ok (.string ⟨(L.map UInt8.ofNat).toArray⟩) w := by
  have hc := run_convert_bytes_back (P := Try.prog) w 73 9 5 ⟨g, 0, none⟩ c (L.map UInt8.ofNat) Try.underlying73 Try.underlying5 Try.underlying9 (fun j hj => by
    have hj' : j < L.length := by simpa using hj
    have hplain : (⟨g, 0, none⟩ : Addr).add j = ⟨g, j, none⟩ := by unfold Addr.add; split <;> simp_all
    rw [hplain, row_cell h (x := .int .u8 ((L[j] : Nat) : Int)) (by simp [u8s, hj'])]
    have hlt := hL L[j] (List.getElem_mem hj')
    simp
    omega)
  rw [List.length_map] at hc
  exact hc
theorem conv_nil (w : World) : (convert 73 9 (.slice none 0 0)).run Try.prog w = .ok (.string ⟨#[]⟩) w := run_convert_bytes_nil w 73 5 Try.underlying73 Try.underlying5 0 0 9 Try.underlying9
/-- The list of a text's first bytes. -/
def tab (t : ByteArray) (j : Nat) : List (Nat × Nat) := adds [] (t.data.toList.take j)
theorem tab_next (t : ByteArray) (j : Nat) (hj : j < t.size) : tab t (j + 1) = addT (tab t j) t[j].toNat := by
  unfold tab
  rw [List.take_succ_eq_append_getElem (by simpa using hj), adds_snoc]
  rfl
theorem tab_ok (t : ByteArray) (j : Nat) : Tab 120 (tab t j) := tab_adds _ _ (fun x hx => by cases hx)
theorem tab_len (t : ByteArray) (j : Nat) : (tab t j).length ≤ j := by
  have h := adds_length (t.data.toList.take j) []
  have h2 : (t.data.toList.take j).length ≤ j := List.length_take_le _ _
  unfold tab
  simp only [List.length_nil] at h; omega
/-- What the loop over a text holds. -/
def Adding (w0 : World) (a M : Nat) (l : List (Nat × Nat)) (w : World) : Prop := ∃ vt v1 v2 O, LockF w0 a M l l vt v1 v2 w O
end Go.Proofs.Yteacmcckhjabmaa.Fq
