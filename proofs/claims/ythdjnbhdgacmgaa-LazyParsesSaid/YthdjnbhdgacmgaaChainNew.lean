/-
  Package chain: the contract of New; what becomes of a finder when others are called, and when it is written.
-/
import Derived.Test.YthdjnbhdgacmgaaChainDev
import Derived.StillTailTactics
namespace Go.Proofs.Ythdjnbhdgacmgaa.Ch
open Go.RowKit Go.Maps
open Mt
theorem infoI : (Try.prog.info? 3).map (fun i => (i.zero, i.size, i.bytes)) = some (some (.int .i64 0), 1, 8) := by kernel_rfl
theorem tells_none (s : ByteArray) : Tells3 s 0 (.map []) := fun q _ => ⟨by simp [prevF]; rfl, by simp [prevF]; rfl⟩
set_option maxHeartbeats 1000000 in
theorem new_any (s : ByteArray) (window cut : Int) (w : World) (O : Paint) (c : Nat) (hs : s.size ≤ 1000000000) :
    Calls Try.prog 74 #[.string s, .int .i64 window, .int .i64 cut] w fun x w' => ∃ a O' B v xs D, x = .returned (.pointer (some ⟨a, 0, none⟩)) ∧ Step [] w O w' O' ∧ FinAt w' O' c a s window cut 0 0 B v xs D := by
  obtain ⟨i0, hi, hz0, hz1, hz2⟩ := info_parts infoI
  have hmm := run_makeMap (P := Try.prog) 190 w
  obtain ⟨w2, hmk, hrow, hgr⟩ := run_make_full (P := Try.prog) (w.alloc (.map #[] 0)) 0 154 3 i0 (.int .i64 0) 1 Try.underlying154 hi hz0 hz1 .i64 .i64 s.size (by rw [hz2]; omega) (by unfold maxLen; omega) (Nat.zero_le _)
  have hmc : (madeCells (Value.int .i64 0).cells (s.size * 1)).toList = (List.replicate s.size (0 : Int)).map (Value.int .i64) := by
    rw [Nat.mul_one]
    show (madeCells #[.int .i64 0] s.size).toList = _
    rw [toList_madeCells_one]
    simp
  rw [hmc] at hrow
  have hown := (World.ownsMap_made w Try.prog 209 (plainElem (H := Unit) Try.prog 3)).kept hgr (by simp)
  have HR := Lib.hid hrow
  have HO := Lib.hid hown
  have HG := Lib.hid hgr
  have hsz : (w.alloc (.map #[] 0)).heap.size = w.heap.size + 1 := World.size_alloc _ _
  rw [hsz] at hmk HR
  have hz2 := HG.out.size
  rw [hsz] at hz2
  clear hrow hown hgr hmc hsz
  go_enter Try.func74, Try.ntmps74
  go_wp2_with fail
  go_ret
  refine ⟨w2.heap.size, Step.paint O w c, w.heap.size, .slice (some ⟨w.heap.size + 1, 0, none⟩) s.size s.size, List.replicate s.size 0, .map [], rfl, ?_, ?_⟩
  · exact ((((Step.refl [] w O).alloc _).grown HG.out (fun k hk => by cases hk)).alloc _).repaint c
  · have hp : ∀ k, w.heap.size ≤ k → Step.paint O w c k = c := fun k hk => Step.paint_new hk
    exact ⟨⟨heap_alloc_new _ _, hp _ (by omega)⟩, ⟨by rw [List.length_map, List.length_replicate]; exact World.ownsRow.alloc HR.out _, fun k hk => hp k (by simp [Value.ownBlock] at hk; omega)⟩, by simp, HO.out.alloc _, hp _ (Nat.le_refl _), fun _ => tells_none s, fun q hq => by omega, Nat.zero_le _, by omega⟩
section
variable {cs : List Nat} {w w' : World} {O O' : Paint} {c a : Nat} {s : ByteArray} {window cut : Int} {p r B : Nat} {v : Value} {xs : List Int} {D : Dm}
theorem FinAt.ne (h : FinAt w O c a s window cut p r B v xs D) : a ≠ B ∧ v.ownBlock ≠ some a ∧ v.ownBlock ≠ some B := by
  obtain ⟨es, clock, hb, _⟩ := h.own
  refine ⟨?_, ?_, ?_⟩
  · rintro rfl
    rw [h.blk.1] at hb
    cases hb
  · intro e
    rcases h.held.row.2 with ⟨e1, _⟩ | ⟨g, cap, cur, rfl, _, hg, _⟩
    · rw [e1] at e; simp [Value.ownBlock] at e
    · simp [Value.ownBlock] at e
      subst e
      rw [h.blk.1] at hg
      simp at hg
  · intro e
    rcases h.held.row.2 with ⟨e1, _⟩ | ⟨g, cap, cur, rfl, _, hg, _⟩
    · rw [e1] at e; simp [Value.ownBlock] at e
    · simp [Value.ownBlock] at e
      subst e
      rw [hb] at hg
      cases hg
theorem FinAt.step (h : FinAt w O c a s window cut p r B v xs D) (hs : Step cs w O w' O') (hc : c ∉ cs) : FinAt w' O' c a s window cut p r B v xs D := by
  refine ⟨h.blk.step hs hc, h.held.step hs hc, h.len, ?_, (hs.ext B h.own.lt).trans h.ownC, h.tells, h.prev, h.place, h.small⟩
  have hlt := h.own.lt
  obtain ⟨es, clock, hb, h1, h2, h3⟩ := h.own
  exact ⟨es, clock, (hs.block hlt (by rw [h.ownC]; exact hc)).trans hb, h1, h2, h3⟩
theorem FinAt.below (h : FinAt w O c a s window cut p r B v xs D) (hb : Below w.heap.size w w') : FinAt w' O c a s window cut p r B v xs D := h.step (Step.of_below_same hb O) (by simp)
/-- The next place is looked at. -/
theorem FinAt.move (h : FinAt w O c a s window cut p r B v xs D) (hp : p < s.size) (hr : p + 3 ≤ s.size → r = p + 1) (hr2 : s.size < p + 3 → r = p) : FinAt (w.setCell ⟨a, 3, none⟩ (.int .i64 ((p : Int) + 1))) O c a s window cut (p + 1) (p + 1) B v xs D ∧ Step [c] w O (w.setCell ⟨a, 3, none⟩ (.int .i64 ((p : Int) + 1))) O := by
  obtain ⟨n1, n2, n3⟩ := h.ne
  have hrp : r ≤ p + 1 := by omega
  refine ⟨⟨by simpa using h.blk.setCell 3 (.int .i64 ((p : Int) + 1)), h.held.setCell_other (p := ⟨a, 3, none⟩) n2 _, h.len, (h.own.setCell (a := ⟨a, 3, none⟩) (Ne.symm n1) _).mono hrp, h.ownC, fun h3 => ?_, fun q hq h3 => ?_, hp, h.small⟩, (Step.refl [c] w O).setCell (p := ⟨a, 3, none⟩) (.inl (by simp [h.blk.2])) _⟩
  · have := h.tells (by omega)
    rw [hr (by omega)] at this
    exact this
  · exact h.prev q (by omega) h3
/-- The place is linked. -/
theorem FinAt.stored {g cap : Nat} (h : FinAt w O c a s window cut p p B (.slice (some ⟨g, 0, none⟩) xs.length cap) xs D) : FinAt (w.setCell ⟨g, p, none⟩ (.int .i64 (prevF (bt s) p p))) O c a s window cut p p B (.slice (some ⟨g, 0, none⟩) xs.length cap) (xs.set p (prevF (bt s) p p)) D ∧ Step [c] w O (w.setCell ⟨g, p, none⟩ (.int .i64 (prevF (bt s) p p))) O := by
  obtain ⟨n1, n2, n3⟩ := h.ne
  have hga : a ≠ g := by rintro rfl; exact n2 rfl
  have hgB : B ≠ g := by rintro rfl; exact n3 rfl
  refine ⟨⟨h.blk.setCell_other (p := ⟨g, p, none⟩) (Ne.symm hga) _, ?_, by rw [List.length_set]; exact h.len, h.own.setCell (a := ⟨g, p, none⟩) hgB _, h.ownC, h.tells, fun q hq h3 => ?_, h.place, h.small⟩, (Step.refl [c] w O).setCell (p := ⟨g, p, none⟩) (.inl (by simp [h.held.paint g rfl])) _⟩
  · have := h.held.set p (.int .i64 (prevF (bt s) p p))
    rw [List.map_set]
    exact this
  · rw [List.getElem?_set_ne (by omega)]
    exact h.prev q hq h3
theorem tells_put {s : ByteArray} {p : Nat} {D : Dm} (_hp : p + 3 ≤ s.size) (hm : IsMap D) (h : Tells3 s p D) : Tells3 s (p + 1) (D.put (key3 s p) (.lit (.int .i64 (p : Int)))) := by
  intro q hq
  have hk : WideAt.IsKeyLit (key3 s p) := law3.key (key_of3 s p)
  rw [prevF]
  by_cases hh : heads (bt s) q p = true
  · rw [if_pos hh, key3_eq hh, Maps.has_put_same hm hk, Maps.atKey_put_same hm hk]
    refine ⟨?_, ?_⟩
    · simp
    · rw [if_neg (by omega)]
  · rw [if_neg hh, Maps.has_put_other (key3_ne (by simpa using hh)), Maps.atKey_put_other (key3_ne (by simpa using hh))]
    exact h q hq
theorem FinAt.mapped {g cap : Nat} (h : FinAt w O c a s window cut p p B (.slice (some ⟨g, 0, none⟩) xs.length cap) xs D) (hp : p + 3 ≤ s.size) (hx : xs[p]? = some (prevF (bt s) p p))
    (hown : w'.ownsMap Try.prog 209 (plainElem Try.prog 3) B (p + 1) (D.put (key3 s p) (.lit (.int .i64 (p : Int))))) (hg : w.grownBy w' (some B)) :
    FinAt w' O c a s window cut p (p + 1) B (.slice (some ⟨g, 0, none⟩) xs.length cap) xs (D.put (key3 s p) (.lit (.int .i64 (p : Int)))) ∧ Step [c] w O w' O := by
  obtain ⟨n1, n2, n3⟩ := h.ne
  have hgB : g ≠ B := by rintro rfl; exact n3 rfl
  have hst : Step [c] w O w' O := (Step.refl [c] w O).grown hg (fun k hk => by cases hk; exact .inl (by simp [h.ownC]))
  refine ⟨⟨⟨(hg.block a h.blk.lt (by simpa using n1)).trans h.blk.1, h.blk.2⟩, ⟨?_, h.held.paint⟩, h.len, hown, h.ownC, fun _ => tells_put hp (h.own.isMap) (h.tells hp), fun q hq h3 => ?_, h.place, h.small⟩, hst⟩
  · exact ownsRow_frame h.held.row ((Frame.refl (fun k => k = B) w).grown hg (fun k hk => by cases hk; exact .inl rfl)) (fun k hk e1 => n3 (by rw [hk, e1]))
  · by_cases e : q = p
    · subst e; exact hx
    · exact h.prev q (by omega) h3
end
end Go.Proofs.Ythdjnbhdgacmgaa.Ch
