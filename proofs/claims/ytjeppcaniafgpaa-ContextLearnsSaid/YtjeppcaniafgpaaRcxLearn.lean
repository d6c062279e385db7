/-
  The reference of layer 18: the contract of Learn.
-/
import Derived.Test.YtjeppcaniafgpaaRcxMath
import Derived.Deep.RegionHeld3
import Derived.Deep.CutBlock
set_option linter.unusedVariables false
set_option linter.unusedSimpArgs false
namespace Go.Proofs.Ytjeppcaniafgpaa.Rx
open Go.RowKit Go.Maps
open Fq
open Rc
open Cx (Tl TOk tok_nil tok_add tok_len)
theorem one_byte {W : World} {k b : Nat} (hb : b < 256) (hc : W.cell? ⟨k, 0, none⟩ = some (.int .u8 (b : Int))) : (convert 51 9 (.slice (some ⟨k, 0, none⟩) 1 1)).run Try.prog W = .ok (.string ⟨#[UInt8.ofNat b]⟩) W := by
  have h := run_convert_bytes_back W 51 9 5 ⟨k, 0, none⟩ 1 [UInt8.ofNat b] Try.underlying51 Try.underlying5 Try.underlying9 (fun j hj => by
    simp at hj
    subst hj
    rw [show (⟨k, 0, none⟩ : Addr).add 0 = ⟨k, 0, none⟩ from rfl, hc]
    simp
    omega)
  exact h
theorem text_one (l : List UInt8) (x : UInt8) : (⟨l.toArray⟩ : ByteArray) ++ ⟨#[x]⟩ = ⟨(l ++ [x]).toArray⟩ := by
  apply ByteArray.ext
  apply Array.toList_inj.1
  simp
section
variable {cs : List Nat} {w w' : World} {O O' : Paint} {c d mb : Nat} {D : Dv} {q q1 q2 : Rd} {v1 v2 : Value} {t : Option Tl}
theorem DwTo.from {w1 w2 : World} {O1 : Paint} (hs : Step [c] w O w1 O1) (h : DwTo w1 O1 c d q w2) : DwTo w O c d q w2 := by
  obtain ⟨O2, m2, D2, h1, h2⟩ := h
  exact ⟨O2, m2, D2, hs.trans h1, h2⟩
/-- The text is one byte more. -/
theorem RdAt.wr (h : RdAt w O c d mb D q) (s : Nat) : Step [c] w O (w.setCell ⟨d, 3, none⟩ (.string ⟨(q.hist ++ [UInt8.ofNat s]).toArray⟩)) O ∧ RdAt (w.setCell ⟨d, 3, none⟩ (.string ⟨(q.hist ++ [UInt8.ofNat s]).toArray⟩)) O c d mb D (q.wr s) := by
  have hne : mb ≠ d := by
    rintro rfl
    obtain ⟨es, clock, hb, _⟩ := h.map.own
    rw [h.obj.1] at hb
    cases hb
  have hb := h.obj.setCell 3 (.string ⟨(q.hist ++ [UInt8.ofNat s]).toArray⟩)
  have hs : Step [c] w O (w.setCell ⟨d, 3, none⟩ (.string ⟨(q.hist ++ [UInt8.ofNat s]).toArray⟩)) O := (Step.refl [c] w O).setCell (p := ⟨d, 3, none⟩) (.inl (by simp [h.obj.2])) _
  refine ⟨hs, ⟨hb, ?_, h.sum⟩⟩
  have ht := h.map
  have hown : ∀ {e : TypeId} {v : Value} {n : Nat} {xs : List Value}, e ≠ 48 → w.ownsRow 0 e 1 v n xs → (w.setCell ⟨d, 3, none⟩ (.string ⟨(q.hist ++ [UInt8.ofNat s]).toArray⟩)).ownsRow 0 e 1 v n xs := fun he ho => own_set ho h.obj.1 (fun e1 => he e1.symm) 3 _
  refine ⟨?_, ht.col, ht.has, fun x l hx => ?_⟩
  · obtain ⟨es, clock, hb, hr⟩ := ht.own
    exact ⟨es, clock, (Below.heap_setCell _ _ _ _ hne).trans hb, hr⟩
  · obtain ⟨u1, u2, k1, k2, k3⟩ := ht.tells x l hx
    exact ⟨u1, u2, k1, ⟨⟨hown (by decide) k2.ref.row1, hown (by decide) k2.ref.row2⟩, k2.c1, k2.c2⟩, k3⟩
/-- All is forgotten. -/
theorem RdAt.forget (h : RdAt w O c d mb D q) : DwTo w O c d q.forget ((((w.setCell ⟨d, 2, none⟩ (.map (some w.heap.size))).setCell ⟨d, 3, none⟩ (.string ⟨#[]⟩)).setCell ⟨d, 4, none⟩ (.int .i64 ((q.rs : Int) + 1))).alloc (.map #[] 0)) := by
  have hd := h.obj.lt
  have hsc : ∀ {W : World} {ds : Array Value} (i : Nat) (u : Value), Blk W O c d (.cells ds 48 (0, 0)) → Step [c] W O (W.setCell ⟨d, i, none⟩ u) O := fun i u hb => (Step.refl [c] _ O).setCell (p := ⟨d, i, none⟩) (.inl (by simp [hb.2])) u
  have o2 := h.obj.setCell 2 (.map (some w.heap.size))
  have o3 := o2.setCell 3 (.string ⟨#[]⟩)
  have o4 := o3.setCell 4 (.int .i64 ((q.rs : Int) + 1))
  have hs := (hsc 2 (.map (some w.heap.size)) h.obj).trans ((hsc 3 (.string ⟨#[]⟩) o2).trans (hsc 4 (.int .i64 ((q.rs : Int) + 1)) o3))
  have hsz : ((((w.setCell ⟨d, 2, none⟩ (.map (some w.heap.size))).setCell ⟨d, 3, none⟩ (.string ⟨#[]⟩)).setCell ⟨d, 4, none⟩ (.int .i64 ((q.rs : Int) + 1)))).heap.size = w.heap.size := by simp
  generalize (((w.setCell ⟨d, 2, none⟩ (.map (some w.heap.size))).setCell ⟨d, 3, none⟩ (.string ⟨#[]⟩)).setCell ⟨d, 4, none⟩ (.int .i64 ((q.rs : Int) + 1))) = W at *
  have s1 : Step [] W O (W.alloc (.map #[] 0)) (Step.paint O W c) := ((Step.refl [] W O).alloc _).repaint c
  refine ⟨Step.paint O W c, w.heap.size, .map [], hs.trans s1.nil, ⟨?_, tm_made ?_ ?_, rfl⟩⟩
  · have e1 : ((q.forget.rs : Nat) : Int) = (q.rs : Int) + 1 := by show ((q.rs + 1 : Nat) : Int) = _; omega
    rw [e1]
    exact o4.step s1 (by simp)
  · rw [← hsz]
    exact heap_alloc_new W _
  · exact Step.paint_new (by omega)
theorem Rd.learn_full {q : Rd} {s a : Nat} {f : Int} (ha : (max f 0).toNat = a) (h : q.cells < q.sum + q.needs s a (q.room a)) : q.learn s f = q.forget.learn1 s 0 := by
  unfold Rd.learn Rd.full
  rw [ha, decide_eq_true h]
  rfl
theorem Rd.learn_fits {q : Rd} {s a : Nat} {f : Int} (ha : (max f 0).toNat = a) (h : ¬ q.cells < q.sum + q.needs s a (q.room a)) : q.learn s f = q.learn1 s a := by
  unfold Rd.learn Rd.full
  rw [ha, decide_eq_false h]
  rfl
theorem Rd.needs_next (q : Rd) (s a j : Nat) : q.needs s a (j + 1) = q.needs s a j + q.need1 s (a + j) := rfl
theorem Rd.need1_cases (q : Rd) (s k : Nat) : (q.at' k = none ∧ q.need1 s k = 2) ∨ (∃ l, q.at' k = some l ∧ hasB l s = true ∧ q.need1 s k = 0) ∨ (∃ l, q.at' k = some l ∧ hasB l s = false ∧ q.need1 s k = 1) := by
  unfold Rd.need1
  cases h : q.at' k with
  | none => exact .inl ⟨rfl, rfl⟩
  | some l =>
    cases hb : hasB l s with
    | true => exact .inr (.inl ⟨l, rfl, hb, by simp [hb]⟩)
    | false => exact .inr (.inr ⟨l, rfl, hb, by simp [hb]⟩)
/-- A number below: the table's place of it. -/
theorem Rd.place_sign (q : Rd) (s k : Nat) : ((q.at' k).isSome = false ∧ placeI ((q.at' k).getD []) s < 0 ∧ q.need1 s k = 2) ∨ ((q.at' k).isSome = true ∧ ¬ placeI ((q.at' k).getD []) s < 0 ∧ q.need1 s k = 0) ∨ ((q.at' k).isSome = true ∧ placeI ((q.at' k).getD []) s < 0 ∧ q.need1 s k = 1) := by
  rcases q.need1_cases s k with ⟨e, h⟩ | ⟨l, e, hb, h⟩ | ⟨l, e, hb, h⟩
  · refine .inl ⟨by rw [e]; rfl, ?_, h⟩
    rw [e]
    show placeI [] s < 0
    simp [placeI, find]
  · refine .inr (.inl ⟨by rw [e]; rfl, ?_, h⟩)
    rw [e]
    rcases has_place l s with ⟨_, g⟩ | ⟨g, _⟩
    · show ¬ placeI l s < 0
      omega
    · rw [hb] at g; cases g
  · refine .inr (.inr ⟨by rw [e]; rfl, ?_, h⟩)
    rw [e]
    rcases has_place l s with ⟨g, _⟩ | ⟨_, g⟩
    · rw [hb] at g; cases g
    · show placeI l s < 0
      omega
end
end Go.Proofs.Ytjeppcaniafgpaa.Rx
