/-
  Plain mathematics of layer 6: lists of packets that fit, and the text that they tell; packets in a row.
-/
import Derived.Test.YteacmcckhjabmaaPackDo
import Derived.Test.YteacmcckhjabmaaWinTurnsWalk
namespace Go.Proofs.Yteacmcckhjabmaa.Pk
open Go.RowKit
open Wnd (copied copied_length)
/-- These packets tell this text, and leave these last distances; of fewer bytes there is no room. -/
def Tells (ps : List Pt) (s : List UInt8) (r : Rp) : Prop := (∀ most qs, s.length ≤ most → applyL most (ps ++ qs) [] ⟨1, 1, 1, 1⟩ = applyL most qs s r) ∧ ∀ most qs, most < s.length → applyL most (ps ++ qs) [] ⟨1, 1, 1, 1⟩ = ([], 11)
theorem tells_nil : Tells [] [] ⟨1, 1, 1, 1⟩ := ⟨fun _ _ _ => rfl, fun _ _ h => by simp at h⟩
theorem Tells.more {ps : List Pt} {s s' : List UInt8} {r r' : Rp} (h : Tells ps s r) (p : Pt) (hs : s.length ≤ s'.length) (h1 : ∀ most qs, s'.length ≤ most → applyL most (p :: qs) s r = applyL most qs s' r') (h2 : ∀ most qs, s.length ≤ most → most < s'.length → applyL most (p :: qs) s r = ([], 11)) : Tells (ps ++ [p]) s' r' := by
  refine ⟨fun most qs hm => ?_, fun most qs hm => ?_⟩
  · rw [List.append_assoc, h.1 most _ (by omega)]
    exact h1 most qs hm
  · rw [List.append_assoc]
    by_cases hl : s.length ≤ most
    · rw [h.1 most _ hl]
      exact h2 most qs hl hm
    · exact h.2 most _ (by omega)
theorem Tells.lit {ps : List Pt} {s : List UInt8} {r : Rp} (h : Tells ps s r) (b : Nat) : Tells (ps ++ [⟨1, 0, 0, b⟩]) (s ++ [UInt8.ofNat b]) r := by
  have hf : (⟨1, 0, 0, b⟩ : Pt).fit (s.length : Int) r = some (0, 1, r) := by simp [Pt.fit, Pt.plain]
  refine h.more _ (by simp) (fun most qs hm => ?_) (fun most qs hl hm => ?_)
  · simp at hm
    exact applyL_more hf (by unfold Pt.tell; rw [if_pos rfl, if_pos (by omega)])
  · simp at hm
    exact applyL_long hf (by unfold Pt.tell; rw [if_pos rfl, if_neg (by omega)])
theorem Tells.copy {ps : List Pt} {s : List UInt8} {r : Rp} (h : Tells ps s r) (d n : Nat) (h1 : 1 ≤ d) (h2 : d ≤ s.length) (h3 : d ≤ 1048576) (h4 : 2 ≤ n) (h5 : n ≤ 273) : Tells (ps ++ [⟨2, (d : Int), (n : Int), 0⟩]) (copied s d n) (r.push (d : Int)) := by
  have hlb : lenB (n : Int) = true := by unfold lenB; simp; omega
  have hf : (⟨2, (d : Int), (n : Int), 0⟩ : Pt).fit (s.length : Int) r = some ((d : Int), (n : Int), r.push (d : Int)) := by
    have hp : (⟨2, (d : Int), (n : Int), 0⟩ : Pt).plain = true := by simp [Pt.plain]
    have hc : 1 ≤ (d : Int) ∧ (d : Int) ≤ min (s.length : Int) 1048576 ∧ lenB (n : Int) = true := ⟨by omega, by omega, hlb⟩
    unfold Pt.fit
    rw [hp, if_neg (by simp)]
    simp only
    rw [if_neg (by omega), if_pos trivial, if_pos hc]
  refine h.more _ (by rw [copied_length]; omega) (fun most qs hm => ?_) (fun most qs hl hm => ?_)
  · rw [copied_length] at hm
    exact applyL_more hf (by unfold Pt.tell; simp only; rw [if_neg (by omega), if_pos (by simpa using hm)]; simp)
  · rw [copied_length] at hm
    exact applyL_long hf (by unfold Pt.tell; simp only; rw [if_neg (by omega), if_neg (by simp; omega)])
theorem Tells.end {ps : List Pt} {s : List UInt8} {r : Rp} (h : Tells ps s r) (most : Nat) : applyL most ps [] ⟨1, 1, 1, 1⟩ = if s.length ≤ most then (s, 0) else ([], 11) := by
  by_cases hl : s.length ≤ most
  · rw [if_pos hl]
    have := h.1 most [] hl
    rw [List.append_nil] at this
    exact this
  · rw [if_neg hl]
    have := h.2 most [] (by omega)
    rw [List.append_nil] at this
    exact this
/-- The cells of packets. -/
def flatP (l : List Pt) : List Value := l.flatMap fun p => [.int .i64 p.k, .int .i64 p.d, .int .i64 p.n, .int .u8 (p.b : Int)]
theorem flatP_length : ∀ l, (flatP l).length = l.length * 4
  | [] => rfl
  | x :: l => by have := flatP_length l; simp only [flatP, List.flatMap_cons, List.length_append, List.length_cons, List.length_nil] at this ⊢; omega
theorem flatP_append (l k : List Pt) : flatP (l ++ k) = flatP l ++ flatP k := by simp [flatP]
theorem flatP_at : ∀ (l : List Pt) (i : Nat) (h : i < l.length), (flatP l)[i * 4]? = some (.int .i64 l[i].k) ∧ (flatP l)[i * 4 + 1]? = some (.int .i64 l[i].d) ∧ (flatP l)[i * 4 + 2]? = some (.int .i64 l[i].n) ∧ (flatP l)[i * 4 + 3]? = some (.int .u8 (l[i].b : Int))
  | [], i, h => by simp at h
  | x :: l, 0, _ => ⟨rfl, rfl, rfl, rfl⟩
  | x :: l, i + 1, h => by
    have := flatP_at l i (by simpa using h)
    rw [show (i + 1) * 4 = i * 4 + 1 + 1 + 1 + 1 from by omega]
    exact this
/-- A slice that owns just these packets. -/
def Pts (w : World) (v : Value) (l : List Pt) : Prop := w.ownsRow 0 32 4 v l.length (flatP l)
theorem Pts.slice {w : World} {v : Value} {l : List Pt} (h : Pts w v l) (hb : ∀ p ∈ l, p.b < 256) : ∃ a cap, v = .slice a l.length cap ∧ IsPts w a l := by
  rcases h.2 with ⟨h1, h2⟩ | ⟨g, cap, cur, rfl, _, hg, hnc, hcm, hcs, htake⟩
  · exact ⟨none, 0, by rw [h1, h2], .inl (List.eq_nil_of_length_eq_zero h2)⟩
  · refine ⟨_, cap, rfl, .inr ⟨g, 0, rfl, fun i hi => ?_⟩⟩
    obtain ⟨k0, k1, k2, k3⟩ := flatP_at l i hi
    have key : ∀ j x, (flatP l)[j]? = some x → w.cell? ⟨g, j, none⟩ = some x := fun j x hx => by
      have hj : j < (flatP l).length := (List.getElem?_eq_some_iff.1 hx).1
      rw [flatP_length] at hj
      rw [World.ownsRow.cellAt h j hj]
      exact hx
    rw [Nat.zero_add]
    exact ⟨key _ _ k0, key _ _ k1, key _ _ k2, key _ _ k3, hb _ (List.getElem_mem hi)⟩
theorem Pts.nil (w : World) : Pts w (.slice none 0 0) [] := World.ownsRow_nil _ _ _ _
end Go.Proofs.Yteacmcckhjabmaa.Pk
