/-
  The walk of the statement WindowTurns: for every text, distance and number it returns true, and writes nothing that was there.
-/
import Derived.Test.YteacmcckhjabmaaWin
namespace Go.Proofs.Yteacmcckhjabmaa.Wnd
open Go.RowKit
theorem copied_keep (l : List UInt8) (d m n j : Nat) (h : m ≤ n) (hj : j < l.length + m) : (copied l d n)[j]? = (copied l d m)[j]? := by
  induction n with
  | zero => rw [show m = 0 from by omega]
  | succ n ih =>
    by_cases e : m = n + 1
    · rw [e]
    · rw [copied, List.getElem?_append_left (by rw [copied_length]; omega)]
      exact ih (by omega)
theorem copied_turns (l : List UInt8) (d n i : Nat) (h1 : 1 ≤ d) (h2 : d ≤ l.length) (hi : l.length ≤ i) (hn : i < l.length + n) : (copied l d n)[i]? = (copied l d n)[i - d]? := by
  obtain ⟨m, rfl⟩ : ∃ m, i = l.length + m := ⟨i - l.length, by omega⟩
  have hl := copied_length l d m
  rw [copied_keep l d (m + 1) n _ (by omega) (by omega), copied_keep l d m n _ (by omega) (by omega), copied, List.getElem?_append_right (by omega), hl]
  have hlt : l.length + m - d < (copied l d m).length := by omega
  simp [List.getD, hlt]
theorem copied_head (l : List UInt8) (d n : Nat) : (copied l d n).take l.length = l := by
  apply List.ext_getElem?
  intro j
  by_cases h : j < l.length
  · rw [List.getElem?_take_of_lt h, copied_keep l d 0 n j (by omega) (by omega)]; rfl
  · rw [List.getElem?_eq_none (by simp; omega), List.getElem?_eq_none (by omega)]
theorem take_snoc (s : ByteArray) (k : Nat) (h : k < s.size) : s.data.toList.take (k + 1) = s.data.toList.take k ++ [s[k]] := by
  rw [List.take_succ_eq_append_getElem (by simpa using h)]; rfl
theorem below_all {w w1 W w' : World} {B most : Nat} {l : List UInt8} {o : Obj} (h : Below w.heap.size w w1) (hB : w1.heap.size = B) (hW : w1.alloc o = W) (hG : Grew W B most (.slice none 0 0) l w') : Below w.heap.size w w' := by
  subst hB hW
  exact h.trans (hG.fresh.mono h.size)
end Go.Proofs.Yteacmcckhjabmaa.Wnd
namespace Go.Proofs.Yteacmcckhjabmaa.Wnd
open Go.RowKit
end Go.Proofs.Yteacmcckhjabmaa.Wnd
