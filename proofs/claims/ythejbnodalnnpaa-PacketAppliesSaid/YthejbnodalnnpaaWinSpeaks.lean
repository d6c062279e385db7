/-
  The first lines of the statements of layer 2 (a window of nine bytes that copies itself): they answer true, and write nothing that was there.
-/
import Derived.Test.YthejbnodalnnpaaWinCopy
namespace Go.Proofs.Ythejbnodalnnpaa.Wnd
open Go.RowKit
theorem put_of {w : World} {b : Nat} {v : Value} {most : Nat} {l : List UInt8} (h : Win w b v most l) (hl : l.length < most) (hm : most ≤ 9223372036854775807) (hs : l.length < 1099511627776) (x : UInt8) (n : Int) (hn : n = (x.toNat : Int)) :
    Calls Try.prog 94 #[.pointer (some ⟨b, 0, none⟩), .int .u8 n] w fun e w' => e = .returned (.bool true) ∧ Grew w b most v (l ++ [x]) w' := by
  subst hn; exact put_yes h hl hm hs x
theorem copy_of {w : World} {b : Nat} {v : Value} {most : Nat} {l : List UInt8} (h : Win w b v most l) (d n : Nat) (di ni : Int) (hd : di = d) (hn : ni = n) (h1 : 1 ≤ d) (h2 : d ≤ l.length) (h3 : l.length + n ≤ most) (hm : most ≤ 9223372036854775807) (hs : l.length + n ≤ 1099511627776) :
    Calls Try.prog 95 #[.pointer (some ⟨b, 0, none⟩), .int .i64 di, .int .i64 ni] w fun e w' => e = .returned (.bool true) ∧ Grew w b most v (copied l d n) w' := by
  subst hd hn; exact copy_yes h d n h1 h2 h3 hm hs
/-- A window that was new in w. -/
theorem Grew.fresh {w w' : World} {most : Nat} {l : List UInt8} {o : Obj} (h : Grew (w.alloc o) w.heap.size most (.slice none 0 0) l w') : Below w.heap.size w w' := by
  obtain ⟨_, _, hF, _⟩ := h
  refine (((Below.refl _ _).alloc (Nat.le_refl _) o)).trans (hF.below (by rw [World.size_alloc]; omega) fun k hk ho => ?_)
  rcases ho with ho | ho
  · omega
  · simp [Value.ownBlock] at ho
end Go.Proofs.Ythejbnodalnnpaa.Wnd
