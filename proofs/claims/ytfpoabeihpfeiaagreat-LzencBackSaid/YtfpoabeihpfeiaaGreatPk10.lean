/-
  A list of packets that is kept, and belongs to a colour.
-/
import Derived.Test.YtfpoabeihpfeiaaGreatPk01
import Derived.Test.YtfpoabeihpfeiaaGreatPk09

set_option maxRecDepth 100000
set_option maxHeartbeats 16000000
set_option linter.unusedVariables false
set_option linter.unusedSimpArgs false
namespace Go.Proofs.YtfpoabeihpfeiaaGreat.Mo
open Go.RowKit
open Rc
open Pk (Rp Pt four)
open Pl (flatP)
structure HeldP (w : World) (O : Paint) (c : Nat) (v : Value) (l : List Pt) : Prop where
 row : w.ownsRow 0 37 4 v l.length (flatP l)
 paint : ∀ k, v.ownBlock = some k -> O k = c
theorem HeldP.nil (w : World) (O : Paint) (c : Nat) : HeldP w O c (.slice none 0 0) [] := ⟨World.ownsRow_nil _ _ _ _, fun k hk => by simp [Value.ownBlock] at hk⟩
section
variable {cs : List Nat} {w w' : World} {O O' : Paint} {c : Nat} {v : Value} {l : List Pt}
theorem HeldP.lt (h : HeldP w O c v l) {k : Nat} (hk : v.ownBlock = some k) : k < w.heap.size := ownsRow_lt h.row k hk
theorem HeldP.step (h : HeldP w O c v l) (hs : Step cs w O w' O') (hc : c ∉ cs) : HeldP w' O' c v l :=
 ⟨ownsRow_frame h.row hs.frame (fun k hk ho => hc (by rw [h.paint k hk] at ho; exact ho)), fun k hk => (hs.ext k (h.lt hk)).trans (h.paint k hk)⟩
theorem HeldP.slice (h : HeldP w O c v l) : ∃ A p, v = .slice A l.length p := by
 rcases h.row.2 with ⟨e1, e2⟩ | ⟨g, p, cur, e1, _⟩
 · exact ⟨none, 0, by rw [e1, e2]⟩
 · exact ⟨_, p, e1⟩
theorem HeldP.more {o : Obj} {g n cap : Nat} {p : Pt} (h : HeldP w O c v l) (hn : l.length = n) (hr : w'.ownsRow 0 37 4 (.slice (some ⟨g, 0, none⟩) (n + 1) cap) (n + 1) (flatP l ++ [.int .i64 p.k, .int .i64 p.d, .int .i64 p.n, .int .u8 p.b])) (hg : (w.alloc o).grownBy w' v.ownBlock) (hm : Moved (w.alloc o) v (.slice (some ⟨g, 0, none⟩) (n + 1) cap)) :
  Step [c] w O w' (Step.paint O w c) /\ HeldP w' (Step.paint O w c) c (.slice (some ⟨g, 0, none⟩) (n + 1) cap) (l ++ [p]) := by
 have s1 : Step [c] w O w' (Step.paint O w c) := ((((Step.refl [c] w O).alloc o).grown hg (fun k hk => by
  left; simp; exact h.paint k hk))).repaint c
 refine ⟨s1, ⟨?_, fun k hk => ?_⟩⟩
 · rw [Pl.flatP_append, List.length_append, hn]
   exact hr
 · rcases hm with e1 | e1
   · rw [e1] at hk
     rw [Step.paint_old (h.lt hk)]; exact h.paint k hk
   · have := e1 k hk
     rw [World.size_alloc] at this
     exact Step.paint_new (by omega)
theorem HeldP.pts (h : HeldP w O c v l) (hb : ∀ p ∈ l, p.b < 256) : ∃ a cap, v = .slice a l.length cap /\ Pk.IsPts w a l := Pl.PtsT.slice h.row hb
end
end Go.Proofs.YtfpoabeihpfeiaaGreat.Mo
