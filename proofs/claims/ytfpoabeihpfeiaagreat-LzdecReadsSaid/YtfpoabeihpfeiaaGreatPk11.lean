/-
  Package model: lengths as bits, put and got: contracts of lengths.code.
  Package model: what a model is in memory ('ModAt').
-/
import Derived.Test.YtfpoabeihpfeiaaGreatPk07
import Derived.Test.YtfpoabeihpfeiaaGreatPk08
import Derived.Test.YtfpoabeihpfeiaaGreatPk09
import Derived.Test.YtfpoabeihpfeiaaGreatPk10
import Derived.Deep.RegionHeld3
import Derived.BigRegion
import Derived.StillTailTactics
section
set_option linter.unusedVariables false
namespace Go.Proofs.YtfpoabeihpfeiaaGreat.Mo
open Go.RowKit
open Rc
section
variable {w : World} {O : Paint} {c cm a tot k gb cap nb : Nat} {tb : Nat → Nat → Nat} {s : Es} {d : Ds}
theorem len_enc {u : Nat} (hu : u ≤ 1) (h : EncS w O c cm a k gb cap nb tb s) (ht : s.e.turns ≤ 800000) (P n : Nat) (hP : P < 16) (hn : n ≤ 271) :
  Calls Tryz.prog 75 #[.pointer (some ⟨k, 433 + 35 * u, none⟩), .iface 114 (.agg #[.pointer (some ⟨a, 0, none⟩)]), .int .i64 (P : Int), .int .i64 ((n : Int) + 2)] w (EncTo w O c cm a k gb cap nb tb (s.len u P n) (.int .i64 ((n : Int) + 2))) := by
 have hu' : u = 0 ∨ u = 1 := by omega
 rcases hu' with rfl | rfl
 · by_cases h8 : n < 8
   · exact len_enc0A h ht P n hP hn h8
   · by_cases h16 : n < 16
     · exact len_enc0B h ht P n hP hn h8 h16
     · exact len_enc0C h ht P n hP hn h8 h16
 · by_cases h8 : n < 8
   · exact len_enc1A h ht P n hP hn h8
   · by_cases h16 : n < 16
     · exact len_enc1B h ht P n hP hn h8 h16
     · exact len_enc1C h ht P n hP hn h8 h16
theorem len_dec {u : Nat} (hu : u ≤ 1) (h : DecS w O c cm a tot k gb cap nb tb d) (P : Nat) (hP : P < 16) :
  Calls Tryz.prog 75 #[.pointer (some ⟨k, 433 + 35 * u, none⟩), .iface 193 (.agg #[.pointer (some ⟨a, 0, none⟩)]), .int .i64 (P : Int), .int .i64 0] w (DecTo w O c cm a tot k gb cap nb tb (d.len u P) (.int .i64 ((d.lenV u P : Int) + 2))) := by
 have hu' : u = 0 ∨ u = 1 := by omega
 rcases hu' with rfl | rfl
 · have hb1 := d.bit_le 200 0 0
   have hb2 := (d.one 200 0 0).bit_le 200 1 0
   by_cases h1 : d.bit 200 0 0 = 0
   · exact len_dec0A h P hP h1
   · by_cases h2 : (d.one 200 0 0).bit 200 1 0 = 0
     · exact len_dec0B h P hP (by omega) h2
     · exact len_dec0C h P hP (by omega) (by omega)
 · have hb1 := d.bit_le 201 0 0
   have hb2 := (d.one 201 0 0).bit_le 201 1 0
   by_cases h1 : d.bit 201 0 0 = 0
   · exact len_dec1A h P hP h1
   · by_cases h2 : (d.one 201 0 0).bit 201 1 0 = 0
     · exact len_dec1B h P hP (by omega) h2
     · exact len_dec1C h P hP (by omega) (by omega)
end
end Go.Proofs.YtfpoabeihpfeiaaGreat.Mo
end
section
set_option linter.unusedVariables false
namespace Go.Proofs.YtfpoabeihpfeiaaGreat.Mo
open Go.RowKit
open Rc
open Pk (Rp)
open Wnd (Win)
structure ModAt (w : World) (O : Paint) (cw mo wb : Nat) (v : Value) (lc lp pb : Nat) (most : Int) (wm : Nat) (l : List UInt8) (r : Rp) (st k : Nat) : Prop where
 blk : Blk w O cw mo (.cells #[.int .i64 (lc : Int), .int .i64 (lp : Int), .int .i64 (pb : Int), .int .i64 most, .pointer (some ⟨wb, 0, none⟩), .int .i64 r.a, .int .i64 r.b, .int .i64 r.c, .int .i64 r.d, .int .i64 (st : Int), .pointer (some ⟨k, 0, none⟩)] 98 (0, 0))
 win : Win w wb v wm l
 wO : O wb = cw ∧ ∀ j, v.ownBlock = some j → O j = cw ∧ j < w.heap.size
 st12 : st < 12
section
variable {cs : List Nat} {w w' : World} {O O' : Paint} {cw mo wb : Nat} {v : Value} {lc lp pb wm st k : Nat} {most : Int} {l : List UInt8} {r : Rp}
theorem ModAt.step (h : ModAt w O cw mo wb v lc lp pb most wm l r st k) (hs : Step cs w O w' O') (hc : cw ∉ cs) : ModAt w' O' cw mo wb v lc lp pb most wm l r st k := by
 obtain ⟨o1, o2⟩ := h.wO
 refine ⟨h.blk.step hs hc, h.win.frame hs.frame (fun j hj hm => ?_), ⟨(hs.ext wb h.win.lt).trans o1, fun j hj => ⟨(hs.ext j (o2 j hj).2).trans (o2 j hj).1, Nat.lt_of_lt_of_le (o2 j hj).2 hs.size⟩⟩, h.st12⟩
 rcases hj with rfl | hj
 · rw [o1] at hm; exact hc hm
 · rw [(o2 j hj).1] at hm; exact hc hm
theorem ModAt.below (h : ModAt w O cw mo wb v lc lp pb most wm l r st k) (hb : Below w.heap.size w w') : ModAt w' O cw mo wb v lc lp pb most wm l r st k := h.step (Step.of_below_same hb O) (by simp)
theorem ModAt.drewN (h : ModAt w O cw mo wb v lc lp pb most wm l r st k) (n : Nat) : ModAt (w.drewN n) O cw mo wb v lc lp pb most wm l r st k := h.step ((Step.refl [] w O).drewN n) (by simp)
theorem eleven {w : World} {X : Nat} {a b c d e f g h i j m : Value} {t : TypeId} (hh : w.heap[X]? = some (.cells #[a, b, c, d, e, f, g, h, i, j, m] t (0, 0))) :
  w.cell? ⟨X, 0, none⟩ = some a ∧ w.cell? ⟨X, 1, none⟩ = some b ∧ w.cell? ⟨X, 2, none⟩ = some c ∧ w.cell? ⟨X, 3, none⟩ = some d ∧ w.cell? ⟨X, 4, none⟩ = some e ∧ w.cell? ⟨X, 5, none⟩ = some f ∧ w.cell? ⟨X, 6, none⟩ = some g ∧ w.cell? ⟨X, 7, none⟩ = some h ∧ w.cell? ⟨X, 8, none⟩ = some i ∧ w.cell? ⟨X, 9, none⟩ = some j ∧ w.cell? ⟨X, 10, none⟩ = some m := by
 refine ⟨?_, ?_, ?_, ?_, ?_, ?_, ?_, ?_, ?_, ?_, ?_⟩ <;> simp [World.cell?, hh]
theorem ModAt.cells (h : ModAt w O cw mo wb v lc lp pb most wm l r st k) : w.cell? ⟨mo, 0, none⟩ = some (.int .i64 (lc : Int)) ∧ w.cell? ⟨mo, 1, none⟩ = some (.int .i64 (lp : Int)) ∧ w.cell? ⟨mo, 2, none⟩ = some (.int .i64 (pb : Int)) ∧ w.cell? ⟨mo, 3, none⟩ = some (.int .i64 most) ∧
  w.cell? ⟨mo, 4, none⟩ = some (.pointer (some ⟨wb, 0, none⟩)) ∧ w.cell? ⟨mo, 5, none⟩ = some (.int .i64 r.a) ∧ w.cell? ⟨mo, 6, none⟩ = some (.int .i64 r.b) ∧ w.cell? ⟨mo, 7, none⟩ = some (.int .i64 r.c) ∧ w.cell? ⟨mo, 8, none⟩ = some (.int .i64 r.d) ∧
  w.cell? ⟨mo, 9, none⟩ = some (.int .i64 (st : Int)) ∧ w.cell? ⟨mo, 10, none⟩ = some (.pointer (some ⟨k, 0, none⟩)) := eleven h.blk.1
end
end Go.Proofs.YtfpoabeihpfeiaaGreat.Mo
end
