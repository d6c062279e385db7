/-
  Package greedy: the contract of Parse.
-/
import Derived.Test.YteacmcckhjabmaaPiece
import Derived.Test.YteacmcckhjabmaaHeldP
import Derived.Test.YteacmcckhjabmaaPackRepeatNil
import Derived.Deep.RegionHeld3
import Derived.StillTailTactics
set_option linter.unusedVariables false
namespace Go.Proofs.Yteacmcckhjabmaa.Gr
open Go.RowKit
open Mt
open Ch (foundL bt bt_at bt_lt)
open Pk (Rp Pt IsPts repL)
open Mo (HeldP)
section
variable {cs : List Nat} {w0 w w' : World} {O O' : Paint} {F p : Nat} {s : ByteArray} {window cut : Int} {v : Value} {l : List Pt}
end
/-- A list of packets was handed back. -/
def Told (w : World) (qs : List Pt) (x : Ending) (w' : World) : Prop := ∃ Z, x = .returned (.slice (some ⟨Z, 0, none⟩) qs.length qs.length) ∧ Below w.heap.size w w' ∧ IsPts w' (some ⟨Z, 0, none⟩) qs
theorem again_any {w0 w : World} {a : Option Addr} {ps : List Pt} {cap : Nat} (hb0 : Below w0.heap.size w0 w) (h : IsPts w a ps) (hl : ps.length ≤ 1000) (hb : ∀ p ∈ repL ps 0 ⟨1, 1, 1, 1⟩ ⟨1, 1, 1, 1⟩, p.b < 256) (hlen : (repL ps 0 ⟨1, 1, 1, 1⟩ ⟨1, 1, 1, 1⟩).length = ps.length) :
    Calls Try.prog 44 #[.slice a ps.length cap] w (Told w0 (repL ps 0 ⟨1, 1, 1, 1⟩ ⟨1, 1, 1, 1⟩)) := by
  by_cases hn : 0 < ps.length
  · rcases h with h | ⟨b, off, rfl, h⟩
    · rw [h] at hn; simp at hn
    · refine (Pk.repeat_more h hn hl cap).mono fun x w' ⟨Z, hx, hb', _, arr, g1, g2, g3⟩ => ⟨Z, by rw [hlen]; exact hx, hb0.trans (hb'.mono hb0.size), .inr ⟨Z, 0, rfl, fun i hi => ?_⟩⟩
      obtain ⟨q0, q1, q2, q3⟩ := g3 i hi
      refine ⟨?_, ?_, ?_, ?_, hb _ (List.getElem_mem hi)⟩
      · simp only [World.cell?, g1, Nat.zero_add]; exact q0
      · simp only [World.cell?, g1, Nat.zero_add]; exact q1
      · simp only [World.cell?, g1, Nat.zero_add]; exact q2
      · simp only [World.cell?, g1, Nat.zero_add]; exact q3
  · obtain rfl : ps = [] := by cases ps <;> simp_all
    exact (Pk.repeat_nil a cap w).mono fun x w' ⟨Z, hx, hb', _⟩ => ⟨Z, hx, hb0.trans (hb'.mono hb0.size), .inl rfl⟩
/-- What the pieces are told as. -/
def told (s : ByteArray) (c : Nat → Nat × Nat) : List Pt := repL (parse s c 0) 0 ⟨1, 1, 1, 1⟩ ⟨1, 1, 1, 1⟩
theorem told_facts {s : ByteArray} {c : Nat → Nat × Nat} (hc : ∀ p, OkPiece s p (c p)) (hs : s.size ≤ 1048576) : told s c = Pk.rrep (parse s c 0) ⟨1, 1, 1, 1⟩ ⟨1, 1, 1, 1⟩ ∧ (told s c).length = (parse s c 0).length ∧ ∀ p ∈ told s c, p.b < 256 := by
  have h := (parse_rep hc hs).1
  refine ⟨h, ?_, ?_⟩
  · unfold told; rw [h, Pk.rrep_length]
  · unfold told; rw [h]; exact Pk.rrep_bytes _ _ _ (parse_bytes s c 0)
end Go.Proofs.Yteacmcckhjabmaa.Gr
