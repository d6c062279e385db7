/-
  Layer 7's statements: speaks.
-/
import Derived.Test.YthdjnbhdgacmgaaChainRef
namespace Go.Proofs.Ythdjnbhdgacmgaa.Ch
open Go.RowKit Go.Maps
open Mt
def abc : ByteArray := ⟨#[97, 98, 99, 97, 98, 99, 100]⟩
theorem abc_size : abc.size = 7 := rfl
theorem abc_0 : foundL abc 99 9 0 = [] := by kernel_rfl
theorem abc_1 : foundL abc 99 9 1 = [] := by kernel_rfl
theorem abc_2 : foundL abc 99 9 2 = [] := by kernel_rfl
theorem abc_found : ∀ k, k < 3 → foundL abc 99 9 k = [] := by
  intro k hk
  have : k = 0 ∨ k = 1 ∨ k = 2 := by omega
  rcases this with rfl | rfl | rfl
  · exact abc_0
  · exact abc_1
  · exact abc_2
theorem abc_three : foundL abc 99 9 3 = [(3, 3)] := by kernel_rfl
/-- A finder at a place, since w; nothing that was there was written. -/
def FinOk (w0 : World) (O : Paint) (c a : Nat) (s : ByteArray) (window cut : Int) (p B : Nat) (v : Value) (w : World) : Prop := ∃ xs D, FinAt w O c a s window cut p p B v xs D ∧ Below w0.heap.size w0 w ∧ ∀ k, k < w0.heap.size → O k ≠ c
theorem FinOk.news {w0 w w' : World} {O : Paint} {c a : Nat} {s : ByteArray} {window cut : Int} {p B : Nat} {v : Value} (h : FinOk w0 O c a s window cut p B v w) (hb : Below w.heap.size w w') : FinOk w0 O c a s window cut p B v w' := by
  obtain ⟨xs, D, h1, h2, h3⟩ := h
  exact ⟨xs, D, h1.below hb, h2.trans (hb.mono h2.size), h3⟩
theorem FinOk.next {w0 w w' : World} {O : Paint} {c a : Nat} {s : ByteArray} {window cut : Int} {p p' B : Nat} {v : Value} (h : FinOk w0 O c a s window cut p B v w) {xs' : List Int} {D' : Dm} (hs : Step [c] w O w' O) (hF : FinAt w' O c a s window cut p' p' B v xs' D') : FinOk w0 O c a s window cut p' B v w' := by
  obtain ⟨xs, D, h1, h2, h3⟩ := h
  exact ⟨xs', D', hF, h2.trans (hs.below h2.size (fun k hk => by simpa using h3 k hk)), h3⟩
/-- Next, of a finder in a law. -/
def NextOk (w0 w : World) (O : Paint) (c a : Nat) (s : ByteArray) (window cut : Int) (p B : Nat) (v : Value) (x : Ending) (w' : World) : Prop :=
  ∃ v', x = .returned v' ∧ Founds 145 w w' v' (foundL s window cut p) ∧ FinOk w0 O c a s window cut (min (p + 1) s.size) B v w'
theorem next_ok {w0 w : World} {O : Paint} {c a : Nat} {s : ByteArray} {window cut : Int} {p B : Nat} {v : Value} (h : FinOk w0 O c a s window cut p B v w) (hw0 : -9223372036854775808 ≤ window) (hw1 : window ≤ 9223372036854775807) (hc1 : cut ≤ 9223372036854775807) :
    Calls Try.prog 75 #[.pointer (some ⟨a, 0, none⟩)] w (NextOk w0 w O c a s window cut p B v) := by
  obtain ⟨xs, D, h1, h2, h3⟩ := h
  refine (next_any h1 hw0 hw1 hc1).mono ?_
  rintro x w' ⟨v', rfl, hf, xs', D', hs, hF⟩
  exact ⟨v', rfl, hf, FinOk.next ⟨xs, D, h1, h2, h3⟩ hs hF⟩
/-- New, in a law: the finder's colour is new. -/
def NewOk (w0 w : World) (s : ByteArray) (window cut : Int) (x : Ending) (w' : World) : Prop := ∃ O c a B v, x = .returned (.pointer (some ⟨a, 0, none⟩)) ∧ FinOk w0 O c a s window cut 0 B v w' ∧ Below w.heap.size w w'
theorem new_ok {w0 w : World} (hb : Below w0.heap.size w0 w) (s : ByteArray) (window cut : Int) (hs : s.size ≤ 1000000000) :
    Calls Try.prog 74 #[.string s, .int .i64 window, .int .i64 cut] w (NewOk w0 w s window cut) := by
  refine (new_any s window cut w (fun _ => 0) 1 hs).mono ?_
  rintro x w' ⟨a, O', B, v, xs, D, rfl, hst, hF⟩
  have hbw : Below w.heap.size w w' := hst.below (Nat.le_refl _) (fun k _ => by simp)
  exact ⟨O', 1, a, B, v, rfl, ⟨xs, D, hF, hb.trans (hbw.mono hb.size), fun k hk => by rw [hst.ext k (Nat.lt_of_lt_of_le hk hb.size)]; decide⟩, hbw⟩
end Go.Proofs.Ythdjnbhdgacmgaa.Ch
