/-
  The document's answer for layer 7: contracts of Matches and At.
  Layer 7's statements: speaks.
  The walk of the statement ChainFinds: for every text, window and cut it returns true, and writes nothing that was there.
-/
import Derived.Test.YthdjnbhdgacmgaaGreatChainFound
import Derived.Laws.StructEq
section
namespace Go.Proofs.YthdjnbhdgacmgaaGreat.Ch
open Go.RowKit Go.Maps
open Mt
theorem three_toList {s : ByteArray} {q : Nat} (h : q + 3 ≤ s.size) : (s.extract q (q + 3)).toList = [s[q], s[q + 1], s[q + 2]] := by
  rw [ByteArray.toList_eq]
  have e : (s.extract q (q + 3)).data.toList = (s.data.toList.drop q).take 3 := by
    simp [ByteArray.data_extract]
  rw [e, List.drop_eq_getElem_cons (by simp; omega), List.drop_eq_getElem_cons (by simp; omega), List.drop_eq_getElem_cons (by simp; omega)]
  rfl
theorem three_ne {s : ByteArray} {p q : Nat} (hp : p + 3 ≤ s.size) (hq : q + 3 ≤ s.size) : ((s.extract p (p + 3)).toList == (s.extract q (q + 3)).toList) = heads (bt s) p q := by
  rw [three_toList hp, three_toList hq]
  have hb : ∀ {i j : Nat} (hi : i < s.size) (hj : j < s.size), (s[i] == s[j]) = (bt s i == bt s j) := fun {i j} hi hj => by
    rw [← bt_at hi, ← bt_at hj, Bool.eq_iff_iff, beq_iff_eq, beq_iff_eq]
    exact ⟨fun h => by rw [h], fun h => UInt8.toNat_inj.1 h⟩
  unfold heads
  rw [← hb (by omega) (by omega), ← hb (by omega) (by omega), ← hb (by omega) (by omega)]
  simp
end Go.Proofs.YthdjnbhdgacmgaaGreat.Ch
end
section
namespace Go.Proofs.YthdjnbhdgacmgaaGreat.Ch
open Go.RowKit Go.Maps
open Mt
def abc : ByteArray := ⟨#[97, 98, 99, 97, 98, 99, 100]⟩
theorem abc_size : abc.size = 7 := rfl
theorem abc_0 : foundL abc 99 9 0 = [] := by kernel_rfl
theorem abc_1 : foundL abc 99 9 1 = [] := by kernel_rfl
theorem abc_2 : foundL abc 99 9 2 = [] := by kernel_rfl
theorem abc_found : ∀ k, k < 3 → foundL abc 99 9 k = [] := by
  intro k hk
  have : k = 0 ∨ k = 1 ∨ k = 2 := by omega
  rcases this with rfl | rfl | rfl
  · exact abc_0
  · exact abc_1
  · exact abc_2
theorem abc_three : foundL abc 99 9 3 = [(3, 3)] := by kernel_rfl
/-- A finder at a place, since w; nothing that was there was written. -/
def FinOk (w0 : World) (O : Paint) (c a : Nat) (s : ByteArray) (window cut : Int) (p B : Nat) (v : Value) (w : World) : Prop := ∃ xs D, FinAt w O c a s window cut p p B v xs D ∧ Below w0.heap.size w0 w ∧ ∀ k, k < w0.heap.size → O k ≠ c
theorem FinOk.news {w0 w w' : World} {O : Paint} {c a : Nat} {s : ByteArray} {window cut : Int} {p B : Nat} {v : Value} (h : FinOk w0 O c a s window cut p B v w) (hb : Below w.heap.size w w') : FinOk w0 O c a s window cut p B v w' := by
  obtain ⟨xs, D, h1, h2, h3⟩ := h
  exact ⟨xs, D, h1.below hb, h2.trans (hb.mono h2.size), h3⟩
theorem FinOk.next {w0 w w' : World} {O : Paint} {c a : Nat} {s : ByteArray} {window cut : Int} {p p' B : Nat} {v : Value} (h : FinOk w0 O c a s window cut p B v w) {xs' : List Int} {D' : Dm} (hs : Step [c] w O w' O) (hF : FinAt w' O c a s window cut p' p' B v xs' D') : FinOk w0 O c a s window cut p' B v w' := by
  obtain ⟨xs, D, h1, h2, h3⟩ := h
  exact ⟨xs', D', hF, h2.trans (hs.below h2.size (fun k hk => by simpa using h3 k hk)), h3⟩
/-- Next, of a finder in a law. -/
def NextOk (w0 w : World) (O : Paint) (c a : Nat) (s : ByteArray) (window cut : Int) (p B : Nat) (v : Value) (x : Ending) (w' : World) : Prop :=
  ∃ v', x = .returned v' ∧ Founds 184 w w' v' (foundL s window cut p) ∧ FinOk w0 O c a s window cut (min (p + 1) s.size) B v w'
theorem next_ok {w0 w : World} {O : Paint} {c a : Nat} {s : ByteArray} {window cut : Int} {p B : Nat} {v : Value} (h : FinOk w0 O c a s window cut p B v w) (hw0 : -9223372036854775808 ≤ window) (hw1 : window ≤ 9223372036854775807) (hc1 : cut ≤ 9223372036854775807) :
    Calls Tryz.prog 98 #[.pointer (some ⟨a, 0, none⟩)] w (NextOk w0 w O c a s window cut p B v) := by
  obtain ⟨xs, D, h1, h2, h3⟩ := h
  refine (next_any h1 hw0 hw1 hc1).mono ?_
  rintro x w' ⟨v', rfl, hf, xs', D', hs, hF⟩
  exact ⟨v', rfl, hf, FinOk.next ⟨xs, D, h1, h2, h3⟩ hs hF⟩
/-- New, in a law: the finder's colour is new. -/
def NewOk (w0 w : World) (s : ByteArray) (window cut : Int) (x : Ending) (w' : World) : Prop := ∃ O c a B v, x = .returned (.pointer (some ⟨a, 0, none⟩)) ∧ FinOk w0 O c a s window cut 0 B v w' ∧ Below w.heap.size w w'
theorem new_ok {w0 w : World} (hb : Below w0.heap.size w0 w) (s : ByteArray) (window cut : Int) (hs : s.size ≤ 1000000000) :
    Calls Tryz.prog 97 #[.string s, .int .i64 window, .int .i64 cut] w (NewOk w0 w s window cut) := by
  refine (new_any s window cut w (fun _ => 0) 1 hs).mono ?_
  rintro x w' ⟨a, O', B, v, xs, D, rfl, hst, hF⟩
  have hbw : Below w.heap.size w w' := hst.below (Nat.le_refl _) (fun k _ => by simp)
  exact ⟨O', 1, a, B, v, rfl, ⟨xs, D, hF, hb.trans (hbw.mono hb.size), fun k hk => by rw [hst.ext k (Nat.lt_of_lt_of_le hk hb.size)]; decide⟩, hbw⟩
end Go.Proofs.YthdjnbhdgacmgaaGreat.Ch
end
section
namespace Go.Proofs.YthdjnbhdgacmgaaGreat.Ch
open Go.RowKit Go.Maps
open Mt
theorem Founds.small {t : TypeId} {w0 w : World} {v : Value} {l : List (Nat × Nat)} (h : Founds t w0 w v l) : l.length ≤ 9223372036854775807 := by
  rcases h.row.2 with ⟨_, h2⟩ | ⟨g, cap, cur, _, _, _, h1, h2, _⟩
  · omega
  · unfold maxLen at h2; omega
theorem Founds.cells {t : TypeId} {w0 w : World} {A : Option Addr} {n cap : Nat} {l : List (Nat × Nat)} (h : Founds t w0 w (.slice A n cap) l) (hn : 0 < l.length) : ∃ g, A = some ⟨g, 0, none⟩ ∧ ∀ i (hi : i < l.length), w.cell? ⟨g, i * 2, none⟩ = some (.int .i64 (l[i].1 : Int)) ∧ w.cell? ⟨g, i * 2 + 1, none⟩ = some (.int .i64 (l[i].2 : Int)) := by
  rcases h.form with ⟨_, rfl⟩ | ⟨g, cap', e, _⟩
  · simp at hn
  · have e' := e
    simp only [Value.slice.injEq] at e'
    obtain ⟨rfl, _, _⟩ := e'
    exact ⟨g, rfl, fun i hi => h.cell i hi⟩
theorem ret_bool {a b : Bool} (h : a = b) : Ending.returned (.bool a) = .returned (.bool b) := by rw [h]
theorem FinOk.below {w0 w : World} {O : Paint} {c a : Nat} {s : ByteArray} {window cut : Int} {p B : Nat} {v : Value} (h : FinOk w0 O c a s window cut p B v w) : Below w0.heap.size w0 w := by
  obtain ⟨_, _, _, hb, _⟩ := h
  exact hb
end Go.Proofs.YthdjnbhdgacmgaaGreat.Ch
end
