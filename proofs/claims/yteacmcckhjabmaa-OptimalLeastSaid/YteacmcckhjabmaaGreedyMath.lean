/-
  Plain mathematics of layers 13 and 14: a text in pieces; its pieces tell it.
-/
import Derived.Test.YteacmcckhjabmaaChainFound
import Derived.Test.YteacmcckhjabmaaPackTells
import Derived.Test.YteacmcckhjabmaaPackRepMath
namespace Go.Proofs.Yteacmcckhjabmaa.Gr
open Go.RowKit
open Mt
open Ch (foundL foundL_none foundL_rising bt bt_at bt_lt Rising.at)
open Pk (Rp Pt Tells applyL tells_nil rep_same repL rrep)
open Wnd (copied copied_length take_snoc)
/-- The longest match at a place: how many bytes, how far back; (0, 0), where there is none. -/
def best (s : ByteArray) (window cut : Int) (p : Nat) : Nat × Nat := ((foundL s window cut p).getLast?).getD (0, 0)
theorem best_none {s : ByteArray} {window cut : Int} {p : Nat} (h : foundL s window cut p = []) : best s window cut p = (0, 0) := by unfold best; rw [h]; rfl
theorem best_last {s : ByteArray} {window cut : Int} {p n : Nat} (h : (foundL s window cut p).length = n + 1) : best s window cut p = (foundL s window cut p)[n] := by
  unfold best
  rw [List.getLast?_eq_getElem?, show (foundL s window cut p).length - 1 = n from by omega, List.getElem?_eq_getElem (by omega)]
  rfl
/-- A piece of s at p that may be. -/
def OkPiece (s : ByteArray) (p : Nat) (x : Nat × Nat) : Prop := x = (0, 0) ∨ (3 ≤ x.1 ∧ x.1 ≤ 273 ∧ p + x.1 ≤ s.size ∧ 1 ≤ x.2 ∧ x.2 ≤ p ∧ ∀ j, j < x.1 → bt s (p + j) = bt s (p + j - x.2))
theorem best_ok (s : ByteArray) (window cut : Int) (p : Nat) : OkPiece s p (best s window cut p) := by
  cases hl : (foundL s window cut p).length with
  | zero => exact .inl (best_none (List.eq_nil_of_length_eq_zero hl))
  | succ n =>
    right
    rw [best_last hl]
    obtain ⟨h1, h2, h3, h4, _, h6, _⟩ := Rising.at (foundL_rising s window cut p) n (by omega)
    exact ⟨by omega, by omega, by omega, by omega, h4, h6⟩
/-- Beyond the place itself no window counts. -/
theorem refL_min (b : Nat → Nat) (p most : Nat) (ok : Bool) (window cut M : Int) (h : (p : Int) ≤ M) : ∀ (x best seen : Nat), refL b p most ok (min window M) cut x best seen = refL b p most ok window cut x best seen
  | 0, _, _ => rfl
  | x + 1, best, seen => by
    have i := refL_min b p most ok window cut M h x
    have e : (((p - x : Nat) : Int) ≤ min window M ∧ (seen : Int) < cut) = (((p - x : Nat) : Int) ≤ window ∧ (seen : Int) < cut) := by
      apply propext
      constructor
      · rintro ⟨a, c⟩; exact ⟨by omega, c⟩
      · rintro ⟨a, c⟩; exact ⟨by omega, c⟩
    rw [refL, refL]
    simp only [e, i]
theorem foundL_min (s : ByteArray) (window cut M : Int) (p : Nat) (h : (p : Int) ≤ M) : foundL s (min window M) cut p = foundL s window cut p := by
  unfold foundL
  exact refL_min _ _ _ _ _ _ _ h _ _ _
/-- The packet of a piece. -/
def pkt (s : ByteArray) (p : Nat) (x : Nat × Nat) : Pt := if x = (0, 0) then ⟨1, 0, 0, bt s p⟩ else ⟨2, (x.2 : Int), (x.1 : Int), 0⟩
def size1 (x : Nat × Nat) : Nat := if x = (0, 0) then 1 else x.1
theorem size1_pos {s : ByteArray} {p : Nat} {x : Nat × Nat} (h : OkPiece s p x) : 1 ≤ size1 x := by
  unfold size1
  rcases h with h | h
  · rw [if_pos h]; omega
  · split <;> omega
theorem size1_le {s : ByteArray} {p : Nat} {x : Nat × Nat} (hp : p < s.size) (h : OkPiece s p x) : p + size1 x ≤ s.size := by
  unfold size1
  rcases h with h | h
  · rw [if_pos h]; omega
  · split <;> omega
/-- The pieces from p on, by a choice; k: at most so many. -/
def parseK (s : ByteArray) (c : Nat → Nat × Nat) : Nat → Nat → List Pt
  | 0, _ => []
  | k + 1, p => if p < s.size then pkt s p (c p) :: parseK s c k (p + size1 (c p)) else []
def parse (s : ByteArray) (c : Nat → Nat × Nat) (p : Nat) : List Pt := parseK s c (s.size - p) p
theorem parseK_enough {s : ByteArray} {c : Nat → Nat × Nat} (hc : ∀ p, OkPiece s p (c p)) : ∀ (k m p : Nat), s.size - p ≤ k → s.size - p ≤ m → parseK s c k p = parseK s c m p
  | 0, 0, _, _, _ => rfl
  | 0, m + 1, p, h, _ => by rw [parseK, parseK, if_neg (by omega)]
  | k + 1, 0, p, _, h => by rw [parseK, parseK, if_neg (by omega)]
  | k + 1, m + 1, p, h1, h2 => by
    rw [parseK, parseK]
    split
    · have := size1_pos (hc p)
      rw [parseK_enough hc k m _ (by omega) (by omega)]
    · rfl
theorem parse_more {s : ByteArray} {c : Nat → Nat × Nat} (hc : ∀ p, OkPiece s p (c p)) {p : Nat} (hp : p < s.size) : parse s c p = pkt s p (c p) :: parse s c (p + size1 (c p)) := by
  have := size1_pos (hc p)
  unfold parse
  obtain ⟨k, hk⟩ : ∃ k, s.size - p = k + 1 := ⟨s.size - p - 1, by omega⟩
  rw [hk, parseK, if_pos hp, parseK_enough hc k (s.size - (p + size1 (c p))) _ (by omega) (by omega)]
theorem parse_end {s : ByteArray} {c : Nat → Nat × Nat} {p : Nat} (hp : s.size ≤ p) : parse s c p = [] := by
  unfold parse
  rw [show s.size - p = 0 from by omega, parseK]
theorem pkt_byte (s : ByteArray) (p : Nat) (x : Nat × Nat) : (pkt s p x).b < 256 := by
  unfold pkt
  split
  · exact bt_lt _ _
  · simp
theorem parseK_bytes (s : ByteArray) (c : Nat → Nat × Nat) : ∀ (k p : Nat), ∀ q ∈ parseK s c k p, q.b < 256
  | 0, _, q, h => by simp [parseK] at h
  | k + 1, p, q, h => by
    rw [parseK] at h
    split at h
    · rcases List.mem_cons.1 h with rfl | h
      · exact pkt_byte _ _ _
      · exact parseK_bytes s c k _ q h
    · simp at h
theorem parse_bytes (s : ByteArray) (c : Nat → Nat × Nat) (p : Nat) : ∀ q ∈ parse s c p, q.b < 256 := parseK_bytes s c _ p
theorem parseK_length (s : ByteArray) (c : Nat → Nat × Nat) : ∀ (k p : Nat), (parseK s c k p).length ≤ k
  | 0, _ => by simp [parseK]
  | k + 1, p => by
    rw [parseK]
    split
    · have := parseK_length s c k (p + size1 (c p)); simp only [List.length_cons]; omega
    · simp
theorem parse_length (s : ByteArray) (c : Nat → Nat × Nat) (p : Nat) : (parse s c p).length ≤ s.size - p := parseK_length s c _ p
theorem copied_take {s : ByteArray} {p d : Nat} (h1 : 1 ≤ d) (h2 : d ≤ p) : ∀ (n : Nat), p + n ≤ s.size → (∀ j, j < n → bt s (p + j) = bt s (p + j - d)) → copied (s.data.toList.take p) d n = s.data.toList.take (p + n)
  | 0, _, _ => rfl
  | n + 1, hn, h => by
    have ih := copied_take h1 h2 n (by omega) (fun j hj => h j (by omega))
    have hsz : s.data.toList.length = s.size := by rw [Array.length_toList]; rfl
    rw [copied, ih, List.length_take, hsz, show min (p + n) s.size = p + n from by omega, show p + (n + 1) = p + n + 1 from rfl, take_snoc s (p + n) (by omega)]
    congr 2
    have hb := h n (by omega)
    rw [← bt_at (show p + n < s.size by omega), ← bt_at (show p + n - d < s.size by omega)] at hb
    have hb' : s[p + n] = s[p + n - d] := UInt8.toNat_inj.1 hb
    rw [hb', List.getD_eq_getElem?_getD, List.getElem?_take_of_lt (by omega), List.getElem?_eq_getElem (by omega)]
    rfl
theorem tells_parse {s : ByteArray} {c : Nat → Nat × Nat} (hc : ∀ p, OkPiece s p (c p)) (hs : s.size ≤ 1048576) : ∀ (k p : Nat) (ps : List Pt) (r : Rp), s.size - p ≤ k → p ≤ s.size → Tells ps (s.data.toList.take p) r → ∃ r', Tells (ps ++ parseK s c k p) s.data.toList r'
  | 0, p, ps, r, h, hp, ht => by
    have hsz : s.data.toList.length = s.size := by rw [Array.length_toList]; rfl
    rw [parseK, List.append_nil]
    rw [List.take_of_length_le (by omega)] at ht
    exact ⟨r, ht⟩
  | k + 1, p, ps, r, h, hp, ht => by
    have hsz : s.data.toList.length = s.size := by rw [Array.length_toList]; rfl
    rw [parseK]
    split
    · rename_i hlt
      have h1 := size1_pos (hc p)
      have h2 := size1_le hlt (hc p)
      rw [show ps ++ pkt s p (c p) :: parseK s c k (p + size1 (c p)) = (ps ++ [pkt s p (c p)]) ++ parseK s c k (p + size1 (c p)) from by simp]
      suffices hh : ∃ r', Tells (ps ++ [pkt s p (c p)]) (s.data.toList.take (p + size1 (c p))) r' by
        obtain ⟨r', hh⟩ := hh
        exact tells_parse hc hs k _ _ r' (by omega) h2 hh
      rcases hc p with h0 | ⟨a1, a2, a3, a4, a5, a6⟩
      · refine ⟨r, ?_⟩
        unfold pkt size1
        rw [if_pos h0, if_pos h0, take_snoc s p hlt]
        have := ht.lit (bt s p)
        rw [← bt_at hlt, UInt8.ofNat_toNat, bt_at hlt] at this
        exact this
      · have hne : c p ≠ (0, 0) := fun e => by rw [e] at a1; simp at a1
        unfold pkt size1
        rw [if_neg hne, if_neg hne]
        have := ht.copy (c p).2 (c p).1 a4 (by rw [List.length_take, hsz]; omega) (by omega) (by omega) a2
        rw [copied_take a4 a5 _ a3 a6] at this
        exact ⟨_, this⟩
    · rename_i hge
      rw [List.append_nil]
      rw [List.take_of_length_le (by omega)] at ht
      exact ⟨r, ht⟩
/-- The pieces tell the text. -/
theorem parse_tells {s : ByteArray} {c : Nat → Nat × Nat} (hc : ∀ p, OkPiece s p (c p)) (hs : s.size ≤ 1048576) (most : Nat) (hm : s.size ≤ most) : applyL most (parse s c 0) [] ⟨1, 1, 1, 1⟩ = (s.data.toList, 0) := by
  have hsz : s.data.toList.length = s.size := by rw [Array.length_toList]; rfl
  obtain ⟨r, h⟩ := tells_parse hc hs (s.size - 0) 0 [] ⟨1, 1, 1, 1⟩ (Nat.le_refl _) (Nat.zero_le _) (by rw [List.take_zero]; exact tells_nil)
  have := h.end most
  rw [if_pos (by omega)] at this
  exact this
/-- As they are told anew. -/
theorem parse_rep {s : ByteArray} {c : Nat → Nat × Nat} (hc : ∀ p, OkPiece s p (c p)) (hs : s.size ≤ 1048576) : repL (parse s c 0) 0 ⟨1, 1, 1, 1⟩ ⟨1, 1, 1, 1⟩ = rrep (parse s c 0) ⟨1, 1, 1, 1⟩ ⟨1, 1, 1, 1⟩ ∧ ∀ most, s.size ≤ most → applyL most (repL (parse s c 0) 0 ⟨1, 1, 1, 1⟩ ⟨1, 1, 1, 1⟩) [] ⟨1, 1, 1, 1⟩ = (s.data.toList, 0) := by
  have key := fun most hm => rep_same most s.data.toList (parse s c 0) [] ⟨1, 1, 1, 1⟩ ⟨1, 1, 1, 1⟩ (by unfold Rp.pos; simp) (by unfold Rp.pos; simp) (by unfold Rp.small; simp) rfl (parse_tells hc hs most hm)
  exact ⟨(key s.size (Nat.le_refl _)).1, fun most hm => (key most hm).2⟩
/-- What waits for the next place, where that has a longer one. -/
def wait (s : ByteArray) (window cut : Int) (p : Nat) : Nat × Nat := if (best s window cut p).1 < (best s window cut (p + 1)).1 then (0, 0) else best s window cut p
theorem wait_ok (s : ByteArray) (window cut : Int) (p : Nat) : OkPiece s p (wait s window cut p) := by
  unfold wait
  split
  · exact .inl rfl
  · exact best_ok _ _ _ _
theorem best_end {s : ByteArray} {window cut : Int} {p : Nat} (h : s.size ≤ p) : best s window cut p = (0, 0) := best_none (foundL_none (by omega))
end Go.Proofs.Yteacmcckhjabmaa.Gr
