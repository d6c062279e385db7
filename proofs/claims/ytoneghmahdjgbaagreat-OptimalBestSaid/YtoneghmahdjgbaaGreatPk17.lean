/-
  Plain mathematics of layer 6: what Repeat tells is what the document's tells, and tells the same text.
  Plain mathematics of layers 13 and 14: a text in pieces; its pieces tell it.
-/
import Derived.Test.YtoneghmahdjgbaaGreatPk06
import Derived.Test.YtoneghmahdjgbaaGreatPk15
import Derived.Test.YtoneghmahdjgbaaGreatPk16

section
namespace Go.Proofs.YtoneghmahdjgbaaGreat.Pk
/-- What the document's Repeat tells. -/
def plainB (p : Pt) : Bool := (p.k ≠ 2 ∧ p.k ≠ 3) ∨ (p.k = 3 ∧ (p.d < 0 ∨ 3 < p.d))
def rrep : List Pt → Rp → Rp → List Pt
  | [], _, _ => []
  | p :: ps, r, old => if plainB p then p :: rrep ps r old
    else (r.retell (if p.k = 3 then old.at p.d else p.d) p.n).1 :: rrep ps (r.retell (if p.k = 3 then old.at p.d else p.d) p.n).2 (if p.k = 3 then old.front p.d else old.push p.d)
def Rp.small (r : Rp) : Prop := r.a ≤ 1048576 ∧ r.b ≤ 1048576 ∧ r.c ≤ 1048576 ∧ r.d ≤ 1048576
theorem plain_of_fit {p : Pt} {hv : Int} {r : Rp} {x : Int × Int × Rp} (h : p.fit hv r = some x) : p.plain = true := by
  unfold Pt.fit at h
  cases hp : p.plain with
  | true => rfl
  | false => rw [hp, if_pos rfl] at h; cases h
theorem fit_form2 {p : Pt} {hv d n : Int} {r s : Rp} (h : p.fit hv r = some (d, n, s)) :
    (p.k = 1 ∧ s = r) ∨ (p.k = 2 ∧ d = p.d ∧ n = p.n ∧ s = r.push p.d ∧ p.b = 0 ∧ d ≤ 1048576 ∧ lenB n = true) ∨ (p.k = 3 ∧ 0 ≤ p.d ∧ p.d < 4 ∧ d = r.at p.d ∧ n = p.n ∧ s = r.front p.d ∧ p.b = 0 ∧ lenB n = true) ∨ (p.k = 4 ∧ d = r.a ∧ n = 1 ∧ s = r) := by
  have hp := plain_of_fit h
  have hk := plain_kind hp
  unfold Pt.fit at h
  rw [hp, if_neg (by simp)] at h
  rcases hk with hk | hk | hk | hk
  · rw [if_pos hk] at h
    simp only [Option.some.injEq, Prod.mk.injEq] at h
    exact .inl ⟨hk, h.2.2.symm⟩
  · rw [if_neg (by omega), if_pos hk] at h
    split at h
    · rename_i hc
      simp only [Option.some.injEq, Prod.mk.injEq] at h
      obtain ⟨rfl, rfl, rfl⟩ := h
      have hb : p.b = 0 := by simp [Pt.plain, hk] at hp; exact hp
      exact .inr (.inl ⟨hk, rfl, rfl, rfl, hb, by omega, hc.2.2⟩)
    · cases h
  · rw [if_neg (by omega), if_neg (by omega), if_pos hk] at h
    split at h
    · rename_i hc
      simp only [Option.some.injEq, Prod.mk.injEq] at h
      obtain ⟨rfl, rfl, rfl⟩ := h
      have hb : p.b = 0 := by simp [Pt.plain, hk] at hp; exact hp
      exact .inr (.inr (.inl ⟨hk, hc.1.1, hc.1.2, rfl, rfl, rfl, hb, hc.2.2⟩))
    · cases h
  · rw [if_neg (by omega), if_neg (by omega), if_neg (by omega)] at h
    split at h
    · simp only [Option.some.injEq, Prod.mk.injEq] at h
      obtain ⟨rfl, rfl, rfl⟩ := h
      exact .inr (.inr (.inr ⟨hk, rfl, rfl, rfl⟩))
    · cases h
theorem front_small {r : Rp} (h : r.small) (i : Int) : (r.front i).small := by
  obtain ⟨h1, h2, h3, h4⟩ := h
  unfold Rp.front
  split
  · exact ⟨h2, h1, h3, h4⟩
  · split
    · exact ⟨h3, h1, h2, h4⟩
    · split
      · exact ⟨h4, h1, h2, h3⟩
      · exact ⟨h1, h2, h3, h4⟩
theorem push_small {r : Rp} (h : r.small) {d : Int} (hd : d ≤ 1048576) : (r.push d).small := by
  unfold Rp.push Rp.small at *
  simp only
  omega
theorem at_small {r : Rp} (h : r.small) (i : Int) : r.at i ≤ 1048576 := by
  unfold Rp.at Rp.small at *
  (repeat' split) <;> omega
theorem front_head (r : Rp) (i : Int) (h0 : 0 ≤ i) (h4 : i < 4) : (r.front i).a = r.at i := by
  have : i = 0 ∨ i = 1 ∨ i = 2 ∨ i = 3 := by omega
  rcases this with rfl | rfl | rfl | rfl <;> rfl
theorem find_some {r : Rp} {d : Int} (h : (r.find d).2 = true) : 0 ≤ (r.find d).1 ∧ (r.find d).1 < 4 ∧ r.at (r.find d).1 = d := by
  unfold Rp.find at *
  by_cases h0 : r.a = d
  · rw [if_pos h0] at h ⊢; exact ⟨by simp, by simp, by simpa [Rp.at] using h0⟩
  · rw [if_neg h0] at h ⊢
    by_cases h1 : r.b = d
    · rw [if_pos h1] at h ⊢; exact ⟨by simp, by simp, by simpa [Rp.at] using h1⟩
    · rw [if_neg h1] at h ⊢
      by_cases h2 : r.c = d
      · rw [if_pos h2] at h ⊢; exact ⟨by simp, by simp, by simpa [Rp.at] using h2⟩
      · rw [if_neg h2] at h ⊢
        by_cases h3 : r.d = d
        · rw [if_pos h3] at h ⊢; exact ⟨by simp, by simp, by simpa [Rp.at] using h3⟩
        · rw [if_neg h3] at h; cases h
theorem retell_fit {now : Rp} {d n hv : Int} (h1 : 1 ≤ d) (h2 : d ≤ hv) (h3 : d ≤ 1048576) (hn : lenB n = true) : ((now.retell d n).1).fit hv now = some (d, n, (now.retell d n).2) ∧ (now.retell d n).2.a = d ∧ ((now.retell d n).1.k = 2 ∨ (now.retell d n).1.k = 3) := by
  unfold Rp.retell
  by_cases hf : (now.find d).2 = true
  · rw [if_pos hf]
    obtain ⟨f0, f4, fa⟩ := find_some hf
    generalize (now.find d).1 = i at *
    have hp : (⟨3, i, n, 0⟩ : Pt).plain = true := by simp [Pt.plain]
    have hc : (0 ≤ i ∧ i < 4) ∧ now.at i ≤ hv ∧ lenB n = true := ⟨⟨f0, f4⟩, by omega, hn⟩
    refine ⟨?_, by rw [front_head now i f0 f4]; exact fa, .inr rfl⟩
    unfold Pt.fit
    rw [hp, if_neg (by simp)]
    simp only
    rw [if_neg (by omega), if_neg (by omega), if_pos trivial, if_pos hc, fa]
  · rw [if_neg hf]
    have hp : (⟨2, d, n, 0⟩ : Pt).plain = true := by simp [Pt.plain]
    have hc : 1 ≤ d ∧ d ≤ min hv 1048576 ∧ lenB n = true := ⟨h1, by omega, hn⟩
    refine ⟨?_, rfl, .inl rfl⟩
    unfold Pt.fit
    rw [hp, if_neg (by simp)]
    simp only
    rw [if_neg (by omega), if_pos trivial, if_pos hc]
theorem tell_more {p : Pt} {most : Nat} {l l' : List UInt8} {d n : Int} (h : p.tell most l d n = some l') (hn : p.k = 1 ∧ n = 1 ∨ p.k ≠ 1 ∧ 1 ≤ n) : (l'.length : Int) = l.length + n := by
  unfold Pt.tell at h
  rcases hn with ⟨h1, h2⟩ | ⟨h1, h2⟩
  · rw [if_pos h1] at h
    split at h
    · cases h; simp; omega
    · cases h
  · rw [if_neg h1] at h
    split at h
    · cases h; rw [Wnd.copied_length]; omega
    · cases h
theorem tell_kind {p q : Pt} {most : Nat} {l : List UInt8} {d n : Int} (h1 : p.k ≠ 1) (h2 : q.k ≠ 1) : p.tell most l d n = q.tell most l d n := by
  unfold Pt.tell
  rw [if_neg h1, if_neg h2]
theorem repL_some {p : Pt} {ps : List Pt} {hv d n : Int} {was now s : Rp} (h : p.fit hv was = some (d, n, s)) : repL (p :: ps) hv was now = if p.k = 2 ∨ p.k = 3 then (now.retell d n).1 :: repL ps (hv + n) s (now.retell d n).2 else p :: repL ps (hv + n) s now := by
  rw [repL, h]
theorem rep_same (most : Nat) (t : List UInt8) : ∀ (ps : List Pt) (l : List UInt8) (was now : Rp), was.pos → now.pos → was.small → was.a = now.a → applyL most ps l was = (t, 0) →
    repL ps (l.length : Int) was now = rrep ps now was ∧ applyL most (repL ps (l.length : Int) was now) l now = (t, 0)
  | [], l, was, now, _, _, _, _, h => ⟨rfl, h⟩
  | p :: ps, l, was, now, hw, hn, hs, ha, h => by
    cases hf : p.fit (l.length : Int) was with
    | none => rw [applyL_none hf] at h; cases h
    | some x =>
      obtain ⟨d, n, s⟩ := x
      cases ht : p.tell most l d n with
      | none => rw [applyL_long hf ht] at h; cases h
      | some l' =>
        rw [applyL_more hf ht] at h
        obtain ⟨hsp, hfs⟩ := fit_some hf hw
        have hlen : (l'.length : Int) = l.length + n := tell_more ht (by rcases hfs with ⟨a, b⟩ | ⟨a, b, c, e, f⟩; exact .inl ⟨a, b⟩; exact .inr ⟨a, e⟩)
        rw [repL_some hf]
        rcases fit_form2 hf with ⟨hk, rfl⟩ | ⟨hk, rfl, rfl, rfl, hb, hd, hlb⟩ | ⟨hk, h0, h4, rfl, rfl, rfl, hb, hlb⟩ | ⟨hk, rfl, rfl, rfl⟩
        · have hn1 : n = 1 := by rcases hfs with ⟨_, b⟩ | ⟨a, _⟩; exact b; exact absurd hk a
          have hpl : plainB p = true := by unfold plainB; simp [hk]
          obtain ⟨i1, i2⟩ := rep_same most t ps l' s now hw hn hs ha h
          rw [hlen] at i1 i2
          rw [if_neg (by omega)]
          refine ⟨by rw [rrep, if_pos hpl, i1], ?_⟩
          have hf2 : p.fit (l.length : Int) now = some (0, 1, now) := by
            unfold Pt.fit
            rw [plain_of_fit hf, if_neg (by simp), if_pos hk]
          have ht2 : p.tell most l 0 1 = some l' := by
            rw [← ht]
            unfold Pt.tell
            rw [if_pos hk, if_pos hk]
          rw [applyL_more hf2 ht2]
          exact i2
        · obtain ⟨c1, c2, c3, c4, c5⟩ : p.k ≠ 1 ∧ 1 ≤ p.d ∧ p.d ≤ l.length ∧ 1 ≤ p.n ∧ p.n ≤ 273 := by rcases hfs with ⟨a, _⟩ | a; omega; exact a
          obtain ⟨r1, r2, r3⟩ := retell_fit (now := now) c2 c3 hd hlb
          have hp2 := (fit_some r1 hn).1
          have hpl : plainB p = false := by unfold plainB; simp [hk]
          obtain ⟨i1, i2⟩ := rep_same most t ps l' (was.push p.d) (now.retell p.d p.n).2 hsp hp2 (push_small hs hd) (by rw [r2]; rfl) h
          rw [hlen] at i1 i2
          rw [if_pos (.inl hk)]
          refine ⟨by rw [rrep, hpl, if_neg (by simp), if_neg (by omega), if_neg (by omega), i1], ?_⟩
          rw [applyL_more r1 (by rw [← ht]; exact tell_kind (by omega) (by omega))]
          exact i2
        · obtain ⟨c1, c2, c3, c4, c5⟩ : p.k ≠ 1 ∧ 1 ≤ was.at p.d ∧ was.at p.d ≤ l.length ∧ 1 ≤ p.n ∧ p.n ≤ 273 := by rcases hfs with ⟨a, _⟩ | a; omega; exact a
          obtain ⟨r1, r2, r3⟩ := retell_fit (now := now) c2 c3 (at_small hs p.d) hlb
          have hp2 := (fit_some r1 hn).1
          have hpl : plainB p = false := by unfold plainB; simp [hk]; omega
          obtain ⟨i1, i2⟩ := rep_same most t ps l' (was.front p.d) (now.retell (was.at p.d) p.n).2 hsp hp2 (front_small hs p.d) (by rw [r2, front_head was p.d h0 h4]) h
          rw [hlen] at i1 i2
          rw [if_pos (.inr hk)]
          refine ⟨by rw [rrep, hpl, if_neg (by simp), if_pos hk, if_pos hk, i1], ?_⟩
          rw [applyL_more r1 (by rw [← ht]; exact tell_kind (by omega) (by omega))]
          exact i2
        · have hpl : plainB p = true := by unfold plainB; simp [hk]
          obtain ⟨i1, i2⟩ := rep_same most t ps l' s now hw hn hs ha h
          rw [hlen] at i1 i2
          rw [if_neg (by omega)]
          refine ⟨by rw [rrep, if_pos hpl, i1], ?_⟩
          have hf2 : p.fit (l.length : Int) now = some (s.a, 1, now) := by
            obtain ⟨c1, c2, c3, c4, c5⟩ : p.k ≠ 1 ∧ 1 ≤ s.a ∧ s.a ≤ l.length ∧ 1 ≤ (1 : Int) ∧ (1 : Int) ≤ 273 := by rcases hfs with ⟨a, _⟩ | a; omega; exact a
            unfold Pt.fit
            rw [plain_of_fit hf, if_neg (by simp), if_neg (by omega), if_neg (by omega), if_neg (by omega), if_pos (by omega), ha]
          rw [applyL_more hf2 ht]
          exact i2
theorem rrep_length : ∀ (ps : List Pt) (r old : Rp), (rrep ps r old).length = ps.length
  | [], _, _ => rfl
  | p :: ps, r, old => by
    rw [rrep]
    split <;> simp [rrep_length ps]
theorem rrep_bytes : ∀ (ps : List Pt) (r old : Rp), (∀ p ∈ ps, p.b < 256) → ∀ p ∈ rrep ps r old, p.b < 256
  | [], _, _, _ => by simp [rrep]
  | p :: ps, r, old, h => by
    have h1 := h p (by simp)
    have h2 := fun r old => rrep_bytes ps r old (fun q hq => h q (by simp [hq]))
    rw [rrep]
    split
    · intro q hq
      rcases List.mem_cons.1 hq with rfl | hq
      · exact h1
      · exact h2 _ _ q hq
    · intro q hq
      rcases List.mem_cons.1 hq with rfl | hq
      · rw [retell_b]; omega
      · exact h2 _ _ q hq
end Go.Proofs.YtoneghmahdjgbaaGreat.Pk
end
section
namespace Go.Proofs.YtoneghmahdjgbaaGreat.Gr
open Go.RowKit
open Mt
open Ch (foundL foundL_none foundL_rising bt bt_at bt_lt Rising.at)
open Pk (Rp Pt Tells applyL tells_nil rep_same repL rrep)
open Wnd (copied copied_length take_snoc)
/-- The longest match at a place: how many bytes, how far back; (0, 0), where there is none. -/
def best (s : ByteArray) (window cut : Int) (p : Nat) : Nat × Nat := ((foundL s window cut p).getLast?).getD (0, 0)
theorem best_none {s : ByteArray} {window cut : Int} {p : Nat} (h : foundL s window cut p = []) : best s window cut p = (0, 0) := by unfold best; rw [h]; rfl
theorem best_last {s : ByteArray} {window cut : Int} {p n : Nat} (h : (foundL s window cut p).length = n + 1) : best s window cut p = (foundL s window cut p)[n] := by
  unfold best
  rw [List.getLast?_eq_getElem?, show (foundL s window cut p).length - 1 = n from by omega, List.getElem?_eq_getElem (by omega)]
  rfl
/-- A piece of s at p that may be. -/
def OkPiece (s : ByteArray) (p : Nat) (x : Nat × Nat) : Prop := x = (0, 0) ∨ (3 ≤ x.1 ∧ x.1 ≤ 273 ∧ p + x.1 ≤ s.size ∧ 1 ≤ x.2 ∧ x.2 ≤ p ∧ ∀ j, j < x.1 → bt s (p + j) = bt s (p + j - x.2))
theorem best_ok (s : ByteArray) (window cut : Int) (p : Nat) : OkPiece s p (best s window cut p) := by
  cases hl : (foundL s window cut p).length with
  | zero => exact .inl (best_none (List.eq_nil_of_length_eq_zero hl))
  | succ n =>
    right
    rw [best_last hl]
    obtain ⟨h1, h2, h3, h4, _, h6, _⟩ := Rising.at (foundL_rising s window cut p) n (by omega)
    exact ⟨by omega, by omega, by omega, by omega, h4, h6⟩
/-- Beyond the place itself no window counts. -/
theorem refL_min (b : Nat → Nat) (p most : Nat) (ok : Bool) (window cut M : Int) (h : (p : Int) ≤ M) : ∀ (x best seen : Nat), refL b p most ok (min window M) cut x best seen = refL b p most ok window cut x best seen
  | 0, _, _ => rfl
  | x + 1, best, seen => by
    have i := refL_min b p most ok window cut M h x
    have e : (((p - x : Nat) : Int) ≤ min window M ∧ (seen : Int) < cut) = (((p - x : Nat) : Int) ≤ window ∧ (seen : Int) < cut) := by
      apply propext
      constructor
      · rintro ⟨a, c⟩; exact ⟨by omega, c⟩
      · rintro ⟨a, c⟩; exact ⟨by omega, c⟩
    rw [refL, refL]
    simp only [e, i]
theorem foundL_min (s : ByteArray) (window cut M : Int) (p : Nat) (h : (p : Int) ≤ M) : foundL s (min window M) cut p = foundL s window cut p := by
  unfold foundL
  exact refL_min _ _ _ _ _ _ _ h _ _ _
/-- The packet of a piece. -/
def pkt (s : ByteArray) (p : Nat) (x : Nat × Nat) : Pt := if x = (0, 0) then ⟨1, 0, 0, bt s p⟩ else ⟨2, (x.2 : Int), (x.1 : Int), 0⟩
def size1 (x : Nat × Nat) : Nat := if x = (0, 0) then 1 else x.1
theorem size1_pos {s : ByteArray} {p : Nat} {x : Nat × Nat} (h : OkPiece s p x) : 1 ≤ size1 x := by
  unfold size1
  rcases h with h | h
  · rw [if_pos h]; omega
  · split <;> omega
theorem size1_le {s : ByteArray} {p : Nat} {x : Nat × Nat} (hp : p < s.size) (h : OkPiece s p x) : p + size1 x ≤ s.size := by
  unfold size1
  rcases h with h | h
  · rw [if_pos h]; omega
  · split <;> omega
/-- The pieces from p on, by a choice; k: at most so many. -/
def parseK (s : ByteArray) (c : Nat → Nat × Nat) : Nat → Nat → List Pt
  | 0, _ => []
  | k + 1, p => if p < s.size then pkt s p (c p) :: parseK s c k (p + size1 (c p)) else []
def parse (s : ByteArray) (c : Nat → Nat × Nat) (p : Nat) : List Pt := parseK s c (s.size - p) p
theorem parseK_enough {s : ByteArray} {c : Nat → Nat × Nat} (hc : ∀ p, OkPiece s p (c p)) : ∀ (k m p : Nat), s.size - p ≤ k → s.size - p ≤ m → parseK s c k p = parseK s c m p
  | 0, 0, _, _, _ => rfl
  | 0, m + 1, p, h, _ => by rw [parseK, parseK, if_neg (by omega)]
  | k + 1, 0, p, _, h => by rw [parseK, parseK, if_neg (by omega)]
  | k + 1, m + 1, p, h1, h2 => by
    rw [parseK, parseK]
    split
    · have := size1_pos (hc p)
      rw [parseK_enough hc k m _ (by omega) (by omega)]
    · rfl
theorem parse_more {s : ByteArray} {c : Nat → Nat × Nat} (hc : ∀ p, OkPiece s p (c p)) {p : Nat} (hp : p < s.size) : parse s c p = pkt s p (c p) :: parse s c (p + size1 (c p)) := by
  have := size1_pos (hc p)
  unfold parse
  obtain ⟨k, hk⟩ : ∃ k, s.size - p = k + 1 := ⟨s.size - p - 1, by omega⟩
  rw [hk, parseK, if_pos hp, parseK_enough hc k (s.size - (p + size1 (c p))) _ (by omega) (by omega)]
theorem parse_end {s : ByteArray} {c : Nat → Nat × Nat} {p : Nat} (hp : s.size ≤ p) : parse s c p = [] := by
  unfold parse
  rw [show s.size - p = 0 from by omega, parseK]
theorem pkt_byte (s : ByteArray) (p : Nat) (x : Nat × Nat) : (pkt s p x).b < 256 := by
  unfold pkt
  split
  · exact bt_lt _ _
  · simp
theorem parseK_bytes (s : ByteArray) (c : Nat → Nat × Nat) : ∀ (k p : Nat), ∀ q ∈ parseK s c k p, q.b < 256
  | 0, _, q, h => by simp [parseK] at h
  | k + 1, p, q, h => by
    rw [parseK] at h
    split at h
    · rcases List.mem_cons.1 h with rfl | h
      · exact pkt_byte _ _ _
      · exact parseK_bytes s c k _ q h
    · simp at h
theorem parse_bytes (s : ByteArray) (c : Nat → Nat × Nat) (p : Nat) : ∀ q ∈ parse s c p, q.b < 256 := parseK_bytes s c _ p
theorem parseK_length (s : ByteArray) (c : Nat → Nat × Nat) : ∀ (k p : Nat), (parseK s c k p).length ≤ k
  | 0, _ => by simp [parseK]
  | k + 1, p => by
    rw [parseK]
    split
    · have := parseK_length s c k (p + size1 (c p)); simp only [List.length_cons]; omega
    · simp
theorem parse_length (s : ByteArray) (c : Nat → Nat × Nat) (p : Nat) : (parse s c p).length ≤ s.size - p := parseK_length s c _ p
theorem copied_take {s : ByteArray} {p d : Nat} (h1 : 1 ≤ d) (h2 : d ≤ p) : ∀ (n : Nat), p + n ≤ s.size → (∀ j, j < n → bt s (p + j) = bt s (p + j - d)) → copied (s.data.toList.take p) d n = s.data.toList.take (p + n)
  | 0, _, _ => rfl
  | n + 1, hn, h => by
    have ih := copied_take h1 h2 n (by omega) (fun j hj => h j (by omega))
    have hsz : s.data.toList.length = s.size := by rw [Array.length_toList]; rfl
    rw [copied, ih, List.length_take, hsz, show min (p + n) s.size = p + n from by omega, show p + (n + 1) = p + n + 1 from rfl, take_snoc s (p + n) (by omega)]
    congr 2
    have hb := h n (by omega)
    rw [← bt_at (show p + n < s.size by omega), ← bt_at (show p + n - d < s.size by omega)] at hb
    have hb' : s[p + n] = s[p + n - d] := UInt8.toNat_inj.1 hb
    rw [hb', List.getD_eq_getElem?_getD, List.getElem?_take_of_lt (by omega), List.getElem?_eq_getElem (by omega)]
    rfl
theorem tells_parse {s : ByteArray} {c : Nat → Nat × Nat} (hc : ∀ p, OkPiece s p (c p)) (hs : s.size ≤ 1048576) : ∀ (k p : Nat) (ps : List Pt) (r : Rp), s.size - p ≤ k → p ≤ s.size → Tells ps (s.data.toList.take p) r → ∃ r', Tells (ps ++ parseK s c k p) s.data.toList r'
  | 0, p, ps, r, h, hp, ht => by
    have hsz : s.data.toList.length = s.size := by rw [Array.length_toList]; rfl
    rw [parseK, List.append_nil]
    rw [List.take_of_length_le (by omega)] at ht
    exact ⟨r, ht⟩
  | k + 1, p, ps, r, h, hp, ht => by
    have hsz : s.data.toList.length = s.size := by rw [Array.length_toList]; rfl
    rw [parseK]
    split
    · rename_i hlt
      have h1 := size1_pos (hc p)
      have h2 := size1_le hlt (hc p)
      rw [show ps ++ pkt s p (c p) :: parseK s c k (p + size1 (c p)) = (ps ++ [pkt s p (c p)]) ++ parseK s c k (p + size1 (c p)) from by simp]
      suffices hh : ∃ r', Tells (ps ++ [pkt s p (c p)]) (s.data.toList.take (p + size1 (c p))) r' by
        obtain ⟨r', hh⟩ := hh
        exact tells_parse hc hs k _ _ r' (by omega) h2 hh
      rcases hc p with h0 | ⟨a1, a2, a3, a4, a5, a6⟩
      · refine ⟨r, ?_⟩
        unfold pkt size1
        rw [if_pos h0, if_pos h0, take_snoc s p hlt]
        have := ht.lit (bt s p)
        rw [← bt_at hlt, UInt8.ofNat_toNat, bt_at hlt] at this
        exact this
      · have hne : c p ≠ (0, 0) := fun e => by rw [e] at a1; simp at a1
        unfold pkt size1
        rw [if_neg hne, if_neg hne]
        have := ht.copy (c p).2 (c p).1 a4 (by rw [List.length_take, hsz]; omega) (by omega) (by omega) a2
        rw [copied_take a4 a5 _ a3 a6] at this
        exact ⟨_, this⟩
    · rename_i hge
      rw [List.append_nil]
      rw [List.take_of_length_le (by omega)] at ht
      exact ⟨r, ht⟩
/-- The pieces tell the text. -/
theorem parse_tells {s : ByteArray} {c : Nat → Nat × Nat} (hc : ∀ p, OkPiece s p (c p)) (hs : s.size ≤ 1048576) (most : Nat) (hm : s.size ≤ most) : applyL most (parse s c 0) [] ⟨1, 1, 1, 1⟩ = (s.data.toList, 0) := by
  have hsz : s.data.toList.length = s.size := by rw [Array.length_toList]; rfl
  obtain ⟨r, h⟩ := tells_parse hc hs (s.size - 0) 0 [] ⟨1, 1, 1, 1⟩ (Nat.le_refl _) (Nat.zero_le _) (by rw [List.take_zero]; exact tells_nil)
  have := h.end most
  rw [if_pos (by omega)] at this
  exact this
/-- As they are told anew. -/
theorem parse_rep {s : ByteArray} {c : Nat → Nat × Nat} (hc : ∀ p, OkPiece s p (c p)) (hs : s.size ≤ 1048576) : repL (parse s c 0) 0 ⟨1, 1, 1, 1⟩ ⟨1, 1, 1, 1⟩ = rrep (parse s c 0) ⟨1, 1, 1, 1⟩ ⟨1, 1, 1, 1⟩ ∧ ∀ most, s.size ≤ most → applyL most (repL (parse s c 0) 0 ⟨1, 1, 1, 1⟩ ⟨1, 1, 1, 1⟩) [] ⟨1, 1, 1, 1⟩ = (s.data.toList, 0) := by
  have key := fun most hm => rep_same most s.data.toList (parse s c 0) [] ⟨1, 1, 1, 1⟩ ⟨1, 1, 1, 1⟩ (by unfold Rp.pos; simp) (by unfold Rp.pos; simp) (by unfold Rp.small; simp) rfl (parse_tells hc hs most hm)
  exact ⟨(key s.size (Nat.le_refl _)).1, fun most hm => (key most hm).2⟩
/-- What waits for the next place, where that has a longer one. -/
def wait (s : ByteArray) (window cut : Int) (p : Nat) : Nat × Nat := if (best s window cut p).1 < (best s window cut (p + 1)).1 then (0, 0) else best s window cut p
theorem wait_ok (s : ByteArray) (window cut : Int) (p : Nat) : OkPiece s p (wait s window cut p) := by
  unfold wait
  split
  · exact .inl rfl
  · exact best_ok _ _ _ _
end Go.Proofs.YtoneghmahdjgbaaGreat.Gr
end
