/-
  Plain mathematics of layers 7 and 8: how many bytes match, which places begin alike, and what a chain finds. (A text is a function b from places to bytes.)
  Package chain: what a finder is in memory ('FinAt'), and contracts of left, Place, New, matching.
  Package chain: the contract of New; what becomes of a finder when others are called, and when it is written.
  Package chain: the contract of link.
-/
import Derived.Test.YtoneghmahdjgbaaGreatPk03
import Init
import Derived.Maps.OwnSet
import Derived.DeepKeys4
import Derived.Deep.RegionLaw
import Derived.Deep.QuietTactic
import Derived.BigQuiet
import Derived.StillTailTactics
import Derived.Deep.DeepCutAuto
import Derived.Deep.CutBlock
section
namespace Go.Proofs.YtoneghmahdjgbaaGreat.Mt
/-- How many bytes match at the places p and q, if n do, and at most k more are looked at. -/
def mat (b : Nat → Nat) (p q : Nat) : Nat → Nat → Nat
  | n, 0 => n
  | n, k + 1 => if b (p + n) = b (q + n) then mat b p q (n + 1) k else n
theorem mat_ge (b : Nat → Nat) (p q : Nat) : ∀ (k n : Nat), n ≤ mat b p q n k
  | 0, n => Nat.le_refl _
  | k + 1, n => by
    rw [mat]
    split
    · have := mat_ge b p q k (n + 1); omega
    · exact Nat.le_refl _
theorem mat_le (b : Nat → Nat) (p q : Nat) : ∀ (k n : Nat), mat b p q n k ≤ n + k
  | 0, n => Nat.le_refl _
  | k + 1, n => by
    rw [mat]
    split
    · have := mat_le b p q k (n + 1); omega
    · omega
theorem mat_same (b : Nat → Nat) (p q : Nat) : ∀ (k n j : Nat), n ≤ j → j < mat b p q n k → b (p + j) = b (q + j)
  | 0, n, j, h1, h2 => by rw [mat] at h2; omega
  | k + 1, n, j, h1, h2 => by
    rw [mat] at h2
    split at h2
    · rename_i e
      by_cases hj : j = n
      · subst hj; exact e
      · exact mat_same b p q k (n + 1) j (by omega) h2
    · omega
theorem mat_stop (b : Nat → Nat) (p q : Nat) : ∀ (k n i : Nat), n ≤ i → i < n + k → b (p + i) ≠ b (q + i) → mat b p q n k ≤ i
  | 0, n, i, h1, h2, h => by omega
  | k + 1, n, i, h1, h2, h => by
    rw [mat]
    split
    · rename_i e
      by_cases hi : i = n
      · subst hi; exact absurd e h
      · exact mat_stop b p q k (n + 1) i (by omega) (by omega) h
    · exact h1
/-- All up to a place are the same: so many match at least. -/
theorem mat_reach (b : Nat → Nat) (p q : Nat) : ∀ (k n i : Nat), i ≤ n + k → (∀ j, n ≤ j → j < i → b (p + j) = b (q + j)) → i ≤ mat b p q n k ∨ i < n
  | 0, n, i, h1, h => by rw [mat]; omega
  | k + 1, n, i, h1, h => by
    by_cases hi : i < n
    · exact .inr hi
    · left
      rw [mat]
      by_cases hn : i = n
      · subst hn
        split
        · have := mat_ge b p q k (i + 1); omega
        · exact Nat.le_refl _
      · rw [if_pos (h n (Nat.le_refl _) (by omega))]
        rcases mat_reach b p q k (n + 1) i (by omega) (fun j h1 h2 => h j (by omega) h2) with h' | h'
        · exact h'
        · omega
/-- Where they end short of the most, the next two bytes differ. -/
theorem mat_end (b : Nat → Nat) (p q : Nat) : ∀ (k n : Nat), mat b p q n k < n + k → b (p + mat b p q n k) ≠ b (q + mat b p q n k)
  | 0, n, h => by rw [mat] at h; omega
  | k + 1, n, h => by
    rw [mat] at h ⊢
    split at h
    · rename_i e
      rw [if_pos e]
      exact mat_end b p q k (n + 1) (by omega)
    · rename_i e
      rw [if_neg e]
      exact e
theorem mat_from (b : Nat → Nat) (p q : Nat) : ∀ (m n k : Nat), (∀ j, n ≤ j → j < n + m → b (p + j) = b (q + j)) → mat b p q n (m + k) = mat b p q (n + m) k
  | 0, n, k, _ => by simp
  | m + 1, n, k, h => by
    rw [show m + 1 + k = (m + k) + 1 from by omega, mat, if_pos (h n (Nat.le_refl _) (by omega)), mat_from b p q m (n + 1) k (fun j h1 h2 => h j (by omega) (by omega))]
    congr 1
    omega
/-- Do two places begin with the same three bytes? -/
def heads (b : Nat → Nat) (p q : Nat) : Bool := b p == b q && (b (p + 1) == b (q + 1) && b (p + 2) == b (q + 2))
theorem heads_iff {b : Nat → Nat} {p q : Nat} : heads b p q = true ↔ b p = b q ∧ b (p + 1) = b (q + 1) ∧ b (p + 2) = b (q + 2) := by simp [heads]
theorem heads_trans {b : Nat → Nat} {p q : Nat} (h : heads b p q = true) (r : Nat) : heads b p r = heads b q r := by
  obtain ⟨h1, h2, h3⟩ := heads_iff.1 h
  unfold heads
  rw [h1, h2, h3]
/-- The last place below x that begins as p does; else -1. -/
def prevF (b : Nat → Nat) (p : Nat) : Nat → Int
  | 0 => -1
  | x + 1 => if heads b p x then (x : Int) else prevF b p x
theorem prevF_lt (b : Nat → Nat) (p : Nat) : ∀ x, prevF b p x < (x : Int) ∧ -1 ≤ prevF b p x
  | 0 => by simp [prevF]
  | x + 1 => by
    have := prevF_lt b p x
    rw [prevF]
    split <;> omega
theorem prevF_heads {b : Nat → Nat} {p q : Nat} (h : heads b p q = true) : ∀ x, prevF b p x = prevF b q x
  | 0 => rfl
  | x + 1 => by rw [prevF, prevF, heads_trans h x, prevF_heads h x]
/-- What the document's At finds at p, from the distance p - x on: x places are left. -/
def refL (b : Nat → Nat) (p most : Nat) (ok : Bool) (window cut : Int) : Nat → Nat → Nat → List (Nat × Nat)
  | 0, _, _ => []
  | x + 1, best, seen => if ((p - x : Nat) : Int) ≤ window ∧ (seen : Int) < cut then
      if ok = true ∧ heads b p x = true then
        if best < mat b p x 0 most then (mat b p x 0 most, p - x) :: refL b p most ok window cut x (mat b p x 0 most) (seen + 1) else refL b p most ok window cut x best (seen + 1)
      else refL b p most ok window cut x best seen
    else []
/-- What the chain finds at p, with k looks left, from the place at on. -/
def devL (b : Nat → Nat) (p most : Nat) (window : Int) : Nat → Int → Nat → List (Nat × Nat)
  | 0, _, _ => []
  | k + 1, at_, longest => if at_ = -1 ∨ window < (p : Int) - at_ ∨ longest = most then [] else
      if longest < mat b p at_.toNat 0 most then (mat b p at_.toNat 0 most, p - at_.toNat) :: devL b p most window k (prevF b at_.toNat at_.toNat) (mat b p at_.toNat 0 most)
      else devL b p most window k (prevF b at_.toNat at_.toNat) longest
theorem refL_no (b : Nat → Nat) (p most : Nat) (window cut : Int) : ∀ (x best seen : Nat), refL b p most false window cut x best seen = []
  | 0, _, _ => rfl
  | x + 1, best, seen => by
    rw [refL]
    split
    · rw [if_neg (by simp)]
      exact refL_no b p most window cut x best seen
    · rfl
theorem refL_full (b : Nat → Nat) (p most : Nat) (ok : Bool) (window cut : Int) : ∀ (x best seen : Nat), most ≤ best → refL b p most ok window cut x best seen = []
  | 0, _, _, _ => rfl
  | x + 1, best, seen, h => by
    have hm := mat_le b p x most 0
    rw [refL]
    split
    · split
      · rw [if_neg (by omega)]
        exact refL_full b p most ok window cut x best (seen + 1) h
      · exact refL_full b p most ok window cut x best seen h
    · rfl
theorem devL_none (b : Nat → Nat) (p most : Nat) (window : Int) (k longest : Nat) : devL b p most window k (-1) longest = [] := by
  cases k with
  | zero => rfl
  | succ k => rw [devL, if_pos (.inl rfl)]
theorem devL_far (b : Nat → Nat) (p most : Nat) (window : Int) (k longest : Nat) {at_ : Int} (h : window < (p : Int) - at_) : devL b p most window k at_ longest = [] := by
  cases k with
  | zero => rfl
  | succ k => rw [devL, if_pos (.inr (.inl h))]
/-- The chain finds what the document's At finds. -/
theorem dev_ref (b : Nat → Nat) (p most : Nat) (window cut : Int) : ∀ (x best seen : Nat), x ≤ p → best ≤ most → devL b p most window (cut - seen).toNat (prevF b p x) best = refL b p most true window cut x best seen
  | 0, best, seen, _, _ => by
    rw [prevF, refL]
    exact devL_none b p most window _ best
  | x + 1, best, seen, hx, hb => by
    have hm := mat_le b p x most 0
    have hl := prevF_lt b p x
    rw [prevF, refL]
    by_cases hh : heads b p x = true
    · rw [if_pos hh]
      by_cases hw : ((p - x : Nat) : Int) ≤ window ∧ (seen : Int) < cut
      · rw [if_pos hw, if_pos ⟨rfl, hh⟩]
        obtain ⟨k, hk⟩ : ∃ k, (cut - seen).toNat = k + 1 := ⟨(cut - seen).toNat - 1, by omega⟩
        have hk' : (cut - ((seen + 1 : Nat) : Int)).toNat = k := by omega
        rw [hk, devL]
        by_cases hf : best = most
        · rw [if_pos (.inr (.inr hf)), if_neg (by omega), refL_full b p most true window cut x best (seen + 1) (by omega)]
        · rw [if_neg (by rintro (h | h | h) <;> omega)]
          simp only [Int.toNat_natCast]
          rw [← prevF_heads hh x]
          split
          · rw [← dev_ref b p most window cut x _ (seen + 1) (by omega) (by omega), hk']
          · rw [← dev_ref b p most window cut x best (seen + 1) (by omega) hb, hk']
      · rw [if_neg hw]
        by_cases hc : (seen : Int) < cut
        · exact devL_far b p most window _ best (by omega)
        · have : (cut - (seen : Int)).toNat = 0 := by omega
          rw [this]
          rfl
    · rw [if_neg hh]
      by_cases hw : ((p - x : Nat) : Int) ≤ window ∧ (seen : Int) < cut
      · rw [if_pos hw, if_neg (by simp [hh])]
        exact dev_ref b p most window cut x best seen (by omega) hb
      · rw [if_neg hw]
        by_cases hc : (seen : Int) < cut
        · exact devL_far b p most window _ best (by omega)
        · have : (cut - (seen : Int)).toNat = 0 := by omega
          rw [this]
          rfl
/-- What is found rises, and is there. -/
def Rising (b : Nat → Nat) (p most : Nat) (window : Int) (n0 d0 : Nat) : List (Nat × Nat) → Prop
  | [] => True
  | x :: l => n0 < x.1 ∧ x.1 ≤ most ∧ d0 < x.2 ∧ x.2 ≤ p ∧ (x.2 : Int) ≤ window ∧ (∀ j, j < x.1 → b (p + j) = b (p + j - x.2)) ∧ Rising b p most window x.1 x.2 l
theorem Rising.mono {b : Nat → Nat} {p most : Nat} {window : Int} {n0 d0 n1 d1 : Nat} (hn : n1 ≤ n0) (hd : d1 ≤ d0) : ∀ {l : List (Nat × Nat)}, Rising b p most window n0 d0 l → Rising b p most window n1 d1 l
  | [], _ => trivial
  | x :: l, ⟨h1, h2, h3, h4⟩ => ⟨by omega, h2, by omega, h4⟩
theorem refL_rising (b : Nat → Nat) (p most : Nat) (ok : Bool) (window cut : Int) (hm : 2 < most) : ∀ (x best seen : Nat), x ≤ p → Rising b p most window (max best 2) (p - x) (refL b p most ok window cut x best seen)
  | 0, _, _, _ => trivial
  | x + 1, best, seen, hx => by
    have hl := mat_le b p x most 0
    have ih := fun best' seen' => refL_rising b p most ok window cut hm x best' seen' (by omega)
    rw [refL]
    split
    · rename_i hw
      split
      · rename_i hh
        have h3 : 3 ≤ mat b p x 0 most := by
          obtain ⟨e0, e1, e2⟩ := heads_iff.1 hh.2
          rcases mat_reach b p x most 0 3 (by omega) (fun j _ h => by
            have : j = 0 ∨ j = 1 ∨ j = 2 := by omega
            rcases this with rfl | rfl | rfl
            · exact e0
            · exact e1
            · exact e2) with h | h
          · exact h
          · omega
        split
        · rename_i hb
          refine ⟨by dsimp only; omega, by dsimp only; omega, by dsimp only; omega, by dsimp only; omega, by dsimp only; omega, fun j hj => ?_, ?_⟩
          · dsimp only at hj ⊢
            rw [mat_same b p x most 0 j (by omega) hj]
            congr 1
            omega
          · have := ih (mat b p x 0 most) (seen + 1)
            rw [show max (mat b p x 0 most) 2 = mat b p x 0 most from by omega] at this
            exact this
        · exact (ih best (seen + 1)).mono (by omega) (by omega)
      · exact (ih best seen).mono (by omega) (by omega)
    · trivial
end Go.Proofs.YtoneghmahdjgbaaGreat.Mt
end
section
namespace Go.Proofs.YtoneghmahdjgbaaGreat.Ch
open Go.RowKit Go.Maps
open Mt
/-- A text's byte. -/
def bt (s : ByteArray) (i : Nat) : Nat := if h : i < s.size then s[i].toNat else 0
theorem bt_at {s : ByteArray} {i : Nat} (h : i < s.size) : s[i].toNat = bt s i := by unfold bt; rw [dif_pos h]
theorem bt_lt (s : ByteArray) (i : Nat) : bt s i < 256 := by
  unfold bt
  split
  · exact UInt8.toNat_lt _
  · omega
abbrev Dm := DataW Unit
/-- What the place q begins with, as a key. -/
def key3 (s : ByteArray) (q : Nat) : Lit := .string [UInt8.ofNat (bt s q), UInt8.ofNat (bt s (q + 1)), UInt8.ofNat (bt s (q + 2))]
def val3 (s : ByteArray) (q : Nat) : Value := .agg #[.int .u8 (bt s q : Int), .int .u8 (bt s (q + 1) : Int), .int .u8 (bt s (q + 2) : Int)]
theorem laidOut : laidOutB Tryz.prog = true := by kernel_rfl
theorem row3 : (181 : TypeId) < Tryz.prog.types.size := of_decide_eq_true (by kernel_rfl)
theorem keyAt3 : Tryz.prog.keyTypeAt 2 181 = true := by kernel_rfl
theorem law3 : Keyed Tryz.prog 181 := Keyed.of_law (deep_law_laid laidOut (m := 2) (by omega) row3 keyAt3 (by rw [Tryz.underlying181]))
theorem cells3 : Tryz.prog.cellsOf 181 = 3 := by kernel_rfl
theorem cells8 : Tryz.prog.cellsOf 5 = 1 := by kernel_rfl
theorem keyType3 : Tryz.prog.keyType 181 = true := by kernel_rfl
theorem wf8 {x : Nat} (h : x < 256) : (Lit.int .u8 (x : Int)).wf = true := by
  have h1 : (IntKind.u8.min : Int) ≤ x := by rw [show IntKind.u8.min = 0 from rfl]; omega
  have h2 : (x : Int) ≤ IntKind.u8.max := by rw [show IntKind.u8.max = 255 from rfl]; omega
  simp [Lit.wf, h1, h2]
theorem keyBytes8 {x : Nat} (h : x < 256) : Lit.keyBytes (.int .u8 (x : Int)) = [UInt8.ofNat x] := by
  have : ((x : Int) % 256).toNat = x := by omega
  have e : x % 256 = x := by omega
  show (bytesLE 1 ((x : Int) % 256).toNat).reverse = _
  rw [this]
  simp [bytesLE, e]
theorem key_lits {x0 x1 x2 : Nat} (b0 : x0 < 256) (b1 : x1 < 256) (b2 : x2 < 256) (n : Nat) : Tryz.prog.keyLits (n + 1 + 1) 181 [.int .u8 (x0 : Int), .int .u8 (x1 : Int), .int .u8 (x2 : Int)] = some [.int .u8 (x0 : Int), .int .u8 (x1 : Int), .int .u8 (x2 : Int)] := by
  simp [Program.keyLits, Tryz.underlying181, Tryz.underlying5, cells3, cells8, wf8 b0, wf8 b1, wf8 b2, List.range_succ]
theorem key_of3 (s : ByteArray) (q : Nat) : keyOf Tryz.prog 181 (val3 s q) = some (key3 s q) := by
  have b0 := bt_lt s q
  have b1 := bt_lt s (q + 1)
  have b2 := bt_lt s (q + 2)
  unfold keyOf val3 key3
  generalize bt s q = x0 at *
  generalize bt s (q + 1) = x1 at *
  generalize bt s (q + 2) = x2 at *
  obtain ⟨n, hn⟩ : ∃ n, Tryz.prog.types.size = n + 1 := ⟨Tryz.prog.types.size - 1, by have h : (181 : Nat) < Tryz.prog.types.size := row3; omega⟩
  have hl := key_lits b0 b1 b2 n
  rw [hn]
  generalize n + 1 + 1 = m at *
  have hf : (Value.agg #[.int .u8 (x0 : Int), .int .u8 (x1 : Int), .int .u8 (x2 : Int)]).formed Tryz.prog 181 = true := by simp [Value.formed, Tryz.underlying181, cells3]
  rw [Tryz.underlying181, keyType3, hf]
  simp [Value.cells, hl, keyBytes, keyBytes8 b0, keyBytes8 b1, keyBytes8 b2]
theorem key3_ne {s : ByteArray} {p q : Nat} (h : heads (bt s) p q = false) : key3 s p ≠ key3 s q := by
  intro e
  unfold key3 at e
  simp only [Lit.string.injEq, List.cons.injEq, and_true] at e
  obtain ⟨e0, e1, e2⟩ := e
  have hb : ∀ {x y : Nat}, x < 256 → y < 256 → UInt8.ofNat x = UInt8.ofNat y → x = y := fun {x y} hx hy h => by
    have := congrArg UInt8.toNat h
    simp at this
    omega
  have := heads_iff.2 ⟨hb (bt_lt s _) (bt_lt s _) e0, hb (bt_lt s _) (bt_lt s _) e1, hb (bt_lt s _) (bt_lt s _) e2⟩
  rw [h] at this
  cases this
theorem key3_eq {s : ByteArray} {p q : Nat} (h : heads (bt s) p q = true) : key3 s p = key3 s q := by
  obtain ⟨h0, h1, h2⟩ := heads_iff.1 h
  unfold key3
  rw [h0, h1, h2]
/-- The map tells of each place where its bytes stood last below p. -/
def Tells3 (s : ByteArray) (p : Nat) (D : Dm) : Prop := ∀ q, q + 3 ≤ s.size → Maps.has D (key3 s q) = decide (prevF (bt s) q p ≠ -1) ∧ D.atKey (key3 s q) (.lit (.int .i64 0)) = .lit (.int .i64 (if prevF (bt s) q p = -1 then 0 else prevF (bt s) q p))
/-- Block a is a finder of the text s, at the place p; the places below r are linked; all that it has belongs to c. -/
structure FinAt (w : World) (O : Paint) (c a : Nat) (s : ByteArray) (window cut : Int) (p r : Nat) (B : Nat) (v : Value) (xs : List Int) (D : Dm) : Prop where
  blk : Blk w O c a (.cells #[.string s, .int .i64 window, .int .i64 cut, .int .i64 (p : Int), .map (some B), v] 136 (0, 0))
  held : Held w O c 3 v (xs.map (Value.int .i64))
  len : xs.length = s.size
  own : w.ownsMap Tryz.prog 181 (plainElem Tryz.prog 3) B r D
  ownC : O B = c
  tells : p + 3 ≤ s.size → Tells3 s r D
  prev : ∀ q, q < r → q + 3 ≤ s.size → xs[q]? = some (prevF (bt s) q q)
  place : p ≤ s.size
  small : s.size ≤ 1000000000000
theorem ret_num {k : IntKind} {a b : Int} (h : a = b) : Ending.returned (.int k a) = .returned (.int k b) := by rw [h]
/-- What a finder's walk reads: its text and its place. -/
theorem FinAt.cells {w : World} {O : Paint} {c a : Nat} {s : ByteArray} {window cut : Int} {p r B : Nat} {v : Value} {xs : List Int} {D : Dm} (h : FinAt w O c a s window cut p r B v xs D) :
    w.cell? ⟨a, 0, none⟩ = some (.string s) ∧ w.cell? ⟨a, 1, none⟩ = some (.int .i64 window) ∧ w.cell? ⟨a, 2, none⟩ = some (.int .i64 cut) ∧ w.cell? ⟨a, 3, none⟩ = some (.int .i64 (p : Int)) ∧ w.cell? ⟨a, 4, none⟩ = some (.map (some B)) ∧ w.cell? ⟨a, 5, none⟩ = some v :=
  (Rc.six h.blk.1).1
set_option maxHeartbeats 400000 in
theorem left_raw {w : World} {a : Nat} {s : ByteArray} {p : Nat} (h0 : w.cell? ⟨a, 0, none⟩ = some (.string s)) (h3 : w.cell? ⟨a, 3, none⟩ = some (.int .i64 (p : Int))) (hp : p ≤ s.size) (hs : s.size ≤ 1000000000000) :
    Calls Tryz.prog 66 #[.pointer (some ⟨a, 0, none⟩)] w fun x w' => x = .returned (.int .i64 ((s.size : Int) - p)) ∧ ∃ n, w' = w.drewN n := by
  go_enter Tryz.func66, Tryz.ntmps66
  go_wp2
  go_quiet (fail)
  go_wp2
  go_ret
  exact ⟨rfl, _, rfl⟩
set_option maxHeartbeats 2000000 in
theorem matching_raw {w : World} {a : Nat} {s : ByteArray} {p q most : Nat} (h0 : w.cell? ⟨a, 0, none⟩ = some (.string s)) (h3 : w.cell? ⟨a, 3, none⟩ = some (.int .i64 (p : Int))) (hq : q < p) (hm : p + most ≤ s.size) (hs : s.size ≤ 1000000000000) :
    Calls Tryz.prog 89 #[.pointer (some ⟨a, 0, none⟩), .int .i64 (q : Int), .int .i64 (most : Int)] w fun x w' => x = .returned (.int .i64 (mat (bt s) p q 0 most : Int)) ∧ ∃ n, w' = w.drewN n := by
  go_enter Tryz.func89, Tryz.ntmps89
  go_wp2
  go_loopw [7] (fun i wr => ∃ k n : Nat, k ≤ most ∧ mat (bt s) p q k (most - k) = mat (bt s) p q 0 most ∧ i = .int .i64 k ∧ wr = w.drewN n) (fun i _ => most - (intOf i).toNat)
  case atStart => exact ⟨0, 0, by omega, rfl, rfl, rfl⟩
  case round =>
    obtain ⟨k, n, hk, hmat, rfl, rfl⟩ := hrel
    have HM := Lib.hid hmat
    clear hmat
    have g0 : (w.drewN n).cell? ⟨a, 0, none⟩ = some (.string s) := h0
    have g3 : (w.drewN n).cell? ⟨a, 3, none⟩ = some (.int .i64 (p : Int)) := h3
    by_cases hlt : k < most
    · have hpk : p + k < s.size := by omega
      have hqk : q + k < s.size := by omega
      have e1 : (0 : Int) ≤ (p : Int) + (k : Int) := by omega
      have e2 : (p : Int) + (k : Int) < (s.size : Int) := by omega
      have e3 : ((p : Int) + (k : Int)).toNat = p + k := by omega
      have e4 : IntKind.i64.wrap ((p : Int) + (k : Int)) = (p : Int) + (k : Int) := IntWalk.i64_in _ (by omega)
      have d1 : (0 : Int) ≤ (q : Int) + (k : Int) := by omega
      have d2 : (q : Int) + (k : Int) < (s.size : Int) := by omega
      have d3 : ((q : Int) + (k : Int)).toNat = q + k := by omega
      have d4 : IntKind.i64.wrap ((q : Int) + (k : Int)) = (q : Int) + (k : Int) := IntWalk.i64_in _ (by omega)
      have hlt' : decide (k < most) = true := by simpa using hlt
      by_cases he : bt s (p + k) = bt s (q + k)
      · have HE : Hid (mat (bt s) p q (k + 1) (most - (k + 1)) = mat (bt s) p q 0 most) := Lib.hid (by
          rw [← HM.out, show most - k = (most - (k + 1)) + 1 from by omega, mat, if_pos he])
        have hbe : ((s[q + k].toNat : Int) == (s[p + k].toNat : Int)) = true := by rw [bt_at, bt_at, he]; simp
        clear he HM
        go_wp2
        go_quiet (fail)
        clear e4 d4
        go_wp2
        go_roundw
        case rel => exact ⟨k + 1, _, by omega, HE.out, by go_num, rfl⟩
        case measure => simp [intOf]; omega
      · have HE : Hid (mat (bt s) p q 0 most = k) := Lib.hid (by
          rw [← HM.out, show most - k = (most - (k + 1)) + 1 from by omega, mat, if_neg he])
        have hbe : ((s[q + k].toNat : Int) == (s[p + k].toNat : Int)) = false := by rw [bt_at, bt_at, beq_eq_false_iff_ne]; omega
        clear he HM
        go_wp2
        go_quiet (fail)
        clear e4 d4
        go_wp2
        go_ret
        exact ⟨ret_num (by rw [HE.out]), _, by rw [World.drewN_drewN]⟩
    · obtain rfl : k = most := by omega
      have HE : Hid (mat (bt s) p q 0 k = k) := Lib.hid (by rw [← HM.out, Nat.sub_self, mat])
      have hlt' : decide (k < k) = false := by simp
      clear HM
      go_wp2
      go_quiet (fail)
      go_wp2
      go_ret
      exact ⟨ret_num (by rw [HE.out]), _, by rw [World.drewN_drewN]⟩
end Go.Proofs.YtoneghmahdjgbaaGreat.Ch
end
section
namespace Go.Proofs.YtoneghmahdjgbaaGreat.Ch
open Go.RowKit Go.Maps
open Mt
theorem infoI : (Tryz.prog.info? 3).map (fun i => (i.zero, i.size, i.bytes)) = some (some (.int .i64 0), 1, 8) := by kernel_rfl
theorem tells_none (s : ByteArray) : Tells3 s 0 (.map []) := fun q _ => ⟨by simp [prevF]; rfl, by simp [prevF]; rfl⟩
set_option maxHeartbeats 1000000 in
theorem new_any (s : ByteArray) (window cut : Int) (w : World) (O : Paint) (c : Nat) (hs : s.size ≤ 1000000000) :
    Calls Tryz.prog 43 #[.string s, .int .i64 window, .int .i64 cut] w fun x w' => ∃ a O' B v xs D, x = .returned (.pointer (some ⟨a, 0, none⟩)) ∧ Step [] w O w' O' ∧ FinAt w' O' c a s window cut 0 0 B v xs D := by
  obtain ⟨i0, hi, hz0, hz1, hz2⟩ := info_parts infoI
  have hmm := run_makeMap (P := Tryz.prog) 133 w
  obtain ⟨w2, hmk, hrow, hgr⟩ := run_make_full (P := Tryz.prog) (w.alloc (.map #[] 0)) 0 134 3 i0 (.int .i64 0) 1 Tryz.underlying134 hi hz0 hz1 .i64 .i64 s.size (by rw [hz2]; omega) (by unfold maxLen; omega) (Nat.zero_le _)
  have hmc : (madeCells (Value.int .i64 0).cells (s.size * 1)).toList = (List.replicate s.size (0 : Int)).map (Value.int .i64) := by
    rw [Nat.mul_one]
    show (madeCells #[.int .i64 0] s.size).toList = _
    rw [toList_madeCells_one]
    simp
  rw [hmc] at hrow
  have hown := (World.ownsMap_made w Tryz.prog 181 (plainElem (H := Unit) Tryz.prog 3)).kept hgr (by simp)
  have HR := Lib.hid hrow
  have HO := Lib.hid hown
  have HG := Lib.hid hgr
  have hsz : (w.alloc (.map #[] 0)).heap.size = w.heap.size + 1 := World.size_alloc _ _
  rw [hsz] at hmk HR
  have hz2 := HG.out.size
  rw [hsz] at hz2
  clear hrow hown hgr hmc hsz
  go_enter Tryz.func43, Tryz.ntmps43
  go_wp2_with fail
  go_ret
  refine ⟨w2.heap.size, Step.paint O w c, w.heap.size, .slice (some ⟨w.heap.size + 1, 0, none⟩) s.size s.size, List.replicate s.size 0, .map [], rfl, ?_, ?_⟩
  · exact ((((Step.refl [] w O).alloc _).grown HG.out (fun k hk => by cases hk)).alloc _).repaint c
  · have hp : ∀ k, w.heap.size ≤ k → Step.paint O w c k = c := fun k hk => Step.paint_new hk
    exact ⟨⟨heap_alloc_new _ _, hp _ (by omega)⟩, ⟨by rw [List.length_map, List.length_replicate]; exact World.ownsRow.alloc HR.out _, fun k hk => hp k (by simp [Value.ownBlock] at hk; omega)⟩, by simp, HO.out.alloc _, hp _ (Nat.le_refl _), fun _ => tells_none s, fun q hq => by omega, Nat.zero_le _, by omega⟩
section
variable {cs : List Nat} {w w' : World} {O O' : Paint} {c a : Nat} {s : ByteArray} {window cut : Int} {p r B : Nat} {v : Value} {xs : List Int} {D : Dm}
theorem FinAt.ne (h : FinAt w O c a s window cut p r B v xs D) : a ≠ B ∧ v.ownBlock ≠ some a ∧ v.ownBlock ≠ some B := by
  obtain ⟨es, clock, hb, _⟩ := h.own
  refine ⟨?_, ?_, ?_⟩
  · rintro rfl
    rw [h.blk.1] at hb
    cases hb
  · intro e
    rcases h.held.row.2 with ⟨e1, _⟩ | ⟨g, cap, cur, rfl, _, hg, _⟩
    · rw [e1] at e; simp [Value.ownBlock] at e
    · simp [Value.ownBlock] at e
      subst e
      rw [h.blk.1] at hg
      simp at hg
  · intro e
    rcases h.held.row.2 with ⟨e1, _⟩ | ⟨g, cap, cur, rfl, _, hg, _⟩
    · rw [e1] at e; simp [Value.ownBlock] at e
    · simp [Value.ownBlock] at e
      subst e
      rw [hb] at hg
      cases hg
theorem FinAt.step (h : FinAt w O c a s window cut p r B v xs D) (hs : Step cs w O w' O') (hc : c ∉ cs) : FinAt w' O' c a s window cut p r B v xs D := by
  refine ⟨h.blk.step hs hc, h.held.step hs hc, h.len, ?_, (hs.ext B h.own.lt).trans h.ownC, h.tells, h.prev, h.place, h.small⟩
  have hlt := h.own.lt
  obtain ⟨es, clock, hb, h1, h2, h3⟩ := h.own
  exact ⟨es, clock, (hs.block hlt (by rw [h.ownC]; exact hc)).trans hb, h1, h2, h3⟩
theorem FinAt.below (h : FinAt w O c a s window cut p r B v xs D) (hb : Below w.heap.size w w') : FinAt w' O c a s window cut p r B v xs D := h.step (Step.of_below_same hb O) (by simp)
/-- The next place is looked at. -/
theorem FinAt.move (h : FinAt w O c a s window cut p r B v xs D) (hp : p < s.size) (hr : p + 3 ≤ s.size → r = p + 1) (hr2 : s.size < p + 3 → r = p) : FinAt (w.setCell ⟨a, 3, none⟩ (.int .i64 ((p : Int) + 1))) O c a s window cut (p + 1) (p + 1) B v xs D ∧ Step [c] w O (w.setCell ⟨a, 3, none⟩ (.int .i64 ((p : Int) + 1))) O := by
  obtain ⟨n1, n2, n3⟩ := h.ne
  have hrp : r ≤ p + 1 := by omega
  refine ⟨⟨by simpa using h.blk.setCell 3 (.int .i64 ((p : Int) + 1)), h.held.setCell_other (p := ⟨a, 3, none⟩) n2 _, h.len, (h.own.setCell (a := ⟨a, 3, none⟩) (Ne.symm n1) _).mono hrp, h.ownC, fun h3 => ?_, fun q hq h3 => ?_, hp, h.small⟩, (Step.refl [c] w O).setCell (p := ⟨a, 3, none⟩) (.inl (by simp [h.blk.2])) _⟩
  · have := h.tells (by omega)
    rw [hr (by omega)] at this
    exact this
  · exact h.prev q (by omega) h3
/-- The place is linked. -/
theorem FinAt.stored {g cap : Nat} (h : FinAt w O c a s window cut p p B (.slice (some ⟨g, 0, none⟩) xs.length cap) xs D) : FinAt (w.setCell ⟨g, p, none⟩ (.int .i64 (prevF (bt s) p p))) O c a s window cut p p B (.slice (some ⟨g, 0, none⟩) xs.length cap) (xs.set p (prevF (bt s) p p)) D ∧ Step [c] w O (w.setCell ⟨g, p, none⟩ (.int .i64 (prevF (bt s) p p))) O := by
  obtain ⟨n1, n2, n3⟩ := h.ne
  have hga : a ≠ g := by rintro rfl; exact n2 rfl
  have hgB : B ≠ g := by rintro rfl; exact n3 rfl
  refine ⟨⟨h.blk.setCell_other (p := ⟨g, p, none⟩) (Ne.symm hga) _, ?_, by rw [List.length_set]; exact h.len, h.own.setCell (a := ⟨g, p, none⟩) hgB _, h.ownC, h.tells, fun q hq h3 => ?_, h.place, h.small⟩, (Step.refl [c] w O).setCell (p := ⟨g, p, none⟩) (.inl (by simp [h.held.paint g rfl])) _⟩
  · have := h.held.set p (.int .i64 (prevF (bt s) p p))
    rw [List.map_set]
    exact this
  · rw [List.getElem?_set_ne (by omega)]
    exact h.prev q hq h3
theorem tells_put {s : ByteArray} {p : Nat} {D : Dm} (_hp : p + 3 ≤ s.size) (hm : IsMap D) (h : Tells3 s p D) : Tells3 s (p + 1) (D.put (key3 s p) (.lit (.int .i64 (p : Int)))) := by
  intro q hq
  have hk : WideAt.IsKeyLit (key3 s p) := law3.key (key_of3 s p)
  rw [prevF]
  by_cases hh : heads (bt s) q p = true
  · rw [if_pos hh, key3_eq hh, Maps.has_put_same hm hk, Maps.atKey_put_same hm hk]
    refine ⟨?_, ?_⟩
    · simp
    · rw [if_neg (by omega)]
  · rw [if_neg hh, Maps.has_put_other (key3_ne (by simpa using hh)), Maps.atKey_put_other (key3_ne (by simpa using hh))]
    exact h q hq
theorem FinAt.mapped {g cap : Nat} (h : FinAt w O c a s window cut p p B (.slice (some ⟨g, 0, none⟩) xs.length cap) xs D) (hp : p + 3 ≤ s.size) (hx : xs[p]? = some (prevF (bt s) p p))
    (hown : w'.ownsMap Tryz.prog 181 (plainElem Tryz.prog 3) B (p + 1) (D.put (key3 s p) (.lit (.int .i64 (p : Int))))) (hg : w.grownBy w' (some B)) :
    FinAt w' O c a s window cut p (p + 1) B (.slice (some ⟨g, 0, none⟩) xs.length cap) xs (D.put (key3 s p) (.lit (.int .i64 (p : Int)))) ∧ Step [c] w O w' O := by
  obtain ⟨n1, n2, n3⟩ := h.ne
  have hgB : g ≠ B := by rintro rfl; exact n3 rfl
  have hst : Step [c] w O w' O := (Step.refl [c] w O).grown hg (fun k hk => by cases hk; exact .inl (by simp [h.ownC]))
  refine ⟨⟨⟨(hg.block a h.blk.lt (by simpa using n1)).trans h.blk.1, h.blk.2⟩, ⟨?_, h.held.paint⟩, h.len, hown, h.ownC, fun _ => tells_put hp (h.own.isMap) (h.tells hp), fun q hq h3 => ?_, h.place, h.small⟩, hst⟩
  · exact ownsRow_frame h.held.row ((Frame.refl (fun k => k = B) w).grown hg (fun k hk => by cases hk; exact .inl rfl)) (fun k hk e1 => n3 (by rw [hk, e1]))
  · by_cases e : q = p
    · subst e; exact hx
    · exact h.prev q (by omega) h3
end
end Go.Proofs.YtoneghmahdjgbaaGreat.Ch
end
section
namespace Go.Proofs.YtoneghmahdjgbaaGreat.Ch
open Go.RowKit Go.Maps
open Mt
theorem size8 : (Tryz.prog.info? 5).map (·.size) = some 1 := by kernel_rfl
/-- 'copy(h[:], t)': of a longer text the first three bytes. -/
theorem run_copy_three {P : Program} (w : World) (dT sT ty elem : TypeId) (b dCap : Nat) (t : ByteArray) (x0 x1 x2 : UInt8) (r : List UInt8) (hL : t.data.toList = x0 :: x1 :: x2 :: r) (T : TypeId) (z0 z1 z2 : Value)
    (hu : P.underlying dT = some (.slice elem)) (hs : (P.info? elem).map (·.size) = some 1) (hb : w.heap[b]? = some (.cells #[z0, z1, z2] T (0, 0))) :
    (Builtin.copy_ #[dT, sT] ty #[.slice (some ⟨b, 0, none⟩) 3 dCap, .string t]).run P w = .ok (goInt 3) (((w.setCell ⟨b, 0, none⟩ (.int .u8 (x0.toNat : Int))).setCell ⟨b, 1, none⟩ (.int .u8 (x1.toNat : Int))).setCell ⟨b, 2, none⟩ (.int .u8 (x2.toNat : Int))) := by
  have hsz : t.size = r.length + 3 := by
    have : t.data.toList.length = t.size := by simp
    rw [← this, hL]; simp
  have hmin : Nat.min t.size 3 = 3 := by rw [hsz]; exact Nat.min_eq_right (by omega)
  have hcell : ∀ j, j < 3 → (w.cell? ⟨b, 0 + 0 + j, none⟩).isSome = true := by
    intro j hj
    have : j = 0 ∨ j = 1 ∨ j = 2 := by omega
    rcases this with rfl | rfl | rfl <;> simp [World.cell?, hb]
  have hfree : ∀ j, j < 3 → w.frozen? ⟨b, 0 + 0 + j, none⟩ = false := by
    intro j hj
    simp [World.frozen?, hb]
  have hst := run_storeCells_cells (P := P) b 0 [.int .u8 (x0.toNat : Int), .int .u8 (x1.toNat : Int), .int .u8 (x2.toNat : Int)] 0 w hcell hfree (by
    intro v hv
    simp at hv
    rcases hv with rfl | rfl | rfl <;> rfl)
  cases hq : P.info? elem with
  | none => simp [hq] at hs
  | some i =>
    simp [hq] at hs
    simp [Builtin.copy_, run_underlying hu, Builtin.lenOf, Builtin.firstCells, sizeOf, typeInfo, hq, hmin, hL, hst, Result.andThen]
    rfl
/-- .. as a step of a region that draws. -/
theorem step_copy_three {P : Program} {ops : Array Oper} {o : Oper} {a : Act} {w : World} {K : Act → World → Prop} {Q : Exit → Act → World → Prop} {E : Prop}
    (hg : o.guard = none) (d x : Operand) (dT sT : TypeId) (hop : o.op = Op.call { callee := Callee.builtin Builtin.copy, args := #[d, x], argTypes := #[dT, sT] })
    (elem : TypeId) (hu : P.underlying dT = some (.slice elem)) (hs : (P.info? elem).map (·.size) = some 1) (b dCap : Nat) (hd : a.eval d = .slice (some ⟨b, 0, none⟩) 3 dCap) (t : ByteArray) (hx : a.eval x = .string t)
    (x0 x1 x2 : UInt8) (r : List UInt8) (hL : t.data.toList = x0 :: x1 :: x2 :: r) (T : TypeId) (z0 z1 z2 : Value) (hb : w.heap[b]? = some (.cells #[z0, z1, z2] T (0, 0)))
    (hK : K (a.put o.dst (goInt 3)) (((w.setCell ⟨b, 0, none⟩ (.int .u8 (x0.toNat : Int))).setCell ⟨b, 1, none⟩ (.int .u8 (x1.toNat : Int))).setCell ⟨b, 2, none⟩ (.int .u8 (x2.toNat : Int)))) :
    if Region.wanted o (yielded ops a.tmps) = true then Oper.wp P o a w K Q else E := by
  have hw : Region.wanted o (yielded ops a.tmps) = true := by simp [Region.wanted, hg]
  rw [if_pos hw]
  have hrun := run_copy_three (P := P) w dT sT o.type elem b dCap t x0 x1 x2 r hL T z0 z1 z2 hu hs hb
  unfold Oper.wp
  simp [execOp, hop, resolve, invoke, builtin, hd, hx, hrun, Result.andThen]
  exact hK
theorem three_bytes {s : ByteArray} {p : Nat} (hp : p + 3 ≤ s.size) : ∃ r, (s.extract p s.size).data.toList = s[p] :: s[p + 1] :: s[p + 2] :: r := by
  refine ⟨s.data.toList.drop (p + 3), ?_⟩
  have e : (s.extract p s.size).data.toList = s.data.toList.drop p := by
    simp [ByteArray.data_extract]
    rw [List.take_of_length_le (by simp)]
  rw [e, List.drop_eq_getElem_cons (by simp; omega), List.drop_eq_getElem_cons (by simp; omega), List.drop_eq_getElem_cons (by simp; omega)]
  rfl
theorem three_laid {w W : World} {H : Nat} {z0 z1 z2 x0 x1 x2 : Value} {T : TypeId} (hb : Below H w W) (hz : W.heap[H]? = some (.cells #[z0, z1, z2] T (0, 0))) :
    Below H w (((W.setCell ⟨H, 0, none⟩ x0).setCell ⟨H, 1, none⟩ x1).setCell ⟨H, 2, none⟩ x2).drew ∧ (((W.setCell ⟨H, 0, none⟩ x0).setCell ⟨H, 1, none⟩ x1).setCell ⟨H, 2, none⟩ x2).drew.heap[H]? = some (.cells #[x0, x1, x2] T (0, 0)) := by
  have h1 := heap_setCell_same W H 0 _ _ x0 hz
  have h2 := heap_setCell_same _ H 1 _ _ x1 h1
  have h3 := heap_setCell_same _ H 2 _ _ x2 h2
  have hb' := ((hb.setCell (p := ⟨H, 0, none⟩) (Nat.le_refl _) x0).setCell (p := ⟨H, 1, none⟩) (Nat.le_refl _) x1).setCell (p := ⟨H, 2, none⟩) (Nat.le_refl _) x2
  have h4 : (((W.setCell ⟨H, 0, none⟩ x0).setCell ⟨H, 1, none⟩ x1).setCell ⟨H, 2, none⟩ x2).heap[H]? = some (.cells #[x0, x1, x2] T (0, 0)) := by simpa using h3
  exact ⟨⟨hb'.os, hb'.tape, hb'.output, hb'.size, hb'.block⟩, h4⟩
theorem three {w : World} {X : Nat} {a b c : Value} {t : TypeId} (h : w.heap[X]? = some (.cells #[a, b, c] t (0, 0))) :
    (w.cell? ⟨X, 0, none⟩ = some a ∧ w.cell? ⟨X, 1, none⟩ = some b ∧ w.cell? ⟨X, 2, none⟩ = some c) ∧ (w.frozen? ⟨X, 0, none⟩ = false ∧ w.frozen? ⟨X, 1, none⟩ = false ∧ w.frozen? ⟨X, 2, none⟩ = false) := by
  refine ⟨⟨?_, ?_, ?_⟩, ?_, ?_, ?_⟩ <;> simp [World.cell?, World.frozen?, h]
theorem wf64 {x : Nat} (h : x ≤ 1000000000000) : (Lit.int .i64 (x : Int)).wf = true := by
  have h1 : (IntKind.i64.min : Int) ≤ x := by rw [show IntKind.i64.min = -9223372036854775808 from rfl]; omega
  simp [Lit.wf, h1]
  omega
theorem zeroE (w : World) : (zeroValue 3).run Tryz.prog w = .ok (.int .i64 0) w := by kernel_rfl
section
variable {w w' : World} {O O' : Paint} {c a : Nat} {s : ByteArray} {window cut : Int} {p r B : Nat} {v : Value} {xs : List Int} {D : Dm}
/-- What the map tells of the place's head. -/
theorem FinAt.look (h : FinAt w O c a s window cut p p B v xs D) (hp : p + 3 ≤ s.size) :
    (Instr.lookup 133 (.map (some B)) (val3 s p) true).run Tryz.prog w = .ok (.tuple #[.int .i64 (if prevF (bt s) p p = -1 then 0 else prevF (bt s) p p), .bool (decide (prevF (bt s) p p ≠ -1))]) w := by
  obtain ⟨v0, ps0, hrun, hR⟩ := h.own.look_ok law3 Tryz.underlying133 (zeroE w) (plainElem_int Tryz.underlying3 (by decide)) (key_of3 s p)
  obtain ⟨h1, h2⟩ := h.tells hp p hp
  obtain ⟨n, rfl, hz, _⟩ := plainElem_int_inv Tryz.underlying3 hR
  have hz1 := congrArg Prod.fst hz
  simp only [h2] at hz1
  rw [h1] at hrun
  cases hz1
  exact hrun
theorem FinAt.drewN (h : FinAt w O c a s window cut p r B v xs D) (n : Nat) : FinAt (w.drewN n) O c a s window cut p r B v xs D := h.step ((Step.refl [] w O).drewN n) (by simp)
theorem FinAt.drew (h : FinAt w O c a s window cut p r B v xs D) : FinAt w.drew O c a s window cut p r B v xs D := h.step ((Step.refl [] w O).drew) (by simp)
/-- What link leaves. -/
def LinkTo (w : World) (O : Paint) (c a : Nat) (s : ByteArray) (window cut : Int) (p B : Nat) (v : Value) (x : Ending) (w' : World) : Prop := x = .returned (.tuple #[]) ∧ ∃ xs' D', Step [c] w O w' O ∧ FinAt w' O c a s window cut p (p + 1) B v xs' D'
set_option maxRecDepth 100000 in
set_option maxHeartbeats 4000000 in
theorem link_any (h : FinAt w O c a s window cut p p B v xs D) (hp : p + 3 ≤ s.size) :
    Calls Tryz.prog 67 #[.pointer (some ⟨a, 0, none⟩)] w (LinkTo w O c a s window cut p B v) := by
  have hxl := h.len
  obtain ⟨g, cap, hv, hcap, hcm, hOg, hgl⟩ := h.held.form (by rw [List.length_map]; omega)
  rw [List.length_map] at hv hcap
  subst hv
  have HF := Lib.hid h
  have HF0 := Lib.hid h
  obtain ⟨h0, h1, h2, h3, h4, h5⟩ := h.cells
  have hsm := h.small
  clear h hOg hcm
  go_enter Tryz.func67, Tryz.ntmps67
  go_upto_region 1 with (fail)
  have HH := Lib.hid (heap_alloc_new w (.cells #[.int .u8 0, .int .u8 0, .int .u8 0] 181))
  have HF1 := Lib.hid (HF.out.below ((Below.refl _ w).alloc (Nat.le_refl _) (.cells #[.int .u8 0, .int .u8 0, .int .u8 0] 181)))
  have HB1 := Lib.hid ((Below.refl _ w).alloc (Nat.le_refl _) (.cells #[.int .u8 0, .int .u8 0, .int .u8 0] 181))
  clear h0 h1 h2 h3 h4 h5 HF hgl
  obtain ⟨h0, h1, h2, h3, h4, h5⟩ := HF1.out.cells
  generalize w.alloc (.cells #[.int .u8 0, .int .u8 0, .int .u8 0] 181) = W1 at *
  generalize hHe : w.heap.size = H at *
  have HHE := Lib.hid hHe
  clear hHe
  obtain ⟨r, hL⟩ := three_bytes hp
  have HL := Lib.hid hL
  clear hL
  go_cut [15] (fun _ wc => Below H w wc ∧ wc.heap[H]? = some (.cells #[.int .u8 (bt s p : Int), .int .u8 (bt s (p + 1) : Int), .int .u8 (bt s (p + 2) : Int)] 181 (0, 0)))
  case first =>
    as_aux_lemma =>
    -- BEGIN one
    have e1 : (0 : Int) ≤ (p : Int) := by omega
    have e2 : (p : Int) ≤ (s.size : Int) := by omega
    have e3 : p ≤ s.size := by omega
    go_region_law ((refine step_copy_three rfl (.tmp 5) (.tmp 14) 104 9 rfl 5 Tryz.underlying104 size8 H 3 rfl (s.extract p s.size) rfl s[p] s[p + 1] s[p + 2] r HL.out 181 _ _ _ (show W1.drew.heap[H]? = _ from HH.out) ?_))
    all_goals
      go_wp2_with fail
      go_meet
      have := three_laid (x0 := .int .u8 (s[p].toNat : Int)) (x1 := .int .u8 (s[p + 1].toNat : Int)) (x2 := .int .u8 (s[p + 2].toNat : Int)) HB1.out HH.out
      rw [bt_at, bt_at, bt_at] at this
      rw [bt_at, bt_at, bt_at]
      exact this
    -- END one
  case rest =>
    obtain ⟨hb2, hh2⟩ := hcut
    have hH : H ≤ wc.heap.size := by have := lt_of_heap hh2; omega
    have HF2 := Lib.hid (HF0.out.below (by rw [HHE.out]; exact hb2))
    have HS2 : Hid (Step [] w O wc O) := Lib.hid (Step.of_below_same (by rw [HHE.out]; exact hb2) O)
    have HH2 := Lib.hid hh2
    obtain ⟨⟨c0, c1, c2⟩, _⟩ := three hh2
    clear h0 h1 h2 h3 h4 h5 HF1 HB1 HH HL hb2 hh2 HF0
    obtain ⟨h0, h1, h2, h3, h4, h5⟩ := HF2.out.cells
    obtain ⟨pv, hpv⟩ : ∃ pv, pv = prevF (bt s) p p := ⟨_, rfl⟩
    have HPV := Lib.hid hpv
    have k1 : ∀ n, (Instr.lookup 133 (.map (some B)) (.agg #[.int .u8 (bt s p : Int), .int .u8 (bt s (p + 1) : Int), .int .u8 (bt s (p + 2) : Int)]) true).run Tryz.prog (wc.drewN n) = .ok (.tuple #[.int .i64 (if pv = -1 then 0 else pv), .bool (decide (pv ≠ -1))]) (wc.drewN n) := fun n => by rw [hpv]; exact (HF2.out.drewN n).look hp
    have k2 := k1 1
    clear hpv
    have HF3 := fun n => (HF2.out.drewN n)
    have HS3 : ∀ n, Step [] w O (wc.drewN n) O := fun n => (HS2.out.drewN n)
    have HH3 : ∀ n, (wc.drewN n).heap[H]? = _ := fun n => HH2.out
    have KF3 := Lib.hid HF3
    have KS3 := Lib.hid HS3
    have KH3 := Lib.hid HH3
    clear HF3 HS3 HH3
    by_cases hm : pv = -1
    · subst hm
      rw [if_pos rfl] at k1 k2
      have k0 : decide ((-1 : Int) ≠ -1) = false := by decide
      rw [k0] at k1 k2
      clear k0
      as_aux_lemma =>
      go_upto_region 2 with (fail)
      go_quiet (fail)
      clear k1 k2
      have HF3 := Lib.hid (KF3.out nq)
      have HS3 := Lib.hid (KS3.out nq)
      have HH3 := Lib.hid (KH3.out nq)
      generalize wc.drewN nq = W3 at *
      clear HF2 HS2 HH2 KF3 KS3 KH3 h0 h1 h2 h3 h4 h5 c0 c1 c2 hH
      go_upto_region 5 with (fail)
      obtain ⟨⟨c0, c1, c2⟩, _⟩ := three HH3.out
      obtain ⟨h0, h1, h2, h3, h4, h5⟩ := HF3.out.cells
      have hpx : p < xs.length := by omega
      have hg0 := HF3.out.held.cell (j := p) (x := .int .i64 xs[p]) (by rw [List.getElem?_map, List.getElem?_eq_getElem hpx]; rfl)
      have hgf := HF3.out.held.free p
      have hp0 : (0 : Int) ≤ (p : Int) := by omega
      have hpx' : (p : Int) < (xs.length : Int) := by omega
      have hst := HF3.out.stored
      rw [← HPV.out] at hst
      have HF4 := Lib.hid hst.1
      have HS4 := Lib.hid hst.2
      have hgH : g ≠ H := HF3.out.held.ne HH3.out (by decide)
      have HH4 : Hid ((W3.setCell ⟨g, p, none⟩ (.int .i64 (-1))).heap[H]? = _) := Lib.hid ((Below.heap_setCell _ _ _ _ (Ne.symm hgH)).trans HH3.out)
      have hx4 : (xs.set p ((-1) : Int))[p]? = some (prevF (bt s) p p) := by rw [← HPV.out, List.getElem?_set_self hpx]
      have HX4 := Lib.hid hx4
      clear hst hx4 hgH
      go_region
      all_goals
        go_upto_region 6 with (fail)
        have HS5 := Lib.hid (HS3.out.mono (ds := [c]) (by simp) |>.trans HS4.out |>.drew)
        have HF5 := Lib.hid HF4.out.drew
        have HH5 : Hid ((W3.setCell ⟨g, p, none⟩ (.int .i64 (-1))).drew.heap[H]? = _) := Lib.hid HH4.out
        clear h0 h1 h2 h3 h4 h5 c0 c1 c2 hg0 hgf HF3 HS3 HH3 HF4 HS4 HH4
        generalize (W3.setCell ⟨g, p, none⟩ (.int .i64 (-1))).drew = W5 at *
        generalize xs.set p (-1) = ys at *
        have hyl : ys.length = xs.length := by have := HF5.out.len; omega
        rw [← hyl] at HF5
        obtain ⟨⟨c0, c1, c2⟩, _⟩ := three HH5.out
        obtain ⟨h0, h1, h2, h3, h4, h5⟩ := HF5.out.cells
        have HOW := Lib.hid HF5.out.own
        go_still_tail 9, (by kernel_rfl)
        change wpList _ _ _ _ _ W5.drew
        go_wp2_with (at_mapUpdate; refine wpList_mapUpdate_own _ rfl _ _ _ 133 rfl 181 3 law3 Tryz.underlying133 _ B p D rfl HOW.out.drew (by unfold maxLen; omega) _ _ (key3 s p) rfl rfl (key_of3 s p) (.lit (.int .i64 (p : Int))) [] (plainElem_int Tryz.underlying3 (wf64 (by omega))) ?_; intro w6 hown6 hgrow6)
        have hmap := HF5.out.drew.mapped hp HX4.out hown6 hgrow6
        have HM := Lib.hid hmap.1
        have HS6 := Lib.hid (HS5.out.drew.trans hmap.2)
        clear hmap hown6 hgrow6 HOW HF5 HS5 HH5 h0 h1 h2 h3 h4 h5 c0 c1 c2
        go_wp2_with fail
        go_end0
        have hfin := HM.out
        rw [hyl, hxl] at hfin
        exact ⟨rfl, _, _, HS6.out, hfin⟩
    · rw [if_neg hm] at k1 k2
      have k0 : decide (pv ≠ -1) = true := by simpa using hm
      rw [k0] at k1 k2
      clear k0 hm
      as_aux_lemma =>
      go_upto_region 2 with (fail)
      go_quiet (fail)
      clear k1 k2
      have HF3 := Lib.hid (KF3.out nq)
      have HS3 := Lib.hid (KS3.out nq)
      have HH3 := Lib.hid (KH3.out nq)
      generalize wc.drewN nq = W3 at *
      clear HF2 HS2 HH2 KF3 KS3 KH3 h0 h1 h2 h3 h4 h5 c0 c1 c2 hH
      go_upto_region 5 with (fail)
      obtain ⟨⟨c0, c1, c2⟩, _⟩ := three HH3.out
      obtain ⟨h0, h1, h2, h3, h4, h5⟩ := HF3.out.cells
      have hpx : p < xs.length := by omega
      have hg0 := HF3.out.held.cell (j := p) (x := .int .i64 xs[p]) (by rw [List.getElem?_map, List.getElem?_eq_getElem hpx]; rfl)
      have hgf := HF3.out.held.free p
      have hp0 : (0 : Int) ≤ (p : Int) := by omega
      have hpx' : (p : Int) < (xs.length : Int) := by omega
      have hst := HF3.out.stored
      rw [← HPV.out] at hst
      have HF4 := Lib.hid hst.1
      have HS4 := Lib.hid hst.2
      have hgH : g ≠ H := HF3.out.held.ne HH3.out (by decide)
      have HH4 : Hid ((W3.setCell ⟨g, p, none⟩ (.int .i64 pv)).heap[H]? = _) := Lib.hid ((Below.heap_setCell _ _ _ _ (Ne.symm hgH)).trans HH3.out)
      have hx4 : (xs.set p (pv : Int))[p]? = some (prevF (bt s) p p) := by rw [← HPV.out, List.getElem?_set_self hpx]
      have HX4 := Lib.hid hx4
      clear hst hx4 hgH
      go_region
      all_goals
        go_upto_region 6 with (fail)
        have HS5 := Lib.hid (HS3.out.mono (ds := [c]) (by simp) |>.trans HS4.out |>.drew)
        have HF5 := Lib.hid HF4.out.drew
        have HH5 : Hid ((W3.setCell ⟨g, p, none⟩ (.int .i64 pv)).drew.heap[H]? = _) := Lib.hid HH4.out
        clear h0 h1 h2 h3 h4 h5 c0 c1 c2 hg0 hgf HF3 HS3 HH3 HF4 HS4 HH4
        generalize (W3.setCell ⟨g, p, none⟩ (.int .i64 pv)).drew = W5 at *
        generalize xs.set p pv = ys at *
        have hyl : ys.length = xs.length := by have := HF5.out.len; omega
        rw [← hyl] at HF5
        obtain ⟨⟨c0, c1, c2⟩, _⟩ := three HH5.out
        obtain ⟨h0, h1, h2, h3, h4, h5⟩ := HF5.out.cells
        have HOW := Lib.hid HF5.out.own
        go_still_tail 9, (by kernel_rfl)
        change wpList _ _ _ _ _ W5.drew
        go_wp2_with (at_mapUpdate; refine wpList_mapUpdate_own _ rfl _ _ _ 133 rfl 181 3 law3 Tryz.underlying133 _ B p D rfl HOW.out.drew (by unfold maxLen; omega) _ _ (key3 s p) rfl rfl (key_of3 s p) (.lit (.int .i64 (p : Int))) [] (plainElem_int Tryz.underlying3 (wf64 (by omega))) ?_; intro w6 hown6 hgrow6)
        have hmap := HF5.out.drew.mapped hp HX4.out hown6 hgrow6
        have HM := Lib.hid hmap.1
        have HS6 := Lib.hid (HS5.out.drew.trans hmap.2)
        clear hmap hown6 hgrow6 HOW HF5 HS5 HH5 h0 h1 h2 h3 h4 h5 c0 c1 c2
        go_wp2_with fail
        go_end0
        have hfin := HM.out
        rw [hyl, hxl] at hfin
        exact ⟨rfl, _, _, HS6.out, hfin⟩
end
end Go.Proofs.YtoneghmahdjgbaaGreat.Ch
end
