/-
  Plain mathematics of layers 7 and 8: how many bytes match, which places begin alike, and what a chain finds. (A text is a function b from places to bytes.)
  Package chain: what a finder is in memory ('FinAt'), and contracts of left, Place, New, matching.
  Package chain: the contract of New; what becomes of a finder when others are called, and when it is written.
  Package chain: the contract of link.
-/
import Init
import Derived.Test.YteacmcckhjabmaaRcDecs
import Derived.Maps.OwnSet
import Derived.DeepKeys4
import Derived.Deep.RegionLaw
import Derived.Deep.QuietTactic
import Derived.BigQuiet
import Derived.StillTailTactics
import Derived.Deep.DeepCutAuto
import Derived.Deep.CutBlock
section
namespace Go.Proofs.Yteacmcckhjabmaa.Mt
/-- How many bytes match at the places p and q, if n do, and at most k more are looked at. -/
def mat (b : Nat → Nat) (p q : Nat) : Nat → Nat → Nat
  | n, 0 => n
  | n, k + 1 => if b (p + n) = b (q + n) then mat b p q (n + 1) k else n
theorem mat_ge (b : Nat → Nat) (p q : Nat) : ∀ (k n : Nat), n ≤ mat b p q n k
  | 0, n => Nat.le_refl _
  | k + 1, n => by
    rw [mat]
    split
    · have := mat_ge b p q k (n + 1); omega
    · exact Nat.le_refl _
theorem mat_le (b : Nat → Nat) (p q : Nat) : ∀ (k n : Nat), mat b p q n k ≤ n + k
  | 0, n => Nat.le_refl _
  | k + 1, n => by
    rw [mat]
    split
    · have := mat_le b p q k (n + 1); omega
    · omega
theorem mat_same (b : Nat → Nat) (p q : Nat) : ∀ (k n j : Nat), n ≤ j → j < mat b p q n k → b (p + j) = b (q + j)
  | 0, n, j, h1, h2 => by rw [mat] at h2; omega
  | k + 1, n, j, h1, h2 => by
    rw [mat] at h2
    split at h2
    · rename_i e
      by_cases hj : j = n
      · subst hj; exact e
      · exact mat_same b p q k (n + 1) j (by omega) h2
    · omega
theorem mat_stop (b : Nat → Nat) (p q : Nat) : ∀ (k n i : Nat), n ≤ i → i < n + k → b (p + i) ≠ b (q + i) → mat b p q n k ≤ i
  | 0, n, i, h1, h2, h => by omega
  | k + 1, n, i, h1, h2, h => by
    rw [mat]
    split
    · rename_i e
      by_cases hi : i = n
      · subst hi; exact absurd e h
      · exact mat_stop b p q k (n + 1) i (by omega) (by omega) h
    · exact h1
/-- All up to a place are the same: so many match at least. -/
theorem mat_reach (b : Nat → Nat) (p q : Nat) : ∀ (k n i : Nat), i ≤ n + k → (∀ j, n ≤ j → j < i → b (p + j) = b (q + j)) → i ≤ mat b p q n k ∨ i < n
  | 0, n, i, h1, h => by rw [mat]; omega
  | k + 1, n, i, h1, h => by
    by_cases hi : i < n
    · exact .inr hi
    · left
      rw [mat]
      by_cases hn : i = n
      · subst hn
        split
        · have := mat_ge b p q k (i + 1); omega
        · exact Nat.le_refl _
      · rw [if_pos (h n (Nat.le_refl _) (by omega))]
        rcases mat_reach b p q k (n + 1) i (by omega) (fun j h1 h2 => h j (by omega) h2) with h' | h'
        · exact h'
        · omega
/-- Where they end short of the most, the next two bytes differ. -/
theorem mat_end (b : Nat → Nat) (p q : Nat) : ∀ (k n : Nat), mat b p q n k < n + k → b (p + mat b p q n k) ≠ b (q + mat b p q n k)
  | 0, n, h => by rw [mat] at h; omega
  | k + 1, n, h => by
    rw [mat] at h ⊢
    split at h
    · rename_i e
      rw [if_pos e]
      exact mat_end b p q k (n + 1) (by omega)
    · rename_i e
      rw [if_neg e]
      exact e
theorem mat_from (b : Nat → Nat) (p q : Nat) : ∀ (m n k : Nat), (∀ j, n ≤ j → j < n + m → b (p + j) = b (q + j)) → mat b p q n (m + k) = mat b p q (n + m) k
  | 0, n, k, _ => by simp
  | m + 1, n, k, h => by
    rw [show m + 1 + k = (m + k) + 1 from by omega, mat, if_pos (h n (Nat.le_refl _) (by omega)), mat_from b p q m (n + 1) k (fun j h1 h2 => h j (by omega) (by omega))]
    congr 1
    omega
/-- Do two places begin with the same three bytes? -/
def heads (b : Nat → Nat) (p q : Nat) : Bool := b p == b q && (b (p + 1) == b (q + 1) && b (p + 2) == b (q + 2))
theorem heads_iff {b : Nat → Nat} {p q : Nat} : heads b p q = true ↔ b p = b q ∧ b (p + 1) = b (q + 1) ∧ b (p + 2) = b (q + 2) := by simp [heads]
theorem heads_trans {b : Nat → Nat} {p q : Nat} (h : heads b p q = true) (r : Nat) : heads b p r = heads b q r := by
  obtain ⟨h1, h2, h3⟩ := heads_iff.1 h
  unfold heads
  rw [h1, h2, h3]
theorem heads_self (b : Nat → Nat) (p : Nat) : heads b p p = true := heads_iff.2 ⟨rfl, rfl, rfl⟩
/-- The last place below x that begins as p does; else -1. -/
def prevF (b : Nat → Nat) (p : Nat) : Nat → Int
  | 0 => -1
  | x + 1 => if heads b p x then (x : Int) else prevF b p x
theorem prevF_lt (b : Nat → Nat) (p : Nat) : ∀ x, prevF b p x < (x : Int) ∧ -1 ≤ prevF b p x
  | 0 => by simp [prevF]
  | x + 1 => by
    have := prevF_lt b p x
    rw [prevF]
    split <;> omega
theorem prevF_heads {b : Nat → Nat} {p q : Nat} (h : heads b p q = true) : ∀ x, prevF b p x = prevF b q x
  | 0 => rfl
  | x + 1 => by rw [prevF, prevF, heads_trans h x, prevF_heads h x]
theorem prevF_hit {b : Nat → Nat} {p : Nat} : ∀ {x : Nat} {q : Nat}, prevF b p x = (q : Int) → heads b p q = true ∧ q < x
  | 0, q, h => by simp [prevF] at h
  | x + 1, q, h => by
    rw [prevF] at h
    split at h
    · rename_i e
      have : x = q := by omega
      subst this
      exact ⟨e, by omega⟩
    · have := prevF_hit h
      exact ⟨this.1, by omega⟩
theorem prevF_none {b : Nat → Nat} {p : Nat} : ∀ {x : Nat}, prevF b p x = -1 → ∀ q, q < x → heads b p q = false
  | 0, _, q, h => by omega
  | x + 1, e, q, h => by
    rw [prevF] at e
    split at e
    · omega
    · rename_i hn
      by_cases hq : q = x
      · subst hq; simpa using hn
      · exact prevF_none e q (by omega)
/-- What the document's At finds at p, from the distance p - x on: x places are left. -/
def refL (b : Nat → Nat) (p most : Nat) (ok : Bool) (window cut : Int) : Nat → Nat → Nat → List (Nat × Nat)
  | 0, _, _ => []
  | x + 1, best, seen => if ((p - x : Nat) : Int) ≤ window ∧ (seen : Int) < cut then
      if ok = true ∧ heads b p x = true then
        if best < mat b p x 0 most then (mat b p x 0 most, p - x) :: refL b p most ok window cut x (mat b p x 0 most) (seen + 1) else refL b p most ok window cut x best (seen + 1)
      else refL b p most ok window cut x best seen
    else []
/-- What the chain finds at p, with k looks left, from the place at on. -/
def devL (b : Nat → Nat) (p most : Nat) (window : Int) : Nat → Int → Nat → List (Nat × Nat)
  | 0, _, _ => []
  | k + 1, at_, longest => if at_ = -1 ∨ window < (p : Int) - at_ ∨ longest = most then [] else
      if longest < mat b p at_.toNat 0 most then (mat b p at_.toNat 0 most, p - at_.toNat) :: devL b p most window k (prevF b at_.toNat at_.toNat) (mat b p at_.toNat 0 most)
      else devL b p most window k (prevF b at_.toNat at_.toNat) longest
theorem refL_no (b : Nat → Nat) (p most : Nat) (window cut : Int) : ∀ (x best seen : Nat), refL b p most false window cut x best seen = []
  | 0, _, _ => rfl
  | x + 1, best, seen => by
    rw [refL]
    split
    · rw [if_neg (by simp)]
      exact refL_no b p most window cut x best seen
    · rfl
theorem refL_full (b : Nat → Nat) (p most : Nat) (ok : Bool) (window cut : Int) : ∀ (x best seen : Nat), most ≤ best → refL b p most ok window cut x best seen = []
  | 0, _, _, _ => rfl
  | x + 1, best, seen, h => by
    have hm := mat_le b p x most 0
    rw [refL]
    split
    · split
      · rw [if_neg (by omega)]
        exact refL_full b p most ok window cut x best (seen + 1) h
      · exact refL_full b p most ok window cut x best seen h
    · rfl
theorem devL_none (b : Nat → Nat) (p most : Nat) (window : Int) (k longest : Nat) : devL b p most window k (-1) longest = [] := by
  cases k with
  | zero => rfl
  | succ k => rw [devL, if_pos (.inl rfl)]
theorem devL_far (b : Nat → Nat) (p most : Nat) (window : Int) (k longest : Nat) {at_ : Int} (h : window < (p : Int) - at_) : devL b p most window k at_ longest = [] := by
  cases k with
  | zero => rfl
  | succ k => rw [devL, if_pos (.inr (.inl h))]
/-- The chain finds what the document's At finds. -/
theorem dev_ref (b : Nat → Nat) (p most : Nat) (window cut : Int) : ∀ (x best seen : Nat), x ≤ p → best ≤ most → devL b p most window (cut - seen).toNat (prevF b p x) best = refL b p most true window cut x best seen
  | 0, best, seen, _, _ => by
    rw [prevF, refL]
    exact devL_none b p most window _ best
  | x + 1, best, seen, hx, hb => by
    have hm := mat_le b p x most 0
    have hl := prevF_lt b p x
    rw [prevF, refL]
    by_cases hh : heads b p x = true
    · rw [if_pos hh]
      by_cases hw : ((p - x : Nat) : Int) ≤ window ∧ (seen : Int) < cut
      · rw [if_pos hw, if_pos ⟨rfl, hh⟩]
        obtain ⟨k, hk⟩ : ∃ k, (cut - seen).toNat = k + 1 := ⟨(cut - seen).toNat - 1, by omega⟩
        have hk' : (cut - ((seen + 1 : Nat) : Int)).toNat = k := by omega
        rw [hk, devL]
        by_cases hf : best = most
        · rw [if_pos (.inr (.inr hf)), if_neg (by omega), refL_full b p most true window cut x best (seen + 1) (by omega)]
        · rw [if_neg (by rintro (h | h | h) <;> omega)]
          simp only [Int.toNat_natCast]
          rw [← prevF_heads hh x]
          split
          · rw [← dev_ref b p most window cut x _ (seen + 1) (by omega) (by omega), hk']
          · rw [← dev_ref b p most window cut x best (seen + 1) (by omega) hb, hk']
      · rw [if_neg hw]
        by_cases hc : (seen : Int) < cut
        · exact devL_far b p most window _ best (by omega)
        · have : (cut - (seen : Int)).toNat = 0 := by omega
          rw [this]
          rfl
    · rw [if_neg hh]
      by_cases hw : ((p - x : Nat) : Int) ≤ window ∧ (seen : Int) < cut
      · rw [if_pos hw, if_neg (by simp [hh])]
        exact dev_ref b p most window cut x best seen (by omega) hb
      · rw [if_neg hw]
        by_cases hc : (seen : Int) < cut
        · exact devL_far b p most window _ best (by omega)
        · have : (cut - (seen : Int)).toNat = 0 := by omega
          rw [this]
          rfl
/-- What is found rises, and is there. -/
def Rising (b : Nat → Nat) (p most : Nat) (window : Int) (n0 d0 : Nat) : List (Nat × Nat) → Prop
  | [] => True
  | x :: l => n0 < x.1 ∧ x.1 ≤ most ∧ d0 < x.2 ∧ x.2 ≤ p ∧ (x.2 : Int) ≤ window ∧ (∀ j, j < x.1 → b (p + j) = b (p + j - x.2)) ∧ Rising b p most window x.1 x.2 l
theorem Rising.mono {b : Nat → Nat} {p most : Nat} {window : Int} {n0 d0 n1 d1 : Nat} (hn : n1 ≤ n0) (hd : d1 ≤ d0) : ∀ {l : List (Nat × Nat)}, Rising b p most window n0 d0 l → Rising b p most window n1 d1 l
  | [], _ => trivial
  | x :: l, ⟨h1, h2, h3, h4⟩ => ⟨by omega, h2, by omega, h4⟩
theorem refL_rising (b : Nat → Nat) (p most : Nat) (ok : Bool) (window cut : Int) (hm : 2 < most) : ∀ (x best seen : Nat), x ≤ p → Rising b p most window (max best 2) (p - x) (refL b p most ok window cut x best seen)
  | 0, _, _, _ => trivial
  | x + 1, best, seen, hx => by
    have hl := mat_le b p x most 0
    have ih := fun best' seen' => refL_rising b p most ok window cut hm x best' seen' (by omega)
    rw [refL]
    split
    · rename_i hw
      split
      · rename_i hh
        have h3 : 3 ≤ mat b p x 0 most := by
          obtain ⟨e0, e1, e2⟩ := heads_iff.1 hh.2
          rcases mat_reach b p x most 0 3 (by omega) (fun j _ h => by
            have : j = 0 ∨ j = 1 ∨ j = 2 := by omega
            rcases this with rfl | rfl | rfl
            · exact e0
            · exact e1
            · exact e2) with h | h
          · exact h
          · omega
        split
        · rename_i hb
          refine ⟨by dsimp only; omega, by dsimp only; omega, by dsimp only; omega, by dsimp only; omega, by dsimp only; omega, fun j hj => ?_, ?_⟩
          · dsimp only at hj ⊢
            rw [mat_same b p x most 0 j (by omega) hj]
            congr 1
            omega
          · have := ih (mat b p x 0 most) (seen + 1)
            rw [show max (mat b p x 0 most) 2 = mat b p x 0 most from by omega] at this
            exact this
        · exact (ih best (seen + 1)).mono (by omega) (by omega)
      · exact (ih best seen).mono (by omega) (by omega)
    · trivial
theorem refL_cut (b : Nat → Nat) (p most : Nat) (ok : Bool) (window cut : Int) : ∀ (x best seen : Nat), (refL b p most ok window cut x best seen).length ≤ (cut - seen).toNat
  | 0, _, _ => by simp [refL]
  | x + 1, best, seen => by
    have i1 := fun n => refL_cut b p most ok window cut x n (seen + 1)
    have i2 := refL_cut b p most ok window cut x best seen
    rw [refL]
    split
    · split
      · split
        · have := i1 (mat b p x 0 most); simp only [List.length_cons]; omega
        · have := i1 best; omega
      · exact i2
    · simp
end Go.Proofs.Yteacmcckhjabmaa.Mt
end
section
namespace Go.Proofs.Yteacmcckhjabmaa.Ch
open Go.RowKit Go.Maps
open Mt
/-- A text's byte. -/
def bt (s : ByteArray) (i : Nat) : Nat := if h : i < s.size then s[i].toNat else 0
theorem bt_at {s : ByteArray} {i : Nat} (h : i < s.size) : s[i].toNat = bt s i := by unfold bt; rw [dif_pos h]
theorem bt_lt (s : ByteArray) (i : Nat) : bt s i < 256 := by
  unfold bt
  split
  · exact UInt8.toNat_lt _
  · omega
abbrev Dm := DataW Unit
/-- What the place q begins with, as a key. -/
def key3 (s : ByteArray) (q : Nat) : Lit := .string [UInt8.ofNat (bt s q), UInt8.ofNat (bt s (q + 1)), UInt8.ofNat (bt s (q + 2))]
def val3 (s : ByteArray) (q : Nat) : Value := .agg #[.int .u8 (bt s q : Int), .int .u8 (bt s (q + 1) : Int), .int .u8 (bt s (q + 2) : Int)]
theorem laidOut : laidOutB Try.prog = true := by kernel_rfl
theorem cells8 : Try.prog.cellsOf 5 = 1 := by kernel_rfl
theorem wf8 {x : Nat} (h : x < 256) : (Lit.int .u8 (x : Int)).wf = true := by
  have h1 : (IntKind.u8.min : Int) ≤ x := by rw [show IntKind.u8.min = 0 from rfl]; omega
  have h2 : (x : Int) ≤ IntKind.u8.max := by rw [show IntKind.u8.max = 255 from rfl]; omega
  simp [Lit.wf, h1, h2]
theorem keyBytes8 {x : Nat} (h : x < 256) : Lit.keyBytes (.int .u8 (x : Int)) = [UInt8.ofNat x] := by
  have : ((x : Int) % 256).toNat = x := by omega
  have e : x % 256 = x := by omega
  show (bytesLE 1 ((x : Int) % 256).toNat).reverse = _
  rw [this]
  simp [bytesLE, e]
theorem key3_ne {s : ByteArray} {p q : Nat} (h : heads (bt s) p q = false) : key3 s p ≠ key3 s q := by
  intro e
  unfold key3 at e
  simp only [Lit.string.injEq, List.cons.injEq, and_true] at e
  obtain ⟨e0, e1, e2⟩ := e
  have hb : ∀ {x y : Nat}, x < 256 → y < 256 → UInt8.ofNat x = UInt8.ofNat y → x = y := fun {x y} hx hy h => by
    have := congrArg UInt8.toNat h
    simp at this
    omega
  have := heads_iff.2 ⟨hb (bt_lt s _) (bt_lt s _) e0, hb (bt_lt s _) (bt_lt s _) e1, hb (bt_lt s _) (bt_lt s _) e2⟩
  rw [h] at this
  cases this
theorem key3_eq {s : ByteArray} {p q : Nat} (h : heads (bt s) p q = true) : key3 s p = key3 s q := by
  obtain ⟨h0, h1, h2⟩ := heads_iff.1 h
  unfold key3
  rw [h0, h1, h2]
/-- The map tells of each place where its bytes stood last below p. -/
def Tells3 (s : ByteArray) (p : Nat) (D : Dm) : Prop := ∀ q, q + 3 ≤ s.size → Maps.has D (key3 s q) = decide (prevF (bt s) q p ≠ -1) ∧ D.atKey (key3 s q) (.lit (.int .i64 0)) = .lit (.int .i64 (if prevF (bt s) q p = -1 then 0 else prevF (bt s) q p))
theorem ret_num {k : IntKind} {a b : Int} (h : a = b) : Ending.returned (.int k a) = .returned (.int k b) := by rw [h]
end Go.Proofs.Yteacmcckhjabmaa.Ch
end
section
namespace Go.Proofs.Yteacmcckhjabmaa.Ch
open Go.RowKit Go.Maps
open Mt
theorem infoI : (Try.prog.info? 3).map (fun i => (i.zero, i.size, i.bytes)) = some (some (.int .i64 0), 1, 8) := by kernel_rfl
theorem tells_none (s : ByteArray) : Tells3 s 0 (.map []) := fun q _ => ⟨by simp [prevF]; rfl, by simp [prevF]; rfl⟩
section
variable {cs : List Nat} {w w' : World} {O O' : Paint} {c a : Nat} {s : ByteArray} {window cut : Int} {p r B : Nat} {v : Value} {xs : List Int} {D : Dm}
end
end Go.Proofs.Yteacmcckhjabmaa.Ch
end
section
namespace Go.Proofs.Yteacmcckhjabmaa.Ch
open Go.RowKit Go.Maps
open Mt
theorem size8 : (Try.prog.info? 5).map (·.size) = some 1 := by kernel_rfl
/-- 'copy(h[:], t)': of a longer text the first three bytes. -/
theorem run_copy_three {P : Program} (w : World) (dT sT ty elem : TypeId) (b dCap : Nat) (t : ByteArray) (x0 x1 x2 : UInt8) (r : List UInt8) (hL : t.data.toList = x0 :: x1 :: x2 :: r) (T : TypeId) (z0 z1 z2 : Value)
    (hu : P.underlying dT = some (.slice elem)) (hs : (P.info? elem).map (·.size) = some 1) (hb : w.heap[b]? = some (.cells #[z0, z1, z2] T (0, 0))) :
    (Builtin.copy_ #[dT, sT] ty #[.slice (some ⟨b, 0, none⟩) 3 dCap, .string t]).run P w = .ok (goInt 3) (((w.setCell ⟨b, 0, none⟩ (.int .u8 (x0.toNat : Int))).setCell ⟨b, 1, none⟩ (.int .u8 (x1.toNat : Int))).setCell ⟨b, 2, none⟩ (.int .u8 (x2.toNat : Int))) := by
  have hsz : t.size = r.length + 3 := by
    have : t.data.toList.length = t.size := by simp
    rw [← this, hL]; simp
  have hmin : Nat.min t.size 3 = 3 := by rw [hsz]; exact Nat.min_eq_right (by omega)
  have hcell : ∀ j, j < 3 → (w.cell? ⟨b, 0 + 0 + j, none⟩).isSome = true := by
    intro j hj
    have : j = 0 ∨ j = 1 ∨ j = 2 := by omega
    rcases this with rfl | rfl | rfl <;> simp [World.cell?, hb]
  have hfree : ∀ j, j < 3 → w.frozen? ⟨b, 0 + 0 + j, none⟩ = false := by
    intro j hj
    simp [World.frozen?, hb]
  have hst := run_storeCells_cells (P := P) b 0 [.int .u8 (x0.toNat : Int), .int .u8 (x1.toNat : Int), .int .u8 (x2.toNat : Int)] 0 w hcell hfree (by
    intro v hv
    simp at hv
    rcases hv with rfl | rfl | rfl <;> rfl)
  cases hq : P.info? elem with
  | none => simp [hq] at hs
  | some i =>
    simp [hq] at hs
    simp [Builtin.copy_, run_underlying hu, Builtin.lenOf, Builtin.firstCells, sizeOf, typeInfo, hq, hmin, hL, hst, Result.andThen]
    rfl
/-- .. as a step of a region that draws. -/
theorem step_copy_three {P : Program} {ops : Array Oper} {o : Oper} {a : Act} {w : World} {K : Act → World → Prop} {Q : Exit → Act → World → Prop} {E : Prop}
    (hg : o.guard = none) (d x : Operand) (dT sT : TypeId) (hop : o.op = Op.call { callee := Callee.builtin Builtin.copy, args := #[d, x], argTypes := #[dT, sT] })
    (elem : TypeId) (hu : P.underlying dT = some (.slice elem)) (hs : (P.info? elem).map (·.size) = some 1) (b dCap : Nat) (hd : a.eval d = .slice (some ⟨b, 0, none⟩) 3 dCap) (t : ByteArray) (hx : a.eval x = .string t)
    (x0 x1 x2 : UInt8) (r : List UInt8) (hL : t.data.toList = x0 :: x1 :: x2 :: r) (T : TypeId) (z0 z1 z2 : Value) (hb : w.heap[b]? = some (.cells #[z0, z1, z2] T (0, 0)))
    (hK : K (a.put o.dst (goInt 3)) (((w.setCell ⟨b, 0, none⟩ (.int .u8 (x0.toNat : Int))).setCell ⟨b, 1, none⟩ (.int .u8 (x1.toNat : Int))).setCell ⟨b, 2, none⟩ (.int .u8 (x2.toNat : Int)))) :
    if Region.wanted o (yielded ops a.tmps) = true then Oper.wp P o a w K Q else E := by
  have hw : Region.wanted o (yielded ops a.tmps) = true := by simp [Region.wanted, hg]
  rw [if_pos hw]
  have hrun := run_copy_three (P := P) w dT sT o.type elem b dCap t x0 x1 x2 r hL T z0 z1 z2 hu hs hb
  unfold Oper.wp
  simp [execOp, hop, resolve, invoke, builtin, hd, hx, hrun, Result.andThen]
  exact hK
theorem three_bytes {s : ByteArray} {p : Nat} (hp : p + 3 ≤ s.size) : ∃ r, (s.extract p s.size).data.toList = s[p] :: s[p + 1] :: s[p + 2] :: r := by
  refine ⟨s.data.toList.drop (p + 3), ?_⟩
  have e : (s.extract p s.size).data.toList = s.data.toList.drop p := by
    simp [ByteArray.data_extract]
    rw [List.take_of_length_le (by simp)]
  rw [e, List.drop_eq_getElem_cons (by simp; omega), List.drop_eq_getElem_cons (by simp; omega), List.drop_eq_getElem_cons (by simp; omega)]
  rfl
theorem three_laid {w W : World} {H : Nat} {z0 z1 z2 x0 x1 x2 : Value} {T : TypeId} (hb : Below H w W) (hz : W.heap[H]? = some (.cells #[z0, z1, z2] T (0, 0))) :
    Below H w (((W.setCell ⟨H, 0, none⟩ x0).setCell ⟨H, 1, none⟩ x1).setCell ⟨H, 2, none⟩ x2).drew ∧ (((W.setCell ⟨H, 0, none⟩ x0).setCell ⟨H, 1, none⟩ x1).setCell ⟨H, 2, none⟩ x2).drew.heap[H]? = some (.cells #[x0, x1, x2] T (0, 0)) := by
  have h1 := heap_setCell_same W H 0 _ _ x0 hz
  have h2 := heap_setCell_same _ H 1 _ _ x1 h1
  have h3 := heap_setCell_same _ H 2 _ _ x2 h2
  have hb' := ((hb.setCell (p := ⟨H, 0, none⟩) (Nat.le_refl _) x0).setCell (p := ⟨H, 1, none⟩) (Nat.le_refl _) x1).setCell (p := ⟨H, 2, none⟩) (Nat.le_refl _) x2
  have h4 : (((W.setCell ⟨H, 0, none⟩ x0).setCell ⟨H, 1, none⟩ x1).setCell ⟨H, 2, none⟩ x2).heap[H]? = some (.cells #[x0, x1, x2] T (0, 0)) := by simpa using h3
  exact ⟨⟨hb'.os, hb'.tape, hb'.output, hb'.size, hb'.block⟩, h4⟩
theorem three {w : World} {X : Nat} {a b c : Value} {t : TypeId} (h : w.heap[X]? = some (.cells #[a, b, c] t (0, 0))) :
    (w.cell? ⟨X, 0, none⟩ = some a ∧ w.cell? ⟨X, 1, none⟩ = some b ∧ w.cell? ⟨X, 2, none⟩ = some c) ∧ (w.frozen? ⟨X, 0, none⟩ = false ∧ w.frozen? ⟨X, 1, none⟩ = false ∧ w.frozen? ⟨X, 2, none⟩ = false) := by
  refine ⟨⟨?_, ?_, ?_⟩, ?_, ?_, ?_⟩ <;> simp [World.cell?, World.frozen?, h]
theorem wf64 {x : Nat} (h : x ≤ 1000000000000) : (Lit.int .i64 (x : Int)).wf = true := by
  have h1 : (IntKind.i64.min : Int) ≤ x := by rw [show IntKind.i64.min = -9223372036854775808 from rfl]; omega
  simp [Lit.wf, h1]
  omega
theorem zeroE (w : World) : (zeroValue 3).run Try.prog w = .ok (.int .i64 0) w := by kernel_rfl
section
variable {w w' : World} {O O' : Paint} {c a : Nat} {s : ByteArray} {window cut : Int} {p r B : Nat} {v : Value} {xs : List Int} {D : Dm}
end
end Go.Proofs.Yteacmcckhjabmaa.Ch
end
