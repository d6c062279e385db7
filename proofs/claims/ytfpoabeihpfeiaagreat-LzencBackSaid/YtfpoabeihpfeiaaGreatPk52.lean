/-
  Plain mathematics of layers 7 and 8: how many bytes match, which places begin alike, and what a chain finds. (A text is a function b from places to bytes.)
  Package chain: what a finder is in memory ('FinAt'), and contracts of left, Place, New, matching.
  Package chain: the contract of New; what becomes of a finder when others are called, and when it is written.
  Package chain: the contract of link.
  Package chain: the contracts of longer and Next.
  Package chain: the contract of Next.
  Plain mathematics of layer 7: what is found rises.
  The walk of the statement WindowTurns: for every text, distance and number it returns true, and writes nothing that was there.
  Plain mathematics of layer 6: lists of packets that fit, and the text that they tell; packets in a row.
  Plain mathematics of layers 13 and 14: a text in pieces; its pieces tell it.
  The document's answer for layer 7: contracts of Matches and At.
  Layer 7's statements: speaks.
  The walk of the statement ChainFinds: for every text, window and cut it returns true, and writes nothing that was there.
  Package piece: contracts of Size, Packet, New and Next.
  Package packet: Repeat of an empty list.
  Package greedy: the contract of Parse.
-/
import Derived.Test.YtfpoabeihpfeiaaGreatPk03
import Derived.Test.YtfpoabeihpfeiaaGreatPk08
import Derived.Test.YtfpoabeihpfeiaaGreatPk09
import Derived.Test.YtfpoabeihpfeiaaGreatPk10
import Derived.Test.YtfpoabeihpfeiaaGreatPk50
import Init
import Derived.Maps.OwnSet
import Derived.DeepKeys4
import Derived.Deep.RegionLaw
import Derived.Deep.QuietTactic
import Derived.BigQuiet
import Derived.StillTailTactics
import Derived.Deep.DeepCutAuto
import Derived.Deep.CutBlock
import Derived.Deep.AppendLies
import Derived.Laws.StructEq
import Derived.Deep.RegionHeld3
set_option maxRecDepth 100000
set_option maxHeartbeats 16000000
set_option linter.unusedVariables false
set_option linter.unusedSimpArgs false
open Go.Lib (hid)
section
section
namespace Go.Proofs.YtfpoabeihpfeiaaGreat.Mt
def mat (b : Nat -> Nat) (p q : Nat) : Nat -> Nat -> Nat
 | n, 0 => n
 | n, k + 1 => if b (p + n) = b (q + n) then mat b p q (n + 1) k else n
theorem mat_ge (b : Nat -> Nat) (p q : Nat) : ∀ (k n : Nat), n <= mat b p q n k
 | 0, n => Nat.le_refl _
 | k + 1, n => by
  rw [mat]
  split
  · have := mat_ge b p q k (n + 1); omega
  · exact Nat.le_refl _
theorem mat_le (b : Nat -> Nat) (p q : Nat) : ∀ (k n : Nat), mat b p q n k <= n + k
 | 0, n => Nat.le_refl _
 | k + 1, n => by
  rw [mat]
  split
  · have := mat_le b p q k (n + 1); omega
  · omega
theorem mat_same (b : Nat -> Nat) (p q : Nat) : ∀ (k n j : Nat), n <= j -> j < mat b p q n k -> b (p + j) = b (q + j)
 | 0, n, j, h1, h2 => by rw [mat] at h2; omega
 | k + 1, n, j, h1, h2 => by
  rw [mat] at h2
  split at h2
  · rename_i e
    by_cases hj : j = n
    · subst hj; exact e
    · exact mat_same b p q k (n + 1) j (by omega) h2
  · omega
theorem mat_reach (b : Nat -> Nat) (p q : Nat) : ∀ (k n i : Nat), i <= n + k -> (∀ j, n <= j -> j < i -> b (p + j) = b (q + j)) -> i <= mat b p q n k \/ i < n
 | 0, n, i, h1, h => by rw [mat]; omega
 | k + 1, n, i, h1, h => by
  by_cases hi : i < n
  · exact .inr hi
  · left
    rw [mat]
    by_cases hn : i = n
    · subst hn
      split
      · have := mat_ge b p q k (i + 1); omega
      · exact Nat.le_refl _
    · rw [if_pos (h n (Nat.le_refl _) (by omega))]
      rcases mat_reach b p q k (n + 1) i (by omega) (fun j h1 h2 => h j (by omega) h2) with h' | h'
      · exact h'
      · omega
def heads (b : Nat -> Nat) (p q : Nat) : Bool := b p == b q && (b (p + 1) == b (q + 1) && b (p + 2) == b (q + 2))
theorem heads_iff {b : Nat -> Nat} {p q : Nat} : heads b p q = true ↔ b p = b q /\ b (p + 1) = b (q + 1) /\ b (p + 2) = b (q + 2) := by simp [heads]
def prevF (b : Nat -> Nat) (p : Nat) : Nat -> Int
 | 0 => -1
 | x + 1 => if heads b p x then (x : Int) else prevF b p x
def refL (b : Nat -> Nat) (p most : Nat) (ok : Bool) (window cut : Int) : Nat -> Nat -> Nat -> List (Nat × Nat)
 | 0, _, _ => []
 | x + 1, best, seen => if ((p - x : Nat) : Int) <= window /\ (seen : Int) < cut then
   if ok = true /\ heads b p x = true then
    if best < mat b p x 0 most then (mat b p x 0 most, p - x) :: refL b p most ok window cut x (mat b p x 0 most) (seen + 1) else refL b p most ok window cut x best (seen + 1)
   else refL b p most ok window cut x best seen
  else []
def devL (b : Nat -> Nat) (p most : Nat) (window : Int) : Nat -> Int -> Nat -> List (Nat × Nat)
 | 0, _, _ => []
 | k + 1, at_, longest => if at_ = -1 \/ window < (p : Int) - at_ \/ longest = most then [] else
   if longest < mat b p at_.toNat 0 most then (mat b p at_.toNat 0 most, p - at_.toNat) :: devL b p most window k (prevF b at_.toNat at_.toNat) (mat b p at_.toNat 0 most)
   else devL b p most window k (prevF b at_.toNat at_.toNat) longest
theorem refL_no (b : Nat -> Nat) (p most : Nat) (window cut : Int) : ∀ (x best seen : Nat), refL b p most false window cut x best seen = []
 | 0, _, _ => rfl
 | x + 1, best, seen => by
  rw [refL]
  split
  · rw [if_neg (by simp)]
    exact refL_no b p most window cut x best seen
  · rfl
def Rising (b : Nat -> Nat) (p most : Nat) (window : Int) (n0 d0 : Nat) : List (Nat × Nat) -> Prop
 | [] => True
 | x :: l => n0 < x.1 /\ x.1 <= most /\ d0 < x.2 /\ x.2 <= p /\ (x.2 : Int) <= window /\ (∀ j, j < x.1 -> b (p + j) = b (p + j - x.2)) /\ Rising b p most window x.1 x.2 l
theorem Rising.mono {b : Nat -> Nat} {p most : Nat} {window : Int} {n0 d0 n1 d1 : Nat} (hn : n1 <= n0) (hd : d1 <= d0) : ∀ {l : List (Nat × Nat)}, Rising b p most window n0 d0 l -> Rising b p most window n1 d1 l
 | [], _ => trivial
 | x :: l, ⟨h1, h2, h3, h4⟩ => ⟨by omega, h2, by omega, h4⟩
theorem refL_rising (b : Nat -> Nat) (p most : Nat) (ok : Bool) (window cut : Int) (hm : 2 < most) : ∀ (x best seen : Nat), x <= p -> Rising b p most window (max best 2) (p - x) (refL b p most ok window cut x best seen)
 | 0, _, _, _ => trivial
 | x + 1, best, seen, hx => by
  have hl := mat_le b p x most 0
  have ih := fun best' seen' => refL_rising b p most ok window cut hm x best' seen' (by omega)
  rw [refL]
  split
  · rename_i hw
    split
    · rename_i hh
      have h3 : 3 <= mat b p x 0 most := by
       obtain ⟨e0, e1, e2⟩ := heads_iff.1 hh.2
       rcases mat_reach b p x most 0 3 (by omega) (fun j _ h => by
        have : j = 0 \/ j = 1 \/ j = 2 := by omega
        rcases this with rfl | rfl | rfl
        · exact e0
        · exact e1
        · exact e2) with h | h
       · exact h
       · omega
      split
      · rename_i hb
        refine ⟨by dsimp only; omega, by dsimp only; omega, by dsimp only; omega, by dsimp only; omega, by dsimp only; omega, fun j hj => ?_, ?_⟩
        · dsimp only at hj ⊢
          rw [mat_same b p x most 0 j (by omega) hj]
          congr 1
          omega
        · have := ih (mat b p x 0 most) (seen + 1)
          rw [show max (mat b p x 0 most) 2 = mat b p x 0 most from by omega] at this
          exact this
      · exact (ih best (seen + 1)).mono (by omega) (by omega)
    · exact (ih best seen).mono (by omega) (by omega)
  · trivial
end Go.Proofs.YtfpoabeihpfeiaaGreat.Mt
end
section
namespace Go.Proofs.YtfpoabeihpfeiaaGreat.Ch
open Go.RowKit Go.Maps
open Mt
def bt (s : ByteArray) (i : Nat) : Nat := if h : i < s.size then s[i].toNat else 0
theorem bt_at {s : ByteArray} {i : Nat} (h : i < s.size) : s[i].toNat = bt s i := by unfold bt; rw [dif_pos h]
theorem bt_lt (s : ByteArray) (i : Nat) : bt s i < 256 := by
 unfold bt
 split
 · exact UInt8.toNat_lt _
 · omega
abbrev Dm := DataW Unit
def key3 (s : ByteArray) (q : Nat) : Lit := .string [UInt8.ofNat (bt s q), UInt8.ofNat (bt s (q + 1)), UInt8.ofNat (bt s (q + 2))]
def val3 (s : ByteArray) (q : Nat) : Value := .agg #[.int .u8 (bt s q : Int), .int .u8 (bt s (q + 1) : Int), .int .u8 (bt s (q + 2) : Int)]
theorem laidOut : laidOutB Tryz.prog = true := by kernel_rfl
def Tells3 (s : ByteArray) (p : Nat) (D : Dm) : Prop := ∀ q, q + 3 <= s.size -> Maps.has D (key3 s q) = decide (prevF (bt s) q p ≠ -1) /\ D.atKey (key3 s q) (.lit (.int .i64 0)) = .lit (.int .i64 (if prevF (bt s) q p = -1 then 0 else prevF (bt s) q p))
theorem ret_num {k : IntKind} {a b : Int} (h : a = b) : Ending.returned (.int k a) = .returned (.int k b) := by rw [h]
end Go.Proofs.YtfpoabeihpfeiaaGreat.Ch
end
section
namespace Go.Proofs.YtfpoabeihpfeiaaGreat.Ch
open Go.RowKit Go.Maps
open Mt
section
variable {cs : List Nat} {w w' : World} {O O' : Paint} {c a : Nat} {s : ByteArray} {window cut : Int} {p r B : Nat} {v : Value} {xs : List Int} {D : Dm}
end
end Go.Proofs.YtfpoabeihpfeiaaGreat.Ch
end
section
namespace Go.Proofs.YtfpoabeihpfeiaaGreat.Ch
open Go.RowKit Go.Maps
open Mt
theorem three {w : World} {X : Nat} {a b c : Value} {t : TypeId} (h : w.heap[X]? = some (.cells #[a, b, c] t (0, 0))) :
  (w.cell? ⟨X, 0, none⟩ = some a /\ w.cell? ⟨X, 1, none⟩ = some b /\ w.cell? ⟨X, 2, none⟩ = some c) /\ (w.frozen? ⟨X, 0, none⟩ = false /\ w.frozen? ⟨X, 1, none⟩ = false /\ w.frozen? ⟨X, 2, none⟩ = false) := by
 refine ⟨⟨?_, ?_, ?_⟩, ?_, ?_, ?_⟩ <;> simp [World.cell?, World.frozen?, h]
section
variable {w w' : World} {O O' : Paint} {c a : Nat} {s : ByteArray} {window cut : Int} {p r B : Nat} {v : Value} {xs : List Int} {D : Dm}
end
end Go.Proofs.YtfpoabeihpfeiaaGreat.Ch
end
end
section
section
namespace Go.Proofs.YtfpoabeihpfeiaaGreat.Ch
open Go.RowKit Go.Maps
open Mt
def flatF (l : List (Nat × Nat)) : List Value := l.flatMap fun x => [.int .i64 x.1, .int .i64 x.2]
theorem flatF_at : ∀ (l : List (Nat × Nat)) (i : Nat) (h : i < l.length), (flatF l)[i * 2]? = some (.int .i64 (l[i].1 : Int)) /\ (flatF l)[i * 2 + 1]? = some (.int .i64 (l[i].2 : Int))
 | [], i, h => by simp at h
 | x :: l, 0, _ => ⟨rfl, rfl⟩
 | x :: l, i + 1, h => by
  have := flatF_at l i (by simpa using h)
  rw [show (i + 1) * 2 = i * 2 + 1 + 1 from by omega]
  exact this
structure Founds (t : TypeId) (w0 w : World) (v : Value) (l : List (Nat × Nat)) : Prop where
 row : w.ownsRow 0 t 2 v l.length (flatF l)
 new : ∀ k, v.ownBlock = some k -> w0.heap.size <= k
theorem Founds.nil (t : TypeId) (w0 w : World) : Founds t w0 w (.slice none 0 0) [] := ⟨World.ownsRow_nil _ _ _ _, by simp [Value.ownBlock]⟩
theorem Founds.below {t : TypeId} {w0 w w' : World} {v : Value} {l : List (Nat × Nat)} (h : Founds t w0 w v l) (hb : Below w.heap.size w w') : Founds t w0 w' v l := by
 refine ⟨ownsRow_frame h.row (Frame.of_below_size hb) (fun _ _ h => h), h.new⟩
theorem Founds.form {t : TypeId} {w0 w : World} {v : Value} {l : List (Nat × Nat)} (h : Founds t w0 w v l) : (v = .slice none 0 0 /\ l = []) \/ ∃ g cap, v = .slice (some ⟨g, 0, none⟩) l.length cap /\ w0.heap.size <= g /\ g < w.heap.size := by
 rcases h.row.2 with ⟨h1, h2⟩ | ⟨g, cap, cur, rfl, _, hg, _⟩
 · exact .inl ⟨h1, List.eq_nil_of_length_eq_zero h2⟩
 · exact .inr ⟨g, cap, rfl, h.new g rfl, lt_of_heap hg⟩
theorem Founds.slice {t : TypeId} {w0 w : World} {v : Value} {l : List (Nat × Nat)} (h : Founds t w0 w v l) : ∃ A cap, v = .slice A l.length cap := by
 rcases h.form with ⟨rfl, rfl⟩ | ⟨g, cap, rfl, _⟩
 · exact ⟨none, 0, rfl⟩
 · exact ⟨_, cap, rfl⟩
theorem Founds.cell {t : TypeId} {w0 w : World} {g n cap : Nat} {l : List (Nat × Nat)} (h : Founds t w0 w (.slice (some ⟨g, 0, none⟩) n cap) l) (i : Nat) (hi : i < l.length) : w.cell? ⟨g, i * 2, none⟩ = some (.int .i64 (l[i].1 : Int)) /\ w.cell? ⟨g, i * 2 + 1, none⟩ = some (.int .i64 (l[i].2 : Int)) := by
 have hn : n = l.length := by
  rcases h.row.2 with ⟨e1, _⟩ | ⟨g', cap', cur, e1, _⟩
  · simp at e1
  · simp only [Value.slice.injEq] at e1; exact e1.2.1
 subst hn
 obtain ⟨a1, a2⟩ := flatF_at l i hi
 rw [World.ownsRow.cellAt h.row (i * 2) (by omega), World.ownsRow.cellAt h.row (i * 2 + 1) (by omega)]
 exact ⟨a1, a2⟩
section
variable {w w' : World} {O O' : Paint} {c a : Nat} {s : ByteArray} {window cut : Int} {p r B : Nat} {v : Value} {xs : List Int} {D : Dm}
end
end Go.Proofs.YtfpoabeihpfeiaaGreat.Ch
end
section
namespace Go.Proofs.YtfpoabeihpfeiaaGreat.Ch
open Go.RowKit Go.Maps
open Mt
def foundL (s : ByteArray) (window cut : Int) (p : Nat) : List (Nat × Nat) := refL (bt s) p (min (s.size - p) 273) (decide (p + 3 <= s.size)) window cut p 0 0
theorem foundL_none {s : ByteArray} {window cut : Int} {p : Nat} (h : ¬ p + 3 <= s.size) : foundL s window cut p = [] := by
 unfold foundL
 rw [decide_eq_false h]
 exact refL_no _ _ _ _ _ _ _ _
section
variable {w w' : World} {O O' : Paint} {c a : Nat} {s : ByteArray} {window cut : Int} {p r B : Nat} {v : Value} {xs : List Int} {D : Dm}
end
end Go.Proofs.YtfpoabeihpfeiaaGreat.Ch
end
section
namespace Go.Proofs.YtfpoabeihpfeiaaGreat.Ch
open Mt
theorem foundL_rising (s : ByteArray) (window cut : Int) (p : Nat) : Rising (bt s) p (min (s.size - p) 273) window 2 0 (foundL s window cut p) := by
 by_cases h : p + 3 <= s.size
 · unfold foundL
   rw [decide_eq_true h]
   have := refL_rising (bt s) p (min (s.size - p) 273) true window cut (by omega) p 0 0 (Nat.le_refl _)
   rw [Nat.sub_self] at this
   exact this
 · rw [foundL_none h]
   trivial
theorem Rising.at : ∀ {b : Nat -> Nat} {p most : Nat} {window : Int} {n0 d0 : Nat} {l : List (Nat × Nat)}, Rising b p most window n0 d0 l -> ∀ i (h : i < l.length),
  n0 < l[i].1 /\ l[i].1 <= most /\ d0 < l[i].2 /\ l[i].2 <= p /\ (l[i].2 : Int) <= window /\ (∀ j, j < l[i].1 -> b (p + j) = b (p + j - l[i].2)) /\ ∀ (h0 : 0 < i), l[i - 1].1 < l[i].1 /\ l[i - 1].2 < l[i].2
 | _, _, _, _, _, _, [], _, i, h => by simp at h
 | _, _, _, _, _, _, x :: l, ⟨h1, h2, h3, h4, h5, h6, _⟩, 0, _ => ⟨h1, h2, h3, h4, h5, h6, fun h0 => by omega⟩
 | _, _, _, _, _, _, x :: l, ⟨h1, h2, h3, h4, h5, h6, h7⟩, i + 1, h => by
  have hi : i < l.length := by simpa using h
  obtain ⟨g1, g2, g3, g4, g5, g6, g7⟩ := Rising.at h7 i hi
  refine ⟨?_, g2, ?_, g4, g5, g6, fun _ => ?_⟩
  · show _ < l[i].1; omega
  · show _ < l[i].2; omega
  · cases i with
    | zero => exact ⟨g1, g3⟩
    | succ i => exact g7 (by omega)
end Go.Proofs.YtfpoabeihpfeiaaGreat.Ch
end
end
section
namespace Go.Proofs.YtfpoabeihpfeiaaGreat.Wnd
open Go.RowKit
theorem take_snoc (s : ByteArray) (k : Nat) (h : k < s.size) : s.data.toList.take (k + 1) = s.data.toList.take k ++ [s[k]] := by
 rw [List.take_succ_eq_append_getElem (by simpa using h)]; rfl
end Go.Proofs.YtfpoabeihpfeiaaGreat.Wnd
namespace Go.Proofs.YtfpoabeihpfeiaaGreat.Wnd
open Go.RowKit
end Go.Proofs.YtfpoabeihpfeiaaGreat.Wnd
end
section
namespace Go.Proofs.YtfpoabeihpfeiaaGreat.Pk
open Go.RowKit
open Wnd (copied copied_length)
def Tells (ps : List Pt) (s : List UInt8) (r : Rp) : Prop := (∀ most qs, s.length <= most -> applyL most (ps ++ qs) [] ⟨1, 1, 1, 1⟩ = applyL most qs s r) /\ ∀ most qs, most < s.length -> applyL most (ps ++ qs) [] ⟨1, 1, 1, 1⟩ = ([], 11)
theorem tells_nil : Tells [] [] ⟨1, 1, 1, 1⟩ := ⟨fun _ _ _ => rfl, fun _ _ h => by simp at h⟩
theorem Tells.more {ps : List Pt} {s s' : List UInt8} {r r' : Rp} (h : Tells ps s r) (p : Pt) (hs : s.length <= s'.length) (h1 : ∀ most qs, s'.length <= most -> applyL most (p :: qs) s r = applyL most qs s' r') (h2 : ∀ most qs, s.length <= most -> most < s'.length -> applyL most (p :: qs) s r = ([], 11)) : Tells (ps ++ [p]) s' r' := by
 refine ⟨fun most qs hm => ?_, fun most qs hm => ?_⟩
 · rw [List.append_assoc, h.1 most _ (by omega)]
   exact h1 most qs hm
 · rw [List.append_assoc]
   by_cases hl : s.length <= most
   · rw [h.1 most _ hl]
     exact h2 most qs hl hm
   · exact h.2 most _ (by omega)
theorem Tells.lit {ps : List Pt} {s : List UInt8} {r : Rp} (h : Tells ps s r) (b : Nat) : Tells (ps ++ [⟨1, 0, 0, b⟩]) (s ++ [UInt8.ofNat b]) r := by
 have hf : (⟨1, 0, 0, b⟩ : Pt).fit (s.length : Int) r = some (0, 1, r) := by simp [Pt.fit, Pt.plain]
 refine h.more _ (by simp) (fun most qs hm => ?_) (fun most qs hl hm => ?_)
 · simp at hm
   exact applyL_more hf (by unfold Pt.tell; rw [if_pos rfl, if_pos (by omega)])
 · simp at hm
   exact applyL_long hf (by unfold Pt.tell; rw [if_pos rfl, if_neg (by omega)])
theorem Tells.copy {ps : List Pt} {s : List UInt8} {r : Rp} (h : Tells ps s r) (d n : Nat) (h1 : 1 <= d) (h2 : d <= s.length) (h3 : d <= 1048576) (h4 : 2 <= n) (h5 : n <= 273) : Tells (ps ++ [⟨2, (d : Int), (n : Int), 0⟩]) (copied s d n) (r.push (d : Int)) := by
 have hlb : lenB (n : Int) = true := by unfold lenB; simp; omega
 have hf : (⟨2, (d : Int), (n : Int), 0⟩ : Pt).fit (s.length : Int) r = some ((d : Int), (n : Int), r.push (d : Int)) := by
  have hp : (⟨2, (d : Int), (n : Int), 0⟩ : Pt).plain = true := by simp [Pt.plain]
  have hc : 1 <= (d : Int) /\ (d : Int) <= min (s.length : Int) 1048576 /\ lenB (n : Int) = true := ⟨by omega, by omega, hlb⟩
  unfold Pt.fit
  rw [hp, if_neg (by simp)]
  simp only
  rw [if_neg (by omega), if_pos trivial, if_pos hc]
 refine h.more _ (by rw [copied_length]; omega) (fun most qs hm => ?_) (fun most qs hl hm => ?_)
 · rw [copied_length] at hm
   exact applyL_more hf (by unfold Pt.tell; simp only; rw [if_neg (by omega), if_pos (by simpa using hm)]; simp)
 · rw [copied_length] at hm
   exact applyL_long hf (by unfold Pt.tell; simp only; rw [if_neg (by omega), if_neg (by simp; omega)])
theorem Tells.end {ps : List Pt} {s : List UInt8} {r : Rp} (h : Tells ps s r) (most : Nat) : applyL most ps [] ⟨1, 1, 1, 1⟩ = if s.length <= most then (s, 0) else ([], 11) := by
 by_cases hl : s.length <= most
 · rw [if_pos hl]
   have := h.1 most [] hl
   rw [List.append_nil] at this
   exact this
 · rw [if_neg hl]
   have := h.2 most [] (by omega)
   rw [List.append_nil] at this
   exact this
def flatP (l : List Pt) : List Value := l.flatMap fun p => [.int .i64 p.k, .int .i64 p.d, .int .i64 p.n, .int .u8 p.b]
theorem flatP_length : ∀ l, (flatP l).length = l.length * 4
 | [] => rfl
 | x :: l => by have := flatP_length l; simp only [flatP, List.flatMap_cons, List.length_append, List.length_cons, List.length_nil] at this ⊢; omega
theorem flatP_append (l k : List Pt) : flatP (l ++ k) = flatP l ++ flatP k := by simp [flatP]
theorem flatP_at : ∀ (l : List Pt) (i : Nat) (h : i < l.length), (flatP l)[i * 4]? = some (.int .i64 l[i].k) /\ (flatP l)[i * 4 + 1]? = some (.int .i64 l[i].d) /\ (flatP l)[i * 4 + 2]? = some (.int .i64 l[i].n) /\ (flatP l)[i * 4 + 3]? = some (.int .u8 (l[i].b : Int))
 | [], i, h => by simp at h
 | x :: l, 0, _ => ⟨rfl, rfl, rfl, rfl⟩
 | x :: l, i + 1, h => by
  have := flatP_at l i (by simpa using h)
  rw [show (i + 1) * 4 = i * 4 + 1 + 1 + 1 + 1 from by omega]
  exact this
def Pts (w : World) (v : Value) (l : List Pt) : Prop := w.ownsRow 0 37 4 v l.length (flatP l)
theorem Pts.slice {w : World} {v : Value} {l : List Pt} (h : Pts w v l) (hb : ∀ p ∈ l, p.b < 256) : ∃ a cap, v = .slice a l.length cap /\ IsPts w a l := by
 rcases h.2 with ⟨h1, h2⟩ | ⟨g, cap, cur, rfl, _, hg, hnc, hcm, hcs, htake⟩
 · exact ⟨none, 0, by rw [h1, h2], .inl (List.eq_nil_of_length_eq_zero h2)⟩
 · refine ⟨_, cap, rfl, .inr ⟨g, 0, rfl, fun i hi => ?_⟩⟩
   obtain ⟨k0, k1, k2, k3⟩ := flatP_at l i hi
   have key : ∀ j x, (flatP l)[j]? = some x -> w.cell? ⟨g, j, none⟩ = some x := fun j x hx => by
    have hj : j < (flatP l).length := (List.getElem?_eq_some_iff.1 hx).1
    rw [flatP_length] at hj
    rw [World.ownsRow.cellAt h j hj]
    exact hx
   rw [Nat.zero_add]
   exact ⟨key _ _ k0, key _ _ k1, key _ _ k2, key _ _ k3, hb _ (List.getElem_mem hi)⟩
theorem Pts.nil (w : World) : Pts w (.slice none 0 0) [] := World.ownsRow_nil _ _ _ _
end Go.Proofs.YtfpoabeihpfeiaaGreat.Pk
end
section
namespace Go.Proofs.YtfpoabeihpfeiaaGreat.Gr
open Go.RowKit
open Mt
open Ch (foundL foundL_none foundL_rising bt bt_at bt_lt Rising.at)
open Pk (Rp Pt Tells applyL tells_nil rep_same repL rrep)
open Wnd (copied copied_length take_snoc)
def best (s : ByteArray) (window cut : Int) (p : Nat) : Nat × Nat := ((foundL s window cut p).getLast?).getD (0, 0)
def OkPiece (s : ByteArray) (p : Nat) (x : Nat × Nat) : Prop := x = (0, 0) \/ (3 <= x.1 /\ x.1 <= 273 /\ p + x.1 <= s.size /\ 1 <= x.2 /\ x.2 <= p /\ ∀ j, j < x.1 -> bt s (p + j) = bt s (p + j - x.2))
def pkt (s : ByteArray) (p : Nat) (x : Nat × Nat) : Pt := if x = (0, 0) then ⟨1, 0, 0, bt s p⟩ else ⟨2, (x.2 : Int), (x.1 : Int), 0⟩
def size1 (x : Nat × Nat) : Nat := if x = (0, 0) then 1 else x.1
def parseK (s : ByteArray) (c : Nat -> Nat × Nat) : Nat -> Nat -> List Pt
 | 0, _ => []
 | k + 1, p => if p < s.size then pkt s p (c p) :: parseK s c k (p + size1 (c p)) else []
def parse (s : ByteArray) (c : Nat -> Nat × Nat) (p : Nat) : List Pt := parseK s c (s.size - p) p
def wait (s : ByteArray) (window cut : Int) (p : Nat) : Nat × Nat := if (best s window cut p).1 < (best s window cut (p + 1)).1 then (0, 0) else best s window cut p
end Go.Proofs.YtfpoabeihpfeiaaGreat.Gr
end
section
section
namespace Go.Proofs.YtfpoabeihpfeiaaGreat.Ch
open Go.RowKit Go.Maps
open Mt
end Go.Proofs.YtfpoabeihpfeiaaGreat.Ch
end
section
namespace Go.Proofs.YtfpoabeihpfeiaaGreat.Ch
open Go.RowKit Go.Maps
open Mt
def abc : ByteArray := ⟨#[97, 98, 99, 97, 98, 99, 100]⟩
end Go.Proofs.YtfpoabeihpfeiaaGreat.Ch
end
section
namespace Go.Proofs.YtfpoabeihpfeiaaGreat.Ch
open Go.RowKit Go.Maps
open Mt
theorem Founds.small {t : TypeId} {w0 w : World} {v : Value} {l : List (Nat × Nat)} (h : Founds t w0 w v l) : l.length <= 9223372036854775807 := by
 rcases h.row.2 with ⟨_, h2⟩ | ⟨g, cap, cur, _, _, _, h1, h2, _⟩
 · omega
 · unfold maxLen at h2; omega
theorem Founds.cells {t : TypeId} {w0 w : World} {A : Option Addr} {n cap : Nat} {l : List (Nat × Nat)} (h : Founds t w0 w (.slice A n cap) l) (hn : 0 < l.length) : ∃ g, A = some ⟨g, 0, none⟩ /\ ∀ i (hi : i < l.length), w.cell? ⟨g, i * 2, none⟩ = some (.int .i64 (l[i].1 : Int)) /\ w.cell? ⟨g, i * 2 + 1, none⟩ = some (.int .i64 (l[i].2 : Int)) := by
 rcases h.form with ⟨_, rfl⟩ | ⟨g, cap', e, _⟩
 · simp at hn
 · have e' := e
   simp only [Value.slice.injEq] at e'
   obtain ⟨rfl, _, _⟩ := e'
   exact ⟨g, rfl, fun i hi => h.cell i hi⟩
theorem ret_bool {a b : Bool} (h : a = b) : Ending.returned (.bool a) = .returned (.bool b) := by rw [h]
end Go.Proofs.YtfpoabeihpfeiaaGreat.Ch
end
end
section
namespace Go.Proofs.YtfpoabeihpfeiaaGreat.Gr
open Go.RowKit
open Mt
open Ch
open Pk (Rp Pt four four_heap below_four)
def pv (x : Nat × Nat) : Value := .agg #[.int .i64 x.1, .int .i64 x.2]
def pktB (b : Nat) (x : Nat × Nat) : Pt := if x = (0, 0) then ⟨1, 0, 0, b⟩ else ⟨2, (x.2 : Int), (x.1 : Int), 0⟩
section
variable {cs : List Nat} {w w' : World} {O O' : Paint} {F p : Nat} {s : ByteArray} {window cut : Int}
end
end Go.Proofs.YtfpoabeihpfeiaaGreat.Gr
end
section
namespace Go.Proofs.YtfpoabeihpfeiaaGreat.Pk
open Go.RowKit
theorem repeat_nil (a : Option Addr) (cap : Nat) (W : World) :
  Calls Tryz.prog 11 #[.slice a 0 cap] W fun x w' => ∃ Z, x = .returned (.slice (some ⟨Z, 0, none⟩) 0 0) /\ Below W.heap.size W w' /\ W.heap.size <= Z := by
 have mk0 : ∀ w, (Instr.makeSlice 28 (.int .i64 0) (.int .i64 0)).run Tryz.prog w = .ok (.slice (some ⟨w.heap.size, 0, none⟩) 0 0) (w.alloc (.cells #[] 37)) := fun w => by kernel_rfl
 have HF1 := hid (show ∀ w1, Calls Tryz.prog 24 #[] w1 fun x w' => x = .returned (.agg #[.int .i64 1, .int .i64 1, .int .i64 1, .int .i64 1]) /\ Below w1.heap.size w1 w' from fun w1 => first_any w1)
 go_enter Tryz.func11, Tryz.ntmps11
 go_wp2_with fail
 have HB1 := hid ((Below.refl _ W).alloc (Nat.le_refl _) (.cells #[] 37))
 generalize W.alloc (.cells #[] 37) = W1 at *
 clear mk0
 refine (HF1.out W1).mono ?_
 rintro x w2 ⟨rfl, hb2⟩
 have HB2 := hid (bel_new hb2 HB1.out)
 clear hb2 HB1
 go_wp2_with fail
 refine (HF1.out w2).mono ?_
 rintro x w3 ⟨rfl, hb3⟩
 have HB3 := hid (bel_alloc (.cells #[.int .i64 1, .int .i64 1, .int .i64 1, .int .i64 1] 70) (bel_alloc (.cells #[.int .i64 1, .int .i64 1, .int .i64 1, .int .i64 1] 70) (bel_new hb3 HB2.out)))
 clear hb3 HB2 HF1
 go_wp2_with fail
 generalize (w3.alloc (.cells #[.int .i64 1, .int .i64 1, .int .i64 1, .int .i64 1] 70)).alloc (.cells #[.int .i64 1, .int .i64 1, .int .i64 1, .int .i64 1] 70) = W4 at *
 go_loop [20] (fun i => i = .int .i64 0) (fun i => 1)
 case atStart => rfl
 case round =>
  subst hrel
  go_wp2
  go_ret
  exact ⟨_, rfl, HB3.out, Nat.le_refl _⟩
end Go.Proofs.YtfpoabeihpfeiaaGreat.Pk
end
section
namespace Go.Proofs.YtfpoabeihpfeiaaGreat.Gr
open Go.RowKit
open Mt
open Ch (foundL bt bt_at bt_lt)
open Pk (Rp Pt IsPts repL)
open Mo (HeldP)
section
variable {cs : List Nat} {w0 w w' : World} {O O' : Paint} {F p : Nat} {s : ByteArray} {window cut : Int} {v : Value} {l : List Pt}
end
def Told (w : World) (qs : List Pt) (x : Ending) (w' : World) : Prop := ∃ Z, x = .returned (.slice (some ⟨Z, 0, none⟩) qs.length qs.length) /\ Below w.heap.size w w' /\ IsPts w' (some ⟨Z, 0, none⟩) qs
theorem again_any {w0 w : World} {a : Option Addr} {ps : List Pt} {cap : Nat} (hb0 : Below w0.heap.size w0 w) (h : IsPts w a ps) (hl : ps.length <= 1000) (hb : ∀ p ∈ repL ps 0 ⟨1, 1, 1, 1⟩ ⟨1, 1, 1, 1⟩, p.b < 256) (hlen : (repL ps 0 ⟨1, 1, 1, 1⟩ ⟨1, 1, 1, 1⟩).length = ps.length) :
  Calls Tryz.prog 11 #[.slice a ps.length cap] w (Told w0 (repL ps 0 ⟨1, 1, 1, 1⟩ ⟨1, 1, 1, 1⟩)) := by
 by_cases hn : 0 < ps.length
 · rcases h with h | ⟨b, off, rfl, h⟩
   · rw [h] at hn; simp at hn
   · refine (Pk.repeat_more h hn hl cap).mono fun x w' ⟨Z, hx, hb', _, arr, g1, g2, g3⟩ => ⟨Z, by rw [hlen]; exact hx, hb0.trans (hb'.mono hb0.size), .inr ⟨Z, 0, rfl, fun i hi => ?_⟩⟩
     obtain ⟨q0, q1, q2, q3⟩ := g3 i hi
     refine ⟨?_, ?_, ?_, ?_, hb _ (List.getElem_mem hi)⟩
     · simp only [World.cell?, g1, Nat.zero_add]; exact q0
     · simp only [World.cell?, g1, Nat.zero_add]; exact q1
     · simp only [World.cell?, g1, Nat.zero_add]; exact q2
     · simp only [World.cell?, g1, Nat.zero_add]; exact q3
 · obtain rfl : ps = [] := by cases ps <;> simp_all
   exact (Pk.repeat_nil a cap w).mono fun x w' ⟨Z, hx, hb', _⟩ => ⟨Z, hx, hb0.trans (hb'.mono hb0.size), .inl rfl⟩
def told (s : ByteArray) (c : Nat -> Nat × Nat) : List Pt := repL (parse s c 0) 0 ⟨1, 1, 1, 1⟩ ⟨1, 1, 1, 1⟩
end Go.Proofs.YtfpoabeihpfeiaaGreat.Gr
end
