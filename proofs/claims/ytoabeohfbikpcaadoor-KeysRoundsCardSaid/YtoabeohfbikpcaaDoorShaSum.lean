/-
  Layer 23, mathematics: the sum of a text, as both the document and the program reckon it: rounds, words, blocks, the text lengthened. No program is named here.
-/
import Derived.Test.YtoabeohfbikpcaaDoorShaMath
set_option linter.unusedVariables false
set_option linter.unusedSimpArgs false
namespace Go.Proofs.YtoabeohfbikpcaaDoor.Sh
/-- The registers. -/
structure R8 where
  a : Nat
  b : Nat
  c : Nat
  d : Nat
  e : Nat
  f : Nat
  g : Nat
  h : Nat
def R8.toL (r : R8) : List Nat := [r.a, r.b, r.c, r.d, r.e, r.f, r.g, r.h]
structure R8.ok (r : R8) : Prop where
  a : r.a < 4294967296
  b : r.b < 4294967296
  c : r.c < 4294967296
  d : r.d < 4294967296
  e : r.e < 4294967296
  f : r.f < 4294967296
  g : r.g < 4294967296
  h : r.h < 4294967296
/-- Turned to the right by some bits. -/
def rr (n x : Nat) : Nat := x / 2 ^ n + x % 2 ^ n * 2 ^ (32 - n)
def bs1 (e : Nat) : Nat := rr 6 e ^^^ rr 11 e ^^^ rr 25 e
def bs0 (a : Nat) : Nat := rr 2 a ^^^ rr 13 a ^^^ rr 22 a
def ss0 (x : Nat) : Nat := rr 7 x ^^^ rr 18 x ^^^ x / 8
def ss1 (y : Nat) : Nat := rr 17 y ^^^ rr 19 y ^^^ y / 1024
def ch (e f g : Nat) : Nat := (e &&& f) ^^^ ((4294967295 - e) &&& g)
def mj (a b c : Nat) : Nat := (a &&& b) ^^^ (a &&& c) ^^^ (b &&& c)
def t1 (k w : Nat) (r : R8) : Nat := md (md (md (md (r.h + bs1 r.e) + ch r.e r.f r.g) + k) + w)
def t2 (r : R8) : Nat := md (bs0 r.a + mj r.a r.b r.c)
def rnd (k w : Nat) (r : R8) : R8 := ⟨md (t1 k w r + t2 r), r.a, r.b, r.c, md (r.d + t1 k w r), r.e, r.f, r.g⟩
theorem md_lt (x : Nat) : md x < 4294967296 := Nat.mod_lt _ (by decide)
theorem md_is {x : Nat} (h : x < 4294967296) : md x = x := Nat.mod_eq_of_lt h
theorem xor32 {a b : Nat} (ha : a < 4294967296) (hb : b < 4294967296) : a ^^^ b < 4294967296 := Nat.xor_lt_two_pow (n := 32) ha hb
theorem and32 {a b : Nat} (ha : a < 4294967296) : a &&& b < 4294967296 := Nat.lt_of_le_of_lt Nat.and_le_left ha
theorem rr_lt {n x : Nat} (hn : n ≤ 32) (h : x < 4294967296) : rr n x < 4294967296 := by
  unfold rr
  have e3 : 2 ^ n * 2 ^ (32 - n) = 4294967296 := by rw [← Nat.pow_add, show n + (32 - n) = 32 by omega]
  have h1 : x / 2 ^ n < 2 ^ (32 - n) := by
    rw [Nat.div_lt_iff_lt_mul (Nat.two_pow_pos n), Nat.mul_comm, e3]
    exact h
  have h2 : x % 2 ^ n < 2 ^ n := Nat.mod_lt _ (Nat.two_pow_pos n)
  generalize x / 2 ^ n = q at *
  generalize x % 2 ^ n = r at *
  generalize 2 ^ (32 - n) = M at *
  generalize 2 ^ n = L at *
  have : (r + 1) * M ≤ L * M := Nat.mul_le_mul_right _ h2
  rw [Nat.add_mul, Nat.one_mul] at this
  omega
theorem tr_rr {x : Nat} (h : x < 4294967296) (n : Nat) (hn : n ≤ 32) : tr n x = rr n x := tr_is h n hn
theorem bs1_lt {x : Nat} (h : x < 4294967296) : bs1 x < 4294967296 := xor32 (xor32 (rr_lt (by omega) h) (rr_lt (by omega) h)) (rr_lt (by omega) h)
theorem bs0_lt {x : Nat} (h : x < 4294967296) : bs0 x < 4294967296 := xor32 (xor32 (rr_lt (by omega) h) (rr_lt (by omega) h)) (rr_lt (by omega) h)
theorem ss0_lt {x : Nat} (h : x < 4294967296) : ss0 x < 4294967296 := xor32 (xor32 (rr_lt (by omega) h) (rr_lt (by omega) h)) (by omega)
theorem ss1_lt {x : Nat} (h : x < 4294967296) : ss1 x < 4294967296 := xor32 (xor32 (rr_lt (by omega) h) (rr_lt (by omega) h)) (by omega)
theorem ch_lt {e f g : Nat} (h : e < 4294967296) : ch e f g < 4294967296 := xor32 (and32 h) (and32 (by omega))
theorem mj_lt {a b c : Nat} (ha : a < 4294967296) (hb : b < 4294967296) : mj a b c < 4294967296 := xor32 (xor32 (and32 ha) (and32 ha)) (and32 hb)
theorem rnd_ok {k w : Nat} {r : R8} (h : r.ok) : (rnd k w r).ok := ⟨md_lt _, h.a, h.b, h.c, md_lt _, h.e, h.f, h.g⟩
/-- The words that follow. -/
def nxt (s : List Nat) (k : Nat) : Nat := md (md (md (s.getD k 0 + ss0 (s.getD (k + 1) 0)) + s.getD (k + 9) 0) + ss1 (s.getD (k + 14) 0))
def sch (l : List Nat) : Nat → List Nat
  | 0 => l
  | k + 1 => sch l k ++ [nxt (sch l k) k]
def W (l : List Nat) (t : Nat) : Nat := (sch l t).getD t 0
theorem sch_length {l : List Nat} (h : l.length = 16) : ∀ k, (sch l k).length = 16 + k
  | 0 => h
  | k + 1 => by rw [sch, List.length_append, sch_length h k]; rfl
theorem sch_more {l : List Nat} (h : l.length = 16) (k : Nat) : ∀ m t, t < 16 + k → (sch l (k + m)).getD t 0 = (sch l k).getD t 0
  | 0, t, _ => rfl
  | m + 1, t, ht => by
    rw [← Nat.add_assoc, sch, ← sch_more h k m t ht, List.getD_eq_getElem?_getD, List.getD_eq_getElem?_getD, List.getElem?_append_left (by rw [sch_length h]; omega)]
theorem sch_get {l : List Nat} (h : l.length = 16) {k t : Nat} (ht : t < 16 + k) : (sch l k).getD t 0 = W l t := by
  unfold W
  rcases Nat.le_total k t with hk | hk
  · obtain ⟨m, rfl⟩ : ∃ m, t = k + m := ⟨t - k, by omega⟩
    rw [sch_more h k m _ ht]
  · obtain ⟨m, rfl⟩ : ∃ m, k = t + m := ⟨k - t, by omega⟩
    rw [sch_more h t m _ (by omega)]
theorem W_first {l : List Nat} (h : l.length = 16) {t : Nat} (ht : t < 16) : W l t = l.getD t 0 := by
  rw [← sch_get h (k := 0) (by omega)]; rfl
theorem getD_snoc {l : List Nat} {n x : Nat} (h : l.length = n) : (l ++ [x]).getD n 0 = x := by
  subst h
  simp [List.getD_eq_getElem?_getD]
theorem W_next {l : List Nat} (h : l.length = 16) (t : Nat) : W l (t + 16) = md (md (md (W l t + ss0 (W l (t + 1))) + W l (t + 9)) + ss1 (W l (t + 14))) := by
  have e := sch_get h (k := t + 1) (t := t + 16) (by omega)
  have e0 := sch_get h (k := t) (t := t) (by omega)
  have e1 := sch_get h (k := t) (t := t + 1) (by omega)
  have e2 := sch_get h (k := t) (t := t + 9) (by omega)
  have e3 := sch_get h (k := t) (t := t + 14) (by omega)
  have hl : (sch l t).length = t + 16 := by rw [sch_length h]; omega
  have hs : sch l (t + 1) = sch l t ++ [nxt (sch l t) t] := rfl
  rw [hs, getD_snoc hl] at e
  rw [← e, ← e0, ← e1, ← e2, ← e3]
  rfl
theorem W_lt {l : List Nat} (h : l.length = 16) (hl : ∀ t, t < 16 → l.getD t 0 < 4294967296) (t : Nat) : W l t < 4294967296 := by
  rcases Nat.lt_or_ge t 16 with ht | ht
  · rw [W_first h ht]; exact hl t ht
  · obtain ⟨m, rfl⟩ : ∃ m, t = m + 16 := ⟨t - 16, by omega⟩
    rw [W_next h]
    exact md_lt _
/-- Rounds of a chunk. -/
def rnds (l : List Nat) (r : R8) : Nat → R8
  | 0 => r
  | t + 1 => rnd (kL.getD t 0) (W l t) (rnds l r t)
theorem rnds_ok {l : List Nat} {r : R8} (h : r.ok) : ∀ t, (rnds l r t).ok
  | 0 => h
  | t + 1 => rnd_ok (rnds_ok h t)
def plus (r q : R8) : R8 := ⟨md (r.a + q.a), md (r.b + q.b), md (r.c + q.c), md (r.d + q.d), md (r.e + q.e), md (r.f + q.f), md (r.g + q.g), md (r.h + q.h)⟩
theorem plus_ok (r q : R8) : (plus r q).ok := ⟨md_lt _, md_lt _, md_lt _, md_lt _, md_lt _, md_lt _, md_lt _, md_lt _⟩
def comp (r : R8) (l : List Nat) : R8 := plus r (rnds l r 64)
/-- The words of a text, from a place on. -/
def bAt (s : List UInt8) (i : Nat) : Nat := (s.getD i 0).toNat
def wAt (s : List UInt8) (p : Nat) : Nat := 16777216 * bAt s p + 65536 * bAt s (p + 1) + 256 * bAt s (p + 2) + bAt s (p + 3)
def wsAt (s : List UInt8) (p : Nat) : List Nat := (List.range 16).map fun i => wAt s (p + 4 * i)
theorem bAt_lt (s : List UInt8) (i : Nat) : bAt s i < 256 := (s.getD i 0).toNat_lt
theorem wAt_lt (s : List UInt8) (p : Nat) : wAt s p < 4294967296 := by
  have h0 := bAt_lt s p
  have h1 := bAt_lt s (p + 1)
  have h2 := bAt_lt s (p + 2)
  have h3 := bAt_lt s (p + 3)
  unfold wAt
  omega
theorem wsAt_length (s : List UInt8) (p : Nat) : (wsAt s p).length = 16 := by simp [wsAt]
theorem wsAt_get (s : List UInt8) (p : Nat) {i : Nat} (h : i < 16) : (wsAt s p).getD i 0 = wAt s (p + 4 * i) := by
  simp [wsAt, List.getD_eq_getElem?_getD, List.getElem?_map, List.getElem?_range h]
theorem wsAt_lt (s : List UInt8) (p : Nat) (t : Nat) (h : t < 16) : (wsAt s p).getD t 0 < 4294967296 := by rw [wsAt_get s p h]; exact wAt_lt _ _
theorem wsAt_any {s q : List UInt8} {p r : Nat} (h : ∀ j, j < 64 → s.getD (p + j) 0 = q.getD (r + j) 0) : wsAt s p = wsAt q r := by
  unfold wsAt
  refine List.map_congr_left fun i hi => ?_
  rw [List.mem_range] at hi
  unfold wAt bAt
  rw [h (4 * i) (by omega), show p + 4 * i + 1 = p + (4 * i + 1) by omega, show p + 4 * i + 2 = p + (4 * i + 2) by omega, show p + 4 * i + 3 = p + (4 * i + 3) by omega, h _ (by omega), h _ (by omega), h _ (by omega)]
  rfl
/-- Chunks of a text. -/
def runB (s : List UInt8) (r : R8) : Nat → R8
  | 0 => r
  | n + 1 => comp (runB s r n) (wsAt s (64 * n))
theorem runB_ok {s : List UInt8} {r : R8} (h : r.ok) : ∀ n, (runB s r n).ok
  | 0 => h
  | n + 1 => plus_ok _ _
theorem runB_left {a b : List UInt8} (r : R8) : ∀ n, 64 * n ≤ a.length → runB (a ++ b) r n = runB a r n
  | 0, _ => rfl
  | n + 1, h => by
    rw [runB, runB, runB_left r n (by omega)]
    congr 1
    refine wsAt_any fun j hj => ?_
    rw [List.getD_eq_getElem?_getD, List.getElem?_append_left (by omega), List.getD_eq_getElem?_getD]
theorem runB_append {a b : List UInt8} (r : R8) {n : Nat} (h : a.length = 64 * n) : ∀ m, runB (a ++ b) r (n + m) = runB b (runB a r n) m
  | 0 => by rw [Nat.add_zero, runB_left r n (by omega)]; rfl
  | m + 1 => by
    rw [← Nat.add_assoc, runB, runB, runB_append r h m]
    congr 1
    refine wsAt_any fun j hj => ?_
    rw [List.getD_eq_getElem?_getD, List.getElem?_append_right (by omega), List.getD_eq_getElem?_getD, show 64 * (n + m) + j - a.length = 64 * m + j by omega]
/-- So many bytes of a number, the highest first. -/
def be (n : Nat) : Nat → List UInt8
  | 0 => []
  | k + 1 => UInt8.ofNat (n / 256 ^ k % 256) :: be n k
theorem be_length (n : Nat) : ∀ k, (be n k).length = k
  | 0 => rfl
  | k + 1 => by rw [be, List.length_cons, be_length n k]
/-- How many bytes 00 a text takes. -/
def zeros (n : Nat) : Nat := (119 - n % 64) % 64
def tailOf (e n : Nat) : List UInt8 := 128 :: (List.replicate (zeros e) 0 ++ be (w64 (8 * n)) 8)
def pad (s : List UInt8) : List UInt8 := s ++ tailOf s.length s.length
theorem pad_length (s : List UInt8) : (pad s).length = 64 * ((s.length + 72) / 64) := by
  simp only [pad, tailOf, List.length_append, List.length_cons, List.length_replicate, be_length, zeros]
  omega
def bytesOf (x : Nat) : List UInt8 := [UInt8.ofNat (x / 16777216 % 256), UInt8.ofNat (x / 65536 % 256), UInt8.ofNat (x / 256 % 256), UInt8.ofNat (x % 256)]
def outL (r : R8) : List UInt8 := bytesOf r.a ++ bytesOf r.b ++ bytesOf r.c ++ bytesOf r.d ++ bytesOf r.e ++ bytesOf r.f ++ bytesOf r.g ++ bytesOf r.h
theorem outL_length (r : R8) : (outL r).length = 32 := rfl
def h0 : R8 := ⟨1779033703, 3144134277, 1013904242, 2773480762, 1359893119, 2600822924, 528734635, 1541459225⟩
theorem h0_L : h0.toL = hL := by rw [hL_is]; rfl
theorem h0_ok : h0.ok := ⟨by decide, by decide, by decide, by decide, by decide, by decide, by decide, by decide⟩
/-- The sum of a text. -/
def shaL (s : List UInt8) : List UInt8 := outL (runB (pad s) h0 ((s.length + 72) / 64))
theorem shaL_length (s : List UInt8) : (shaL s).length = 32 := rfl
/-- In two parts: what is full, and the rest. -/
theorem shaL_parts {a e : List UInt8} {n : Nat} (h : a.length = 64 * n) (he : e.length < 64) : shaL (a ++ e) = outL (runB (e ++ tailOf e.length (a.length + e.length)) (runB a h0 n) ((e.length + 72) / 64)) := by
  unfold shaL
  have h1 : pad (a ++ e) = a ++ (e ++ tailOf e.length (a.length + e.length)) := by
    unfold pad tailOf
    rw [List.append_assoc, List.length_append]
    congr 3
    unfold zeros
    rw [show (a.length + e.length) % 64 = e.length % 64 by omega]
  rw [h1, List.length_append, show (a.length + e.length + 72) / 64 = n + (e.length + 72) / 64 by omega, runB_append h0 h]
/-- Registers from a list of their numbers. -/
def R8.of (l : List Nat) : R8 := ⟨l.getD 0 0, l.getD 1 0, l.getD 2 0, l.getD 3 0, l.getD 4 0, l.getD 5 0, l.getD 6 0, l.getD 7 0⟩
theorem R8.of_toL (r : R8) : R8.of r.toL = r := rfl
theorem plus_get (r q : R8) (i : Nat) (h : i < 8) : (plus r q).toL.getD i 0 = md (r.toL.getD i 0 + q.toL.getD i 0) := by
  match i, h with
  | 0, _ => rfl
  | 1, _ => rfl
  | 2, _ => rfl
  | 3, _ => rfl
  | 4, _ => rfl
  | 5, _ => rfl
  | 6, _ => rfl
  | 7, _ => rfl
theorem outL_get (r : R8) (i : Nat) (h : i < 32) : (outL r).getD i 0 = UInt8.ofNat (r.toL.getD (i / 4) 0 / 2 ^ (24 - i % 4 * 8) % 256) := by
  have h0 : i / 4 * 4 + i % 4 = i := by omega
  have e : ∀ q j, q < 8 → j < 4 → (outL r).getD (q * 4 + j) 0 = UInt8.ofNat (r.toL.getD q 0 / 2 ^ (24 - j * 8) % 256) := by
    intro q j hq hj
    match j, hj with
    | 0, _ => match q, hq with
      | 0, _ | 1, _ | 2, _ | 3, _ | 4, _ | 5, _ | 6, _ | 7, _ => rfl
    | 1, _ => match q, hq with
      | 0, _ | 1, _ | 2, _ | 3, _ | 4, _ | 5, _ | 6, _ | 7, _ => rfl
    | 2, _ => match q, hq with
      | 0, _ | 1, _ | 2, _ | 3, _ | 4, _ | 5, _ | 6, _ | 7, _ => rfl
    | 3, _ => match q, hq with
      | 0, _ | 1, _ | 2, _ | 3, _ | 4, _ | 5, _ | 6, _ | 7, _ => simp [outL, bytesOf, R8.toL]
  have := e (i / 4) (i % 4) (by omega) (by omega)
  rw [h0] at this
  exact this
theorem toL_lt {r : R8} (h : r.ok) (i : Nat) (hi : i < 8) : r.toL.getD i 0 < 4294967296 := by
  match i, hi with
  | 0, _ => exact h.a
  | 1, _ => exact h.b
  | 2, _ => exact h.c
  | 3, _ => exact h.d
  | 4, _ => exact h.e
  | 5, _ => exact h.f
  | 6, _ => exact h.g
  | 7, _ => exact h.h
theorem kL_lt (i : Nat) : kL.getD i 0 < 4294967296 := by
  have h : ∀ x ∈ kL, x < 4294967296 := by
    intro x hx
    obtain ⟨z, _, rfl⟩ := List.mem_map.1 hx
    exact md_lt _
  rw [List.getD_eq_getElem?_getD]
  rcases hg : kL[i]? with _ | x
  · exact (by decide)
  · exact h x (List.mem_of_getElem? hg)
end Go.Proofs.YtoabeohfbikpcaaDoor.Sh
