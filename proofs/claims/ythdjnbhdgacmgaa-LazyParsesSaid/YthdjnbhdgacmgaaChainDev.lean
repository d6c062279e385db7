/-
  Package chain: what a finder is in memory ('FinAt'), and contracts of left, Place, New, matching.
-/
import Derived.Test.YthdjnbhdgacmgaaRcDecs
import Derived.Test.YthdjnbhdgacmgaaChainMath
import Derived.Maps.OwnSet
import Derived.DeepKeys4
import Derived.Deep.RegionLaw
import Derived.Deep.QuietTactic
import Derived.BigQuiet
namespace Go.Proofs.Ythdjnbhdgacmgaa.Ch
open Go.RowKit Go.Maps
open Mt
/-- A text's byte. -/
def bt (s : ByteArray) (i : Nat) : Nat := if h : i < s.size then s[i].toNat else 0
theorem bt_at {s : ByteArray} {i : Nat} (h : i < s.size) : s[i].toNat = bt s i := by unfold bt; rw [dif_pos h]
theorem bt_lt (s : ByteArray) (i : Nat) : bt s i < 256 := by
  unfold bt
  split
  · exact UInt8.toNat_lt _
  · omega
abbrev Dm := DataW Unit
/-- What the place q begins with, as a key. -/
def key3 (s : ByteArray) (q : Nat) : Lit := .string [UInt8.ofNat (bt s q), UInt8.ofNat (bt s (q + 1)), UInt8.ofNat (bt s (q + 2))]
def val3 (s : ByteArray) (q : Nat) : Value := .agg #[.int .u8 (bt s q : Int), .int .u8 (bt s (q + 1) : Int), .int .u8 (bt s (q + 2) : Int)]
theorem laidOut : laidOutB Try.prog = true := by kernel_rfl
theorem row3 : (209 : TypeId) < Try.prog.types.size := of_decide_eq_true (by kernel_rfl)
theorem keyAt3 : Try.prog.keyTypeAt 2 209 = true := by kernel_rfl
theorem law3 : Keyed Try.prog 209 := Keyed.of_law (deep_law_laid laidOut (m := 2) (by omega) row3 keyAt3 (by rw [Try.underlying209]))
theorem cells3 : Try.prog.cellsOf 209 = 3 := by kernel_rfl
theorem cells8 : Try.prog.cellsOf 5 = 1 := by kernel_rfl
theorem keyType3 : Try.prog.keyType 209 = true := by kernel_rfl
theorem wf8 {x : Nat} (h : x < 256) : (Lit.int .u8 (x : Int)).wf = true := by
  have h1 : (IntKind.u8.min : Int) ≤ x := by rw [show IntKind.u8.min = 0 from rfl]; omega
  have h2 : (x : Int) ≤ IntKind.u8.max := by rw [show IntKind.u8.max = 255 from rfl]; omega
  simp [Lit.wf, h1, h2]
theorem keyBytes8 {x : Nat} (h : x < 256) : Lit.keyBytes (.int .u8 (x : Int)) = [UInt8.ofNat x] := by
  have : ((x : Int) % 256).toNat = x := by omega
  have e : x % 256 = x := by omega
  show (bytesLE 1 ((x : Int) % 256).toNat).reverse = _
  rw [this]
  simp [bytesLE, e]
theorem key_lits {x0 x1 x2 : Nat} (b0 : x0 < 256) (b1 : x1 < 256) (b2 : x2 < 256) (n : Nat) : Try.prog.keyLits (n + 1 + 1) 209 [.int .u8 (x0 : Int), .int .u8 (x1 : Int), .int .u8 (x2 : Int)] = some [.int .u8 (x0 : Int), .int .u8 (x1 : Int), .int .u8 (x2 : Int)] := by
  simp [Program.keyLits, Try.underlying209, Try.underlying5, cells3, cells8, wf8 b0, wf8 b1, wf8 b2, List.range_succ]
theorem key_of3 (s : ByteArray) (q : Nat) : keyOf Try.prog 209 (val3 s q) = some (key3 s q) := by
  have b0 := bt_lt s q
  have b1 := bt_lt s (q + 1)
  have b2 := bt_lt s (q + 2)
  unfold keyOf val3 key3
  generalize bt s q = x0 at *
  generalize bt s (q + 1) = x1 at *
  generalize bt s (q + 2) = x2 at *
  obtain ⟨n, hn⟩ : ∃ n, Try.prog.types.size = n + 1 := ⟨Try.prog.types.size - 1, by have h : (209 : Nat) < Try.prog.types.size := row3; omega⟩
  have hl := key_lits b0 b1 b2 n
  rw [hn]
  generalize n + 1 + 1 = m at *
  have hf : (Value.agg #[.int .u8 (x0 : Int), .int .u8 (x1 : Int), .int .u8 (x2 : Int)]).formed Try.prog 209 = true := by simp [Value.formed, Try.underlying209, cells3]
  rw [Try.underlying209, keyType3, hf]
  simp [Value.cells, hl, keyBytes, keyBytes8 b0, keyBytes8 b1, keyBytes8 b2]
theorem key3_ne {s : ByteArray} {p q : Nat} (h : heads (bt s) p q = false) : key3 s p ≠ key3 s q := by
  intro e
  unfold key3 at e
  simp only [Lit.string.injEq, List.cons.injEq, and_true] at e
  obtain ⟨e0, e1, e2⟩ := e
  have hb : ∀ {x y : Nat}, x < 256 → y < 256 → UInt8.ofNat x = UInt8.ofNat y → x = y := fun {x y} hx hy h => by
    have := congrArg UInt8.toNat h
    simp at this
    omega
  have := heads_iff.2 ⟨hb (bt_lt s _) (bt_lt s _) e0, hb (bt_lt s _) (bt_lt s _) e1, hb (bt_lt s _) (bt_lt s _) e2⟩
  rw [h] at this
  cases this
theorem key3_eq {s : ByteArray} {p q : Nat} (h : heads (bt s) p q = true) : key3 s p = key3 s q := by
  obtain ⟨h0, h1, h2⟩ := heads_iff.1 h
  unfold key3
  rw [h0, h1, h2]
/-- The map tells of each place where its bytes stood last below p. -/
def Tells3 (s : ByteArray) (p : Nat) (D : Dm) : Prop := ∀ q, q + 3 ≤ s.size → Maps.has D (key3 s q) = decide (prevF (bt s) q p ≠ -1) ∧ D.atKey (key3 s q) (.lit (.int .i64 0)) = .lit (.int .i64 (if prevF (bt s) q p = -1 then 0 else prevF (bt s) q p))
/-- Block a is a finder of the text s, at the place p; the places below r are linked; all that it has belongs to c. -/
structure FinAt (w : World) (O : Paint) (c a : Nat) (s : ByteArray) (window cut : Int) (p r : Nat) (B : Nat) (v : Value) (xs : List Int) (D : Dm) : Prop where
  blk : Blk w O c a (.cells #[.string s, .int .i64 window, .int .i64 cut, .int .i64 (p : Int), .map (some B), v] 192 (0, 0))
  held : Held w O c 3 v (xs.map (Value.int .i64))
  len : xs.length = s.size
  own : w.ownsMap Try.prog 209 (plainElem Try.prog 3) B r D
  ownC : O B = c
  tells : p + 3 ≤ s.size → Tells3 s r D
  prev : ∀ q, q < r → q + 3 ≤ s.size → xs[q]? = some (prevF (bt s) q q)
  place : p ≤ s.size
  small : s.size ≤ 1000000000000
theorem ret_num {k : IntKind} {a b : Int} (h : a = b) : Ending.returned (.int k a) = .returned (.int k b) := by rw [h]
/-- What a finder's walk reads: its text and its place. -/
theorem FinAt.cells {w : World} {O : Paint} {c a : Nat} {s : ByteArray} {window cut : Int} {p r B : Nat} {v : Value} {xs : List Int} {D : Dm} (h : FinAt w O c a s window cut p r B v xs D) :
    w.cell? ⟨a, 0, none⟩ = some (.string s) ∧ w.cell? ⟨a, 1, none⟩ = some (.int .i64 window) ∧ w.cell? ⟨a, 2, none⟩ = some (.int .i64 cut) ∧ w.cell? ⟨a, 3, none⟩ = some (.int .i64 (p : Int)) ∧ w.cell? ⟨a, 4, none⟩ = some (.map (some B)) ∧ w.cell? ⟨a, 5, none⟩ = some v :=
  (Rc.six h.blk.1).1
set_option maxHeartbeats 400000 in
theorem left_raw {w : World} {a : Nat} {s : ByteArray} {p : Nat} (h0 : w.cell? ⟨a, 0, none⟩ = some (.string s)) (h3 : w.cell? ⟨a, 3, none⟩ = some (.int .i64 (p : Int))) (hp : p ≤ s.size) (hs : s.size ≤ 1000000000000) :
    Calls Try.prog 101 #[.pointer (some ⟨a, 0, none⟩)] w fun x w' => x = .returned (.int .i64 ((s.size : Int) - p)) ∧ ∃ n, w' = w.drewN n := by
  go_enter Try.func101, Try.ntmps101
  go_wp2
  go_quiet (fail)
  go_wp2
  go_ret
  exact ⟨rfl, _, rfl⟩
theorem nil_next (w : World) : Calls Try.prog 75 #[.pointer none] w fun x w' => x = .returned (.slice none 0 0) ∧ w = w' := by
  go_enter Try.func75, Try.ntmps75
  go_wp2
  go_ret
  exact ⟨rfl, rfl⟩
set_option maxHeartbeats 2000000 in
theorem matching_raw {w : World} {a : Nat} {s : ByteArray} {p q most : Nat} (h0 : w.cell? ⟨a, 0, none⟩ = some (.string s)) (h3 : w.cell? ⟨a, 3, none⟩ = some (.int .i64 (p : Int))) (hq : q < p) (hm : p + most ≤ s.size) (hs : s.size ≤ 1000000000000) :
    Calls Try.prog 117 #[.pointer (some ⟨a, 0, none⟩), .int .i64 (q : Int), .int .i64 (most : Int)] w fun x w' => x = .returned (.int .i64 (mat (bt s) p q 0 most : Int)) ∧ ∃ n, w' = w.drewN n := by
  go_enter Try.func117, Try.ntmps117
  go_wp2
  go_loopw [7] (fun i wr => ∃ k n : Nat, k ≤ most ∧ mat (bt s) p q k (most - k) = mat (bt s) p q 0 most ∧ i = .int .i64 k ∧ wr = w.drewN n) (fun i _ => most - (intOf i).toNat)
  case atStart => exact ⟨0, 0, by omega, rfl, rfl, rfl⟩
  case round =>
    obtain ⟨k, n, hk, hmat, rfl, rfl⟩ := hrel
    have HM := Lib.hid hmat
    clear hmat
    have g0 : (w.drewN n).cell? ⟨a, 0, none⟩ = some (.string s) := h0
    have g3 : (w.drewN n).cell? ⟨a, 3, none⟩ = some (.int .i64 (p : Int)) := h3
    by_cases hlt : k < most
    · have hpk : p + k < s.size := by omega
      have hqk : q + k < s.size := by omega
      have e1 : (0 : Int) ≤ (p : Int) + (k : Int) := by omega
      have e2 : (p : Int) + (k : Int) < (s.size : Int) := by omega
      have e3 : ((p : Int) + (k : Int)).toNat = p + k := by omega
      have e4 : IntKind.i64.wrap ((p : Int) + (k : Int)) = (p : Int) + (k : Int) := IntWalk.i64_in _ (by omega)
      have d1 : (0 : Int) ≤ (q : Int) + (k : Int) := by omega
      have d2 : (q : Int) + (k : Int) < (s.size : Int) := by omega
      have d3 : ((q : Int) + (k : Int)).toNat = q + k := by omega
      have d4 : IntKind.i64.wrap ((q : Int) + (k : Int)) = (q : Int) + (k : Int) := IntWalk.i64_in _ (by omega)
      have hlt' : decide (k < most) = true := by simpa using hlt
      by_cases he : bt s (p + k) = bt s (q + k)
      · have HE : Hid (mat (bt s) p q (k + 1) (most - (k + 1)) = mat (bt s) p q 0 most) := Lib.hid (by
          rw [← HM.out, show most - k = (most - (k + 1)) + 1 from by omega, mat, if_pos he])
        have hbe : ((s[q + k].toNat : Int) == (s[p + k].toNat : Int)) = true := by rw [bt_at, bt_at, he]; simp
        clear he HM
        go_wp2
        go_quiet (fail)
        clear e4 d4
        go_wp2
        go_roundw
        case rel => exact ⟨k + 1, _, by omega, HE.out, by go_num, rfl⟩
        case measure => simp [intOf]; omega
      · have HE : Hid (mat (bt s) p q 0 most = k) := Lib.hid (by
          rw [← HM.out, show most - k = (most - (k + 1)) + 1 from by omega, mat, if_neg he])
        have hbe : ((s[q + k].toNat : Int) == (s[p + k].toNat : Int)) = false := by rw [bt_at, bt_at, beq_eq_false_iff_ne]; omega
        clear he HM
        go_wp2
        go_quiet (fail)
        clear e4 d4
        go_wp2
        go_ret
        exact ⟨ret_num (by rw [HE.out]), _, by rw [World.drewN_drewN]⟩
    · obtain rfl : k = most := by omega
      have HE : Hid (mat (bt s) p q 0 k = k) := Lib.hid (by rw [← HM.out, Nat.sub_self, mat])
      have hlt' : decide (k < k) = false := by simp
      clear HM
      go_wp2
      go_quiet (fail)
      go_wp2
      go_ret
      exact ⟨ret_num (by rw [HE.out]), _, by rw [World.drewN_drewN]⟩
end Go.Proofs.Ythdjnbhdgacmgaa.Ch
