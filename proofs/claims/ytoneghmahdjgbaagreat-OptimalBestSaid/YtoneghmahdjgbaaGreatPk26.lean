/-
  Layer 16's statements: their first lines return true.
  Plain mathematics of layer 16: whatever packets without reps tell a text, they cost no less than the cheapest way.
  Package optimal: the contract of Parse; what is told as reps.
-/
import Derived.Test.YtoneghmahdjgbaaGreatPk17
import Derived.Test.YtoneghmahdjgbaaGreatPk19
import Derived.Test.YtoneghmahdjgbaaGreatPk24
import Derived.Test.YtoneghmahdjgbaaGreatPk25
import Derived.Laws.StructEq
section
set_option linter.unusedVariables false
set_option linter.unusedSimpArgs false
namespace Go.Proofs.YtoneghmahdjgbaaGreat.Om
open Go.RowKit
open Pc (Tb common common_good common_any)
open Pk (Pt IsPts repL)
open Gr (again_any Told)
def aaaa : ByteArray := ⟨#[97, 97, 97, 97]⟩
def ab : ByteArray := ⟨#[97, 98]⟩
theorem aaaa_size : aaaa.size = 4 := rfl
theorem ab_size : ab.size = 2 := rfl
theorem plain_aaaa : plainL common aaaa (min 9 1048576) = [⟨1, 0, 0, 97⟩, ⟨2, 1, 3, 0⟩] := by kernel_rfl
theorem plain_ab : plainL common ab (min 9 1048576) = [⟨1, 0, 0, 97⟩, ⟨1, 0, 0, 98⟩] := by kernel_rfl
theorem rep_ab : repL [⟨1, 0, 0, 97⟩, ⟨1, 0, 0, 98⟩] 0 ⟨1, 1, 1, 1⟩ ⟨1, 1, 1, 1⟩ = [⟨1, 0, 0, 97⟩, ⟨1, 0, 0, 98⟩] := by kernel_rfl
theorem eq_pkt (k d n : Int) (b : Nat) (w : World) : (Op.equalIn 10000 33 (.agg #[.int .i64 k, .int .i64 d, .int .i64 n, .int .u8 (b : Int)]) (.agg #[.int .i64 k, .int .i64 d, .int .i64 n, .int .u8 (b : Int)])).run Tryz.prog w = .ok true w := by
  rw [run_equalIn_struct (P := Tryz.prog) w 9999 33 _ _ (by kernel_rfl) (by kernel_rfl)]
  simp [go_sem, Tryz.underlying33, Tryz.underlying3, Tryz.underlying5]
/-- Parse of two bytes: two packets. -/
theorem parse_ab (w : World) : Calls Tryz.prog 10 #[.string ab, .int .i64 9, .agg #[.int .i64 34, .int .i64 20, .int .i64 16, .int .i64 36, .int .i64 5]] w fun x w' => ∃ Z, x = .returned (.slice (some ⟨Z, 0, none⟩) 2 2) ∧ Below w.heap.size w w' := by
  have HP := Lib.hid (fun (W : World) => show Calls Tryz.prog 6 #[.string ab, .int .i64 9, .agg #[.int .i64 34, .int .i64 20, .int .i64 16, .int .i64 36, .int .i64 5]] W (TellsL W [⟨1, 0, 0, 97⟩, ⟨1, 0, 0, 98⟩]) from by
    have := plain_any ab (by rw [ab_size]; omega) 9 (by omega) (by omega) common common_good W
    rw [plain_ab] at this
    exact this)
  have hb1 : Below w.heap.size w (w.alloc (.cells #[.int .i64 34, .int .i64 20, .int .i64 16, .int .i64 36, .int .i64 5] 25)) := (Below.refl _ _).alloc (Nat.le_refl _) _
  obtain ⟨x0, x1, x2, x3, x4⟩ := five_of (heap_alloc_new w (.cells #[.int .i64 34, .int .i64 20, .int .i64 16, .int .i64 36, .int .i64 5] 25))
  have HB1 := Lib.hid hb1
  clear hb1
  go_enter Tryz.func10, Tryz.ntmps10
  go_upto_region 1 with (fail)
  generalize w.alloc (.cells #[.int .i64 34, .int .i64 20, .int .i64 16, .int .i64 36, .int .i64 5] 25) = w1 at *
  go_wp2_with fail
  refine (HP.out w1).mono ?_
  rintro x w2 ⟨A, cap, rfl, hb2, hI2⟩
  have HB2 := Lib.hid (HB1.out.trans (hb2.mono HB1.out.size))
  have HAG := Lib.hid (again_any (cap := cap) HB2.out hI2 (by simp) (by rw [rep_ab]; simp) (by rw [rep_ab]))
  rw [rep_ab] at HAG
  clear hb2 hI2 HP x0 x1 x2 x3 x4
  go_wp2_with fail
  refine HAG.out.mono ?_
  rintro x w3 ⟨Z, rfl, hb3, _⟩
  have HB3 := Lib.hid hb3
  clear hb3 HAG
  go_wp2_with fail
  go_ret
  exact ⟨Z, rfl, HB3.out⟩
set_option maxRecDepth 100000 in
set_option maxHeartbeats 2000000 in
theorem speaks16 (w : World) : Calls Tryz.prog 4 #[] w fun x w' => x = .returned (.bool true) ∧ Below w.heap.size w w' := by
  have HP := Lib.hid (fun (W : World) => show Calls Tryz.prog 6 #[.string aaaa, .int .i64 9, .agg #[.int .i64 34, .int .i64 20, .int .i64 16, .int .i64 36, .int .i64 5]] W (TellsL W [⟨1, 0, 0, 97⟩, ⟨2, 1, 3, 0⟩]) from by
    have := plain_any aaaa (by rw [aaaa_size]; omega) 9 (by omega) (by omega) common common_good W
    rw [plain_aaaa] at this
    exact this)
  have HC := Lib.hid common_any
  have HPA := Lib.hid parse_ab
  have hq := eq_pkt 2 1 3 0
  go_enter Tryz.func4, Tryz.ntmps4
  go_wp2_with fail
  refine (HC.out w).mono ?_
  rintro x w1 ⟨rfl, hb1⟩
  have HB1 := Lib.hid hb1
  clear hb1
  go_wp2_with fail
  refine (show Calls Tryz.prog 6 #[.string ⟨#[97, 97, 97, 97]⟩, .int .i64 9, .agg #[.int .i64 34, .int .i64 20, .int .i64 16, .int .i64 36, .int .i64 5]] w1 _ from HP.out w1).mono ?_
  rintro x w2 ⟨A, cap, rfl, hb2, hI⟩
  have HB2 := Lib.hid (HB1.out.trans (hb2.mono HB1.out.size))
  rcases hI with h | ⟨z, o, rfl, hI⟩
  · simp at h
  · obtain ⟨a0, a1, a2, a3, _⟩ := hI 0 (by decide)
    obtain ⟨b0, b1, b2, b3, _⟩ := hI 1 (by decide)
    simp at a0 a1 a2 a3 b0 b1 b2 b3
    clear hI hb2 HP
    go_wp2_with fail
    refine (HC.out w2).mono ?_
    rintro x w3 ⟨rfl, hb3⟩
    have HB3 := Lib.hid (HB2.out.trans (hb3.mono HB2.out.size))
    clear hb3 a0 a1 a2 a3 b0 b1 b2 b3 hq
    go_wp2_with fail
    refine (show Calls Tryz.prog 10 #[.string ⟨#[97, 98]⟩, .int .i64 9, .agg #[.int .i64 34, .int .i64 20, .int .i64 16, .int .i64 36, .int .i64 5]] w3 _ from HPA.out w3).mono ?_
    rintro x w4 ⟨Z, rfl, hb4⟩
    have HB4 := Lib.hid (HB3.out.trans (hb4.mono HB3.out.size))
    clear hb4
    go_wp2_with fail
    go_ret
    exact ⟨rfl, HB4.out⟩
end Go.Proofs.YtoneghmahdjgbaaGreat.Om
end
section
set_option linter.unusedVariables false
namespace Go.Proofs.YtoneghmahdjgbaaGreat.Om
open Mt (mat mat_ge mat_same mat_le)
open Bs (lim)
open Ch (bt bt_at bt_lt)
open Pc (Tb)
open Pk (Pt Rp applyL lenB fit_some fit_form2)
open Wnd (copied copied_length take_snoc)
theorem copied_pre (l : List UInt8) (d : Nat) : ∀ n, ∃ k, copied l d n = l ++ k
  | 0 => ⟨[], by rw [List.append_nil]; rfl⟩
  | n + 1 => by
    obtain ⟨k, hk⟩ := copied_pre l d n
    refine ⟨k ++ [(copied l d n).getD ((copied l d n).length - d) 0], ?_⟩
    rw [copied, ← List.append_assoc, ← hk]
theorem tell_pre {p : Pt} {most : Nat} {l l' : List UInt8} {d n : Int} (h : p.tell most l d n = some l') : ∃ k, l' = l ++ k := by
  unfold Pk.Pt.tell at h
  split at h
  · split at h
    · cases h; exact ⟨_, rfl⟩
    · cases h
  · split at h
    · cases h; exact copied_pre _ _ _
    · cases h
theorem apply_pre {most : Nat} {t : List UInt8} : ∀ (ps : List Pt) (l : List UInt8) (r : Rp), applyL most ps l r = (t, 0) → ∃ k, t = l ++ k
  | [], l, r, h => by
    have e := congrArg Prod.fst h
    exact ⟨[], by rw [List.append_nil]; exact e.symm⟩
  | p :: ps, l, r, h => by
    rw [applyL] at h
    split at h
    · simp at h
    · split at h
      · simp at h
      · rename_i l' ht
        obtain ⟨k1, h1⟩ := tell_pre ht
        obtain ⟨k2, h2⟩ := apply_pre ps l' _ h
        exact ⟨k1 ++ k2, by rw [h2, h1, List.append_assoc]⟩
theorem copied_bytes {s : ByteArray} {p d : Nat} (h1 : 1 ≤ d) (h2 : d ≤ p) : ∀ n, p + n ≤ s.size → copied (s.data.toList.take p) d n = s.data.toList.take (p + n) → ∀ j, j < n → bt s (p + j) = bt s (p + j - d)
  | 0, _, _, j, hj => by omega
  | n + 1, hn, h, j, hj => by
    have hsz : s.data.toList.length = s.size := by rw [Array.length_toList]; rfl
    rw [copied, show p + (n + 1) = p + n + 1 from rfl, take_snoc s (p + n) (by omega)] at h
    obtain ⟨e1, e2⟩ := List.append_inj' h rfl
    by_cases hjn : j = n
    · subst hjn
      rw [e1, List.length_take, hsz, show min (p + j) s.size = p + j from by omega] at e2
      simp only [List.cons.injEq, and_true] at e2
      rw [List.getD_eq_getElem?_getD, List.getElem?_take_of_lt (by omega), List.getElem?_eq_getElem (by omega)] at e2
      rw [← bt_at (show p + j < s.size by omega), ← bt_at (show p + j - d < s.size by omega)]
      exact congrArg UInt8.toNat e2.symm
    · exact copied_bytes h1 h2 n (by omega) e1 j (by omega)
theorem mat_of {b : Nat → Nat} {p q : Nat} : ∀ (k n m : Nat), m ≤ n + k → (∀ j, n ≤ j → j < m → b (p + j) = b (q + j)) → m ≤ mat b p q n k ∨ m ≤ n
  | 0, n, m, h, _ => .inr (by omega)
  | k + 1, n, m, h, he => by
    by_cases hm : m ≤ n
    · exact .inr hm
    · left
      rw [Mt.mat, if_pos (he n (Nat.le_refl _) (by omega))]
      rcases mat_of k (n + 1) m (by omega) (fun j h1 h2 => he j (by omega) h2) with h3 | h3
      · exact h3
      · have := mat_ge b p q k (n + 1)
        omega
theorem pre_take {t l k : List UInt8} (h : t = l ++ k) : l = t.take l.length := by rw [h]; simp
theorem path_least {t : Tb} {s : ByteArray} {W : Int} (ht : t.good = true) (hs : s.size ≤ 1048576) (hW : W = 1048576) {most : Nat} : ∀ (ps : List Pt) (p : Nat) (r : Rp) (c a : Int), p ≤ s.size → r.pos →
    applyL most ps (s.data.toList.take p) r = (s.data.toList, 0) → t.go c ps = some a → (ways t s W s.size s.size).1 + c ≤ (ways t s W s.size p).1 + a
  | [], p, r, c, a, hp, hr, h, hg => by
    have hsz : s.data.toList.length = s.size := by rw [Array.length_toList]; rfl
    have e := congrArg List.length (congrArg Prod.fst h)
    simp only [applyL, List.length_take, hsz] at e
    obtain rfl : p = s.size := by omega
    rw [Tb.go] at hg
    cases hg
    omega
  | q :: qs, p, r, c, a, hp, hr, h, hg => by
    have hsz : s.data.toList.length = s.size := by rw [Array.length_toList]; rfl
    have hlen : (s.data.toList.take p).length = p := by rw [List.length_take, hsz]; omega
    rw [applyL] at h
    split at h
    · simp at h
    · rename_i d n r' hf
      split at h
      · simp at h
      · rename_i l' htl
        obtain ⟨hpos, hk⟩ := fit_some hf hr
        obtain ⟨k1, h1⟩ := apply_pre qs l' _ h
        have hl' := pre_take h1
        have hle := congrArg List.length h1
        rw [hsz, List.length_append] at hle
        rw [Tb.go] at hg
        rcases fit_form2 hf with ⟨z1, _⟩ | ⟨z1, z2, z3, _, _, z4, z5⟩ | ⟨z1, _⟩ | ⟨z1, _⟩
        · have hpt : t.pt q = some t.l := by unfold Tb.pt; rw [if_pos z1]
          rw [hpt] at hg
          simp only at hg
          unfold Pk.Pt.tell at htl
          rw [if_pos z1] at htl
          split at htl
          · simp only [Option.some.injEq] at htl
            have hl2 : l'.length = p + 1 := by rw [← htl, List.length_append, hlen]; rfl
            rw [hl2] at hl' hle
            rw [hl'] at h
            have ih := path_least ht hs hW qs (p + 1) r' (c + t.l) a (by omega) hpos h hg
            have := ways_byte (s := s) (W := W) ht hs (show p < s.size by omega)
            omega
          · cases htl
        · have hk1 : ¬ q.k = 1 := by omega
          rcases hk with ⟨hk, _⟩ | ⟨_, g1, g2, g3, g4⟩
          · exact absurd hk hk1
          · rw [hlen] at g2
            unfold lenB at z5
            simp at z5
            have hpt : t.pt q = some (t.cost q.n q.d) := by unfold Tb.pt; rw [if_neg hk1, if_pos z1]
            rw [hpt] at hg
            simp only at hg
            obtain ⟨dd, hdd⟩ : ∃ dd : Nat, d = (dd : Int) := ⟨d.toNat, by omega⟩
            obtain ⟨nn, hnn⟩ : ∃ nn : Nat, n = (nn : Int) := ⟨n.toNat, by omega⟩
            rw [← z2, ← z3, hdd, hnn] at hg
            unfold Pk.Pt.tell at htl
            rw [if_neg hk1] at htl
            split at htl
            · simp only [Option.some.injEq] at htl
              rw [hdd, hnn, Int.toNat_natCast, Int.toNat_natCast] at htl
              have hl2 : l'.length = p + nn := by rw [← htl, copied_length, hlen]
              rw [hl2] at hl' hle
              rw [hl'] at h htl
              have hby := copied_bytes (s := s) (p := p) (d := dd) (by omega) (by omega) nn (by omega) htl
              have hmat : nn ≤ mat (bt s) p (p - dd) 0 (lim s p) := by
                rcases mat_of (b := bt s) (p := p) (q := p - dd) (lim s p) 0 nn (by unfold lim; omega) (fun j _ hj => by
                  rw [hby j hj]; congr 1; omega) with h3 | h3
                · exact h3
                · omega
              have ih := path_least ht hs hW qs (p + nn) r' (c + t.cost (nn : Int) (dd : Int)) a (by omega) hpos h hg
              have := ways_match (s := s) (W := W) ht hs (show p < s.size by omega) (n := nn) (d := dd) (by omega) (by omega) (by omega) (by omega) hmat
              omega
            · cases htl
        · have hpt : t.pt q = none := by unfold Tb.pt; rw [if_neg (by omega), if_neg (by omega)]
          rw [hpt] at hg
          cases hg
        · have hpt : t.pt q = none := by unfold Tb.pt; rw [if_neg (by omega), if_neg (by omega)]
          rw [hpt] at hg
          cases hg
/-- Packets that tell a text have small distances. -/
theorem apply_dist {most : Nat} {t : List UInt8} : ∀ (ps : List Pt) (l : List UInt8) (r : Rp), r.pos → applyL most ps l r = (t, 0) → ∀ q ∈ ps, 0 ≤ q.d ∧ q.d ≤ 1048576
  | [], _, _, _, _, q, hq => by cases hq
  | p :: ps, l, r, hr, h, q, hq => by
    rw [applyL] at h
    split at h
    · simp at h
    · rename_i d n r' hf
      split at h
      · simp at h
      · obtain ⟨hpos, hk⟩ := fit_some hf hr
        rcases List.mem_cons.1 hq with rfl | hq
        · have hp := Pk.plain_of_fit hf
          unfold Pk.Pt.plain at hp
          rcases fit_form2 hf with ⟨z1, _⟩ | ⟨z1, z2, _, _, _, z4, _⟩ | ⟨z1, z2, z3, _⟩ | ⟨z1, _⟩
          · rw [if_pos z1] at hp
            simp at hp
            omega
          · rcases hk with ⟨hk, _⟩ | ⟨_, g1, _⟩
            · omega
            · omega
          · omega
          · rw [if_neg (by omega), if_neg (by omega), if_pos z1] at hp
            simp at hp
            omega
        · exact apply_dist ps _ _ hpos h q hq
end Go.Proofs.YtoneghmahdjgbaaGreat.Om
end
section
set_option linter.unusedVariables false
set_option linter.unusedSimpArgs false
namespace Go.Proofs.YtoneghmahdjgbaaGreat.Om
open Go.RowKit
open Pc (Tb)
open Pk (Pt Rp IsPts repL rrep rep_same rrep_length rrep_bytes applyL)
open Gr (again_any)
/-- The packets, told as reps. -/
def toldL (t : Tb) (s : ByteArray) (W : Int) : List Pt := repL (plainL t s W) 0 ⟨1, 1, 1, 1⟩ ⟨1, 1, 1, 1⟩
structure PlainOk (t : Tb) (s : ByteArray) (W : Int) : Prop where
  cost : t.go 0 (plainL t s W) = some (ways t s W s.size s.size).1
  each : ∀ q ∈ plainL t s W, q.b < 256 ∧ 0 ≤ q.d ∧ q.d ≤ 1048576 ∧ (q.k = 2 → q.d ≤ W)
  len : (plainL t s W).length ≤ s.size
  apply : applyL s.size (plainL t s W) [] ⟨1, 1, 1, 1⟩ = (s.data.toList, 0)
  told : (toldL t s W).length = (plainL t s W).length
  bytes : ∀ q ∈ toldL t s W, q.b < 256
  tells : applyL s.size (toldL t s W) [] ⟨1, 1, 1, 1⟩ = (s.data.toList, 0)
theorem plain_ok {t : Tb} (ht : t.good = true) {s : ByteArray} (hs : s.size ≤ 1048576) (W : Int) : PlainOk t s W := by
  obtain ⟨⟨r, k1⟩, k2, k3, k4⟩ := back_good (s := s) (W := W) ht hs s.size s.size (Nat.le_refl _) (Nat.le_refl _)
  have hrev : (backK (ways t s W s.size) s s.size s.size).reverse = plainL t s W := rfl
  have k3' : ∀ q ∈ plainL t s W, q.b < 256 ∧ 0 ≤ q.d ∧ q.d ≤ 1048576 ∧ (q.k = 2 → q.d ≤ W) := fun q hq => k3 q (by rw [← hrev] at hq; exact List.mem_reverse.1 hq)
  have k4' : (plainL t s W).length ≤ s.size := by rw [← hrev, List.length_reverse]; exact k4
  rw [hrev] at k1 k2
  rw [List.take_of_length_le (by rw [Array.length_toList]; exact Nat.le_refl _)] at k1
  have ha := k1.end s.size
  rw [if_pos (by rw [Array.length_toList]; exact Nat.le_refl _)] at ha
  obtain ⟨r1, r2⟩ := rep_same s.size s.data.toList (plainL t s W) [] ⟨1, 1, 1, 1⟩ ⟨1, 1, 1, 1⟩ (by unfold Rp.pos; simp) (by unfold Rp.pos; simp) (by unfold Rp.small; simp) rfl ha
  exact ⟨k2, k3', k4', ha, by unfold toldL; show (repL _ _ _ _).length = _; rw [show repL (plainL t s W) 0 ⟨1, 1, 1, 1⟩ ⟨1, 1, 1, 1⟩ = rrep (plainL t s W) ⟨1, 1, 1, 1⟩ ⟨1, 1, 1, 1⟩ from r1, rrep_length],
    fun q hq => rrep_bytes (plainL t s W) ⟨1, 1, 1, 1⟩ ⟨1, 1, 1, 1⟩ (fun p hp => (k3' p hp).1) q (by rw [← show repL (plainL t s W) 0 ⟨1, 1, 1, 1⟩ ⟨1, 1, 1, 1⟩ = rrep (plainL t s W) ⟨1, 1, 1, 1⟩ ⟨1, 1, 1, 1⟩ from r1]; exact hq), r2⟩
set_option maxRecDepth 100000 in
theorem parse_any (s : ByteArray) (hs : s.size ≤ 1000) (window : Int) (hw0 : -9223372036854775808 ≤ window) (hw1 : window ≤ 9223372036854775807) (t : Tb) (ht : t.good = true) (w : World) :
    Calls Tryz.prog 10 #[.string s, .int .i64 window, .agg #[.int .i64 t.l, .int .i64 t.m, .int .i64 t.n, .int .i64 t.f, .int .i64 t.b]] w (Gr.Told w (toldL t s (min window 1048576))) := by
  have HPO := Lib.hid (plain_ok ht (show s.size ≤ 1048576 by omega) (min window 1048576))
  have HP := Lib.hid (fun (W : World) => plain_any s hs window hw0 hw1 t ht W)
  have HTE : Hid (repL (plainL t s (min window 1048576)) 0 ⟨1, 1, 1, 1⟩ ⟨1, 1, 1, 1⟩ = toldL t s (min window 1048576)) := Lib.hid rfl
  have hb1 : Below w.heap.size w (w.alloc (.cells #[.int .i64 t.l, .int .i64 t.m, .int .i64 t.n, .int .i64 t.f, .int .i64 t.b] 25)) := (Below.refl _ _).alloc (Nat.le_refl _) _
  obtain ⟨x0, x1, x2, x3, x4⟩ := five_of (heap_alloc_new w (.cells #[.int .i64 t.l, .int .i64 t.m, .int .i64 t.n, .int .i64 t.f, .int .i64 t.b] 25))
  have HB1 := Lib.hid hb1
  clear hb1
  go_enter Tryz.func10, Tryz.ntmps10
  go_upto_region 1 with (fail)
  generalize w.alloc (.cells #[.int .i64 t.l, .int .i64 t.m, .int .i64 t.n, .int .i64 t.f, .int .i64 t.b] 25) = w1 at *
  go_wp2_with fail
  refine (HP.out w1).mono ?_
  rintro x w2 ⟨A, cap, rfl, hb2, hI2⟩
  have HB2 := Lib.hid (HB1.out.trans (hb2.mono HB1.out.size))
  have HAG := Lib.hid (again_any (cap := cap) HB2.out hI2 (by have := HPO.out.len; omega) HPO.out.bytes HPO.out.told)
  clear hb2 hI2 HP x0 x1 x2 x3 x4
  go_wp2_with fail
  refine HAG.out.mono ?_
  rintro x w3 ⟨Z, rfl, hb3, hI3⟩
  have HB3 := Lib.hid hb3
  have HI3 := Lib.hid hI3
  clear hb3 hI3 HAG
  go_wp2_with fail
  go_ret
  exact ⟨Z, by rw [← HTE.out]; rfl, HB3.out, by rw [← HTE.out]; exact HI3.out⟩
end Go.Proofs.YtoneghmahdjgbaaGreat.Om
end
