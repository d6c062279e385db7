/-
  Layer 23, the document's answer: the contract of its Sum.
-/
import Derived.Test.YtoabeohfbikpcaaDoorShaMem
import Derived.Test.YtoabeohfbikpcaaDoorShaKs
set_option linter.unusedVariables false
set_option linter.unusedSimpArgs false
namespace Go.Proofs.YtoabeohfbikpcaaDoor.Sh
open Go.RowKit
open Rc
def hF (i : Nat) : List Nat := hL.take i ++ List.replicate (8 - i) 0
theorem hF_all : (List.range 8).all (fun i => (hF i).set i (hL.getD i 0) == hF (i + 1) && (hF i).length == 8) = true := by decide +kernel
/-- What the registers hold while they are laid, step by step; the numbers told by the primes. -/
theorem hF_any : ∃ F : Nat → List Nat, F 0 = [0, 0, 0, 0, 0, 0, 0, 0] ∧ (∀ i, i < 8 → (F i).set i (root (prs (i + 1)) 2) = F (i + 1) ∧ (F i).length = 8) ∧ F 8 = h0.toL := by
  refine ⟨hF, rfl, fun i h => ?_, by decide +kernel⟩
  have := List.all_eq_true.1 hF_all i (List.mem_range.2 h)
  rw [h_root h]
  simpa using this
/-- The sum's bytes, register by register. -/
theorem out_any (R : R8) : ∃ G : Nat → List UInt8, G 0 = [] ∧ (∀ i, i < 8 → G (i + 1) = G i ++ bytesOf (R.toL.getD i 0) ∧ (G i).length = 4 * i) ∧ G 8 = outL R := by
  refine ⟨fun i => (R.toL.take i).flatMap bytesOf, rfl, fun i h => ?_, rfl⟩
  match i, h with
  | 0, _ | 1, _ | 2, _ | 3, _ | 4, _ | 5, _ | 6, _ | 7, _ => exact ⟨rfl, rfl⟩
/-- The words of a chunk, as far as they are reckoned. -/
def wL (l : List Nat) (t : Nat) : List Nat := (List.range 64).map fun i => if i < t then W l i else 0
theorem wL_length (l : List Nat) (t : Nat) : (wL l t).length = 64 := by simp [wL]
theorem wL_get (l : List Nat) {t i : Nat} (h : i < 64) : (wL l t).getD i 0 = if i < t then W l i else 0 := by
  simp [wL, List.getD_eq_getElem?_getD, List.getElem?_map, List.getElem?_range h]
theorem wL_next (l : List Nat) {t : Nat} (h : t < 64) : (wL l t).set t (W l t) = wL l (t + 1) := by
  apply List.ext_getElem
  · simp [wL]
  · intro i h1 h2
    rw [List.length_set, wL_length] at h1
    rw [List.getElem_set]
    have e1 : (wL l t)[i]'(by rw [wL_length]; exact h1) = if i < t then W l i else 0 := by simp [wL]
    have e2 : (wL l (t + 1))[i]'h2 = if i < t + 1 then W l i else 0 := by simp [wL]
    rw [e1, e2]
    by_cases h3 : t = i
    · subst h3; simp
    · rw [if_neg h3]
      by_cases h4 : i < t
      · rw [if_pos h4, if_pos (by omega)]
      · rw [if_neg h4, if_neg (by omega)]
theorem zero64 (l : List Nat) : (#[.int .u32 0, .int .u32 0, .int .u32 0, .int .u32 0, .int .u32 0, .int .u32 0, .int .u32 0, .int .u32 0, .int .u32 0, .int .u32 0, .int .u32 0, .int .u32 0, .int .u32 0, .int .u32 0, .int .u32 0, .int .u32 0, .int .u32 0, .int .u32 0, .int .u32 0, .int .u32 0, .int .u32 0, .int .u32 0, .int .u32 0, .int .u32 0, .int .u32 0, .int .u32 0, .int .u32 0, .int .u32 0, .int .u32 0, .int .u32 0, .int .u32 0, .int .u32 0, .int .u32 0, .int .u32 0, .int .u32 0, .int .u32 0, .int .u32 0, .int .u32 0, .int .u32 0, .int .u32 0, .int .u32 0, .int .u32 0, .int .u32 0, .int .u32 0, .int .u32 0, .int .u32 0, .int .u32 0, .int .u32 0, .int .u32 0, .int .u32 0, .int .u32 0, .int .u32 0, .int .u32 0, .int .u32 0, .int .u32 0, .int .u32 0, .int .u32 0, .int .u32 0, .int .u32 0, .int .u32 0, .int .u32 0, .int .u32 0, .int .u32 0, .int .u32 0] : Array Value) = arr32 (wL l 0) := rfl
/-- The registers in memory, the constants kept. -/
structure RS (w : World) (D : Nat) (l : List Nat) (wr : World) : Prop where
  below : Below w.heap.size w wr
  d : wr.heap[D]? = some (.cells (arr32 l) 41 (0, 0))
theorem RS.trans {w wr w2 : World} {D : Nat} {l : List Nat} (h : RS w D l wr) (hb : Below wr.heap.size wr w2) : RS w D l w2 :=
  ⟨h.below.trans (hb.mono h.below.size), (hb.block D (lt_of_heap h.d)).trans h.d⟩
theorem RS.set {w wr : World} {D : Nat} {l : List Nat} (h : RS w D l wr) (hD : w.heap.size ≤ D) (i v : Nat) : RS w D (l.set i v) (wr.setCell ⟨D, i, none⟩ (.int .u32 (v : Int))) :=
  ⟨h.below.setCell hD _, arr32_set h.d i v⟩
theorem RS.other {w wr : World} {D N : Nat} {l : List Nat} (h : RS w D l wr) (hn : D ≠ N) (hN : w.heap.size ≤ N) (i : Nat) (v : Value) : RS w D l (wr.setCell ⟨N, i, none⟩ v) :=
  ⟨h.below.setCell hN _, (Below.heap_setCell wr ⟨N, i, none⟩ v D hn).trans h.d⟩
theorem RS.drewN {w wr : World} {D : Nat} {l : List Nat} (h : RS w D l wr) (n : Nat) : RS w D l (wr.drewN n) := ⟨⟨h.below.os, h.below.tape, h.below.output, h.below.size, h.below.block⟩, h.d⟩
theorem turn_is (x n : Nat) (hx : x < 4294967296) (hn : n ≤ 32) (w : World) : Calls Tryd.prog 14 #[.int .u32 (x : Int), .int .i64 (n : Int)] w fun z w' => z = .returned (.int .u32 ((rr n x : Nat) : Int)) ∧ w' = w :=
  (turned_any x n hx hn w).mono fun z w' ⟨h1, h2⟩ => ⟨by rw [h1, tr_rr hx n hn], h2.symm⟩
theorem turn_sm (x n : Nat) (hx : x < 4294967296) (hn : n ≤ 32) (w : World) : Calls Tryd.prog 14 #[.int .u32 (x : Int), .int .i64 (n : Int)] w fun z w' => z = .returned (.int .u32 ((rr n x : Nat) : Int)) ∧ w = w' :=
  (turned_any x n hx hn w).mono fun z w' ⟨h1, h2⟩ => ⟨by rw [h1, tr_rr hx n hn], h2⟩
theorem down_is (x n : Nat) (hx : x < 4294967296) (hn : n ≤ 32) (w : World) : Calls Tryd.prog 15 #[.int .u32 (x : Int), .int .i64 (n : Int)] w fun z w' => z = .returned (.int .u32 ((x / 2 ^ n : Nat) : Int)) ∧ w' = w :=
  (down_any x n hx hn w).mono fun z w' ⟨h1, h2⟩ => ⟨by rw [h1, dn_is], h2.symm⟩
theorem xor_u (y c : Nat) (hy : y < 4294967296) (hc : c < 4294967296) : bits .xor .u32 (y : Int) (c : Int) = ((y ^^^ c : Nat) : Int) := u32_xor_nat y c hy hc
theorem and_u (y c : Nat) (hy : y < 4294967296) (hc : c < 4294967296) : bits .and .u32 (y : Int) (c : Int) = ((y &&& c : Nat) : Int) := u32_and_nat y c hy hc
theorem ksAt {w wr : World} {g : Nat} (h : ∀ i, i < 64 → w.cell? ⟨g, i, none⟩ = some (.int .u32 ((kL.getD i 0 : Nat) : Int))) (hg : g < w.heap.size) (hb : Below w.heap.size w wr) : ∀ i, i < 64 → wr.cell? ⟨g, i, none⟩ = some (.int .u32 ((kL.getD i 0 : Nat) : Int)) :=
  fun i hi => (World.cell?_of_block (hb.block g hg)).trans (h i hi)
set_option maxRecDepth 100000 in
set_option maxHeartbeats 8000000 in
theorem refsum_any (l : List UInt8) (hl : l.length ≤ 1000000) (g cap : Nat) (w : World) (hg : g < w.heap.size) (hks : ∀ i, i < 64 → w.cell? ⟨g, i, none⟩ = some (.int .u32 ((kL.getD i 0 : Nat) : Int))) :
    Calls Tryd.prog 7 #[.string (tx l), .slice (some ⟨g, 0, none⟩) 64 cap] w fun z w' => z = .returned (.string (tx (shaL l))) ∧ Below w.heap.size w w' := by
  have HPR := Lib.hid (fun (i : Nat) (hi : i < 64) (W : World) => prime_any i hi W)
  have HRO := Lib.hid (fun (i : Nat) (hi : i < 64) (W : World) => show Calls Tryd.prog 12 #[.int .u64 ((prs (i + 1) : Nat) : Int), .int .i64 2] W _ from root_any (prs (i + 1)) 2 (prs_next hi).2 (.inl rfl) W)
  have HKS := Lib.hid (fun (wr : World) (hb : Below w.heap.size w wr) => ksAt hks hg hb)
  clear hks hg
  go_enter Tryd.func7, Tryd.ntmps7
  go_upto_region 2 with (fail)
  obtain ⟨F, hF0, hFn, hF8⟩ := hF_any
  have HFN := Lib.hid hFn
  have HF8 := Lib.hid hF8
  clear hFn hF8
  have HR0 : Hid (RS w w.heap.size (F 0) (w.alloc (.cells (arr32 [0, 0, 0, 0, 0, 0, 0, 0]) 41))) := Lib.hid ⟨(Below.refl _ _).alloc (Nat.le_refl _) _, by rw [hF0]; exact heap_alloc_new _ _⟩
  rw [show (#[.int .u32 0, .int .u32 0, .int .u32 0, .int .u32 0, .int .u32 0, .int .u32 0, .int .u32 0, .int .u32 0] : Array Value) = arr32 [0, 0, 0, 0, 0, 0, 0, 0] from rfl]
  clear hF0
  obtain ⟨D, hD⟩ : ∃ D, D = w.heap.size := ⟨_, rfl⟩
  rw [← hD] at HR0 ⊢
  have hds : w.heap.size ≤ D := by omega
  clear hD
  generalize w.alloc (.cells (arr32 [0, 0, 0, 0, 0, 0, 0, 0]) 41) = W0 at *
  go_wp2_with fail
  go_loopw [6, 29, 30, 31, 32, 33, 34, 35, 36, 37] (fun i _ _ _ _ _ _ _ _ _ wr => ∃ k : Nat, k ≤ 8 ∧ i = .int .i64 (k : Int) ∧ RS w D (F k) wr) (fun i _ _ _ _ _ _ _ _ _ _ => 8 - (intOf i).toNat)
  case atStart => exact ⟨0, by omega, rfl, HR0.out⟩
  case round =>
    clear HR0
    obtain ⟨k, hk, rfl, hR⟩ := hrel
    have HR := Lib.hid hR
    clear hR
    by_cases hlt : k < 8
    · as_aux_lemma =>
      --{{
      have HN := Lib.hid (HFN.out k hlt)
      have hll := HN.out.2
      generalize F k = q at *
      go_wp2_with fail
      refine (HPR.out k (by omega) _).mono ?_
      rintro z w1 ⟨rfl, rfl⟩
      go_wp2_with fail
      --@1
      refine (HRO.out k (by omega) _).mono ?_
      rintro z w2 ⟨rfl, hb2⟩
      have HR2 := Lib.hid (HR.out.trans hb2)
      clear hb2 HR
      generalize root (prs (k + 1)) 2 = r at *
      obtain ⟨hn, hfn⟩ := arr32_at HR2.out.d (i := k) (by omega)
      --@2
      go_wp2_with fail
      --@3
      go_roundw
      case rel => exact ⟨k + 1, by omega, by go_num, by have := HR2.out.set hds k r; rw [HN.out.1] at this; exact this⟩
      case measure => simp [intOf]; omega
      --}}
    · as_aux_lemma =>
      have hkd : decide ((k : Int) < 8) = false := decide_eq_false (by omega)
      have hkp : ¬ (k : Int) < 8 := by omega
      rw [show F k = h0.toL by rw [show k = 8 by omega, HF8.out]] at HR
      have HTL := Lib.hid (show shaL l = outL (runB (pad l) h0 ((l.length + 72) / 64)) from rfl)
      have HPL := Lib.hid (pad_length l)
      have HPD := Lib.hid (show pad l = l ++ (128 :: List.replicate (zeros l.length) 0) ++ be (8 * l.length) 8 by unfold pad tailOf; rw [show w64 (8 * l.length) = 8 * l.length from w64_is (by omega)]; simp)
      have hts := tx_size l
      have HT1 := Lib.hid (show tx l ++ (⟨#[128]⟩ : ByteArray) = tx (l ++ (128 :: List.replicate 0 0)) from tx_append l [128])
      have HT2 := Lib.hid (fun k => show tx (l ++ (128 :: List.replicate k 0)) ++ (⟨#[0]⟩ : ByteArray) = tx (l ++ (128 :: List.replicate (k + 1) 0)) by rw [show (⟨#[0]⟩ : ByteArray) = tx [0] from rfl, tx_append, List.append_assoc, List.replicate_succ', List.cons_append])
      have HT3 := Lib.hid (fun k => show (tx (l ++ (128 :: List.replicate k 0))).size = l.length + 1 + k by rw [tx_size]; simp; omega)
      generalize hn : l.length = n at *
      generalize tx l = T at *
      go_upto_region 8 with (fail)
      go_wp2_with fail
      go_loopw [0, 44, 45, 46, 47, 48, 49] (fun s _ _ _ _ _ _ wp => ∃ k : Nat, k ≤ zeros n ∧ s = .string (tx (l ++ (128 :: List.replicate k 0))) ∧ wp = wr) (fun s _ _ _ _ _ _ _ => match s with | .string s => n + 100 - s.size | _ => 0)
      case atStart => exact ⟨0, by omega, by rw [HT1.out], rfl⟩
      case round =>
        clear hkd hkp hlt hk
        obtain ⟨k, hk, rfl, rfl⟩ := hrel
        have hsz := HT3.out k
        have HTN := Lib.hid (HT2.out k)
        have hsn := HT3.out (k + 1)
        have hz : zeros n = (119 - n % 64) % 64 := rfl
        by_cases hlt : k < zeros n
        · as_aux_lemma =>
          have hb : (((n : Int) + 1 + (k : Int)) % 64 != 56) = true := bne_iff_ne.2 (by omega)
          go_wp2_with fail
          --@5
          go_roundw
          case rel => exact ⟨k + 1, by omega, by rw [HTN.out], trivial⟩
          case measure => show n + 100 - (tx (l ++ (128 :: List.replicate k 0)) ++ (⟨#[0]⟩ : ByteArray)).size < n + 100 - (tx (l ++ (128 :: List.replicate k 0))).size; rw [HTN.out, hsn, hsz]; omega
        · as_aux_lemma =>
          have hb : (((n : Int) + 1 + (k : Int)) % 64 != 56) = false := by
            obtain rfl : k = zeros n := by omega
            rw [bne_eq_false_iff_eq]; omega
          have HPD2 := Lib.hid (show tx (l ++ (128 :: List.replicate k 0)) ++ tx (be (8 * n) 8) = tx (pad l) by rw [HPD.out, tx_append, show zeros n = k by omega])
          have hk64 : k < 64 := by omega
          clear HPD HT1 HT2 HT3 HTN hsn hz
          generalize tx (l ++ (128 :: List.replicate k 0)) = T2 at *
          have HB0 := Lib.hid (show be (8 * n) 0 = [] from rfl)
          have HBN := Lib.hid (fun k => show tx [UInt8.ofNat (8 * n / 256 ^ k % 256)] ++ tx (be (8 * n) k) = tx (be (8 * n) (k + 1)) from tx_append _ _)
          have HBS := Lib.hid (fun k => show (tx (be (8 * n) k)).size = k by rw [tx_size, be_length])
          have HOT := Lib.hid (fun (b : Nat) (hb : b < 256) (W : World) => one_text (W := W) hb)
          go_upto_region 12 with (fail)
          --@6
          go_wp2_with fail
          go_loopw [7, 8, 9, 50, 51, 52, 53, 54, 55, 56, 57, 58, 59, 60, 61, 62] (fun v e i _ _ _ _ _ _ _ _ _ _ _ _ _ wp => ∃ k : Nat, k ≤ 8 ∧ i = .int .i64 (k : Int) ∧ v = .int .u64 ((8 * n / 256 ^ k : Nat) : Int) ∧ e = .string (tx (be (8 * n) k)) ∧ RS w D h0.toL wp) (fun _ _ i _ _ _ _ _ _ _ _ _ _ _ _ _ _ => 8 - (intOf i).toNat)
          case atStart => exact ⟨0, by omega, rfl, by congr 1; simp; omega, rfl, HR.out⟩
          case round =>
            rename World => wp
            obtain ⟨k, hk, rfl, rfl, rfl, hR⟩ := hrel
            have HR2 := Lib.hid hR
            clear hR
            by_cases hlt : k < 8
            · as_aux_lemma =>
              --{{
              have HV := Lib.hid (show 8 * n / 256 ^ k / 256 = 8 * n / 256 ^ (k + 1) by rw [Nat.div_div_eq_div_mul, Nat.pow_succ])
              have hm : 8 * n / 256 ^ k ≤ 8000000 := Nat.le_trans (Nat.div_le_self _ _) (by omega)
              have HBE := Lib.hid (HBN.out k)
              have hE := HBS.out k
              generalize tx (be (8 * n) k) = E at *
              generalize 8 * n / 256 ^ k = m at *
              have hb1 : (m : Int) % 256 = ((m % 256 : Nat) : Int) := by omega
              have hb2 : m % 256 < 256 := by omega
              have hcv := HOT.out (m % 256) hb2 wp
              have hB : (tx [UInt8.ofNat (m % 256)]).size = 1 := tx_size _
              have HW := Lib.hid (HR2.out.trans ((Below.refl wp.heap.size wp).alloc (Nat.le_refl _) (.cells #[.int .u8 ((m % 256 : Nat) : Int)] 5)))
              have hd : (m : Int) / 256 = ((m / 256 : Nat) : Int) := by omega
              have hd2 : m / 256 ≤ 8000000 := by omega
              generalize m % 256 = b at *
              generalize tx [UInt8.ofNat b] = B at *
              generalize m / 256 = m2 at *
              clear HR2 HR hts HOT HBN
              --@7
              go_wp2_with fail
              --@9
              go_roundw
              case rel => exact ⟨k + 1, by omega, by go_num, by rw [← HV.out], by rw [← HBE.out], HW.out⟩
              case measure => simp [intOf]; omega
              --}}
            · as_aux_lemma =>
              have hkd : decide ((k : Int) < 8) = false := decide_eq_false (by omega)
              have hkp : ¬ (k : Int) < 8 := by omega
              have HPL2 := Lib.hid (show (pad l).length = 64 * ((n + 72) / 64) from HPL.out)
              have htb : (tx (be (8 * n) k)).size ≤ 8 := by have := HBS.out k; omega
              rw [show be (8 * n) 8 = be (8 * n) k by rw [show k = 8 by omega]] at HPD2
              generalize tx (be (8 * n) k) = B8 at *
              have h7 : 8 * n / 256 ^ k ≤ 8000000 := Nat.le_trans (Nat.div_le_self _ _) (by omega)
              generalize 8 * n / 256 ^ k = m7 at *
              go_upto_region 17 with (fail)
              clear hsz htb HBS HBN HOT hts HB0 HPL HR HFN HF8 HPR HRO
              have HP0 := Lib.hid (show T2 ++ B8 = tx ((pad l).drop (64 * 0)) from HPD2.out)
              clear HPD2 hkd hkp
              generalize pad l = P at *
              have HPM := Lib.hid (show (n + 72) / 64 ≤ 20000 by omega)
              generalize (n + 72) / 64 = m at *
              have hPs := Lib.hid (fun q => show (tx (P.drop (64 * q))).size = 64 * m - 64 * q by rw [tx_size, List.length_drop, HPL2.out])
              --@8
              go_wp2_with fail
              go_loopw [0, 10, 11, 12, 13, 14, 15, 16, 17, 18, 19, 20, 21, 22, 23, 24, 25, 26, 66, 67, 68, 69, 70, 71, 72, 73, 74, 75, 76, 77, 78, 79, 80, 81, 82, 83, 84, 85, 86, 87, 88, 89, 90, 91, 92, 93, 94, 95, 96, 97, 98, 99, 100, 101, 102, 103, 104, 105, 106, 107, 108, 109, 110, 111, 112, 113, 114, 115, 116, 117, 118, 119, 120, 121, 122, 123, 124, 125, 126, 127, 128, 129, 130, 131, 132, 133, 134, 135, 136, 137, 138, 139, 140, 141, 142, 143, 144, 145, 146, 147, 148, 149, 150, 151, 152, 153, 154, 155, 156, 157, 158, 159, 160, 161, 162, 163, 164, 165, 166, 167, 168, 169, 170, 171, 172, 173, 174, 175, 176, 177, 178, 179, 180, 181, 182, 183, 184, 185, 186, 187, 188, 189, 190, 191, 192, 193, 194, 195, 196, 197, 198, 199, 200, 201, 202, 203, 204, 205, 206, 207, 208, 209, 210, 211, 212, 213, 214, 215, 216, 217, 218, 219, 220, 221, 222, 223, 224, 225, 226, 227, 228, 229, 230, 231, 232, 233, 234, 235, 236, 237, 238, 239, 240, 241, 242, 243, 244, 245] (fun s _ _ _ _ _ _ _ _ _ _ _ _ _ _ _ _ _ _ _ _ _ _ _ _ _ _ _ _ _ _ _ _ _ _ _ _ _ _ _ _ _ _ _ _ _ _ _ _ _ _ _ _ _ _ _ _ _ _ _ _ _ _ _ _ _ _ _ _ _ _ _ _ _ _ _ _ _ _ _ _ _ _ _ _ _ _ _ _ _ _ _ _ _ _ _ _ _ _ _ _ _ _ _ _ _ _ _ _ _ _ _ _ _ _ _ _ _ _ _ _ _ _ _ _ _ _ _ _ _ _ _ _ _ _ _ _ _ _ _ _ _ _ _ _ _ _ _ _ _ _ _ _ _ _ _ _ _ _ _ _ _ _ _ _ _ _ _ _ _ _ _ _ _ _ _ _ _ _ _ _ _ _ _ _ _ _ _ _ _ _ _ _ _ _ _ _ _ wq => ∃ q : Nat, q ≤ m ∧ s = .string (tx (P.drop (64 * q))) ∧ RS w D (runB P h0 q).toL wq) (fun s _ _ _ _ _ _ _ _ _ _ _ _ _ _ _ _ _ _ _ _ _ _ _ _ _ _ _ _ _ _ _ _ _ _ _ _ _ _ _ _ _ _ _ _ _ _ _ _ _ _ _ _ _ _ _ _ _ _ _ _ _ _ _ _ _ _ _ _ _ _ _ _ _ _ _ _ _ _ _ _ _ _ _ _ _ _ _ _ _ _ _ _ _ _ _ _ _ _ _ _ _ _ _ _ _ _ _ _ _ _ _ _ _ _ _ _ _ _ _ _ _ _ _ _ _ _ _ _ _ _ _ _ _ _ _ _ _ _ _ _ _ _ _ _ _ _ _ _ _ _ _ _ _ _ _ _ _ _ _ _ _ _ _ _ _ _ _ _ _ _ _ _ _ _ _ _ _ _ _ _ _ _ _ _ _ _ _ _ _ _ _ _ _ _ _ _ _ _ => match s with | .string s => s.size | _ => 0)
              case atStart => exact ⟨0, by omega, by rw [HP0.out], HR2.out⟩
              case round =>
                rename World => wq
                obtain ⟨q, hq, rfl, hR⟩ := hrel
                have HR := Lib.hid hR
                clear hR HR2 HP0
                have hsz := hPs.out q
                by_cases hlt : q < m
                · as_aux_lemma =>
                  --{{
                  have hUa := Lib.hid (fun (i : Nat) (h : i < (tx (P.drop (64 * q))).size) => show ((tx (P.drop (64 * q)))[i].toNat : Nat) = bAt P (64 * q + i) by rw [tx_get]; unfold bAt; rw [List.getD_eq_getElem?_getD, List.getElem?_drop, List.getD_eq_getElem?_getD])
                  have HUN := Lib.hid (show (tx (P.drop (64 * q))).extract 64 (tx (P.drop (64 * q))).size = tx (P.drop (64 * (q + 1))) by rw [tx_extract, List.drop_drop, tx_size, List.take_of_length_le (by simp; omega)]; rfl)
                  obtain ⟨Zf, hZf⟩ : ∃ Zf, Zf = rnds (wsAt P (64 * q)) (runB P h0 q) 64 := ⟨_, rfl⟩
                  have HRN : Hid ((runB P h0 (q + 1)).toL = (plus (runB P h0 q) Zf).toL) := Lib.hid (by rw [hZf]; rfl)
                  have HZF : Hid (∀ t, t = 64 → rnds (wsAt P (64 * q)) (runB P h0 q) t = Zf) := Lib.hid (fun t ht => by rw [ht, hZf])
                  clear hZf
                  have HLL := Lib.hid (wsAt_length P (64 * q))
                  have HLG := Lib.hid (fun t (ht : t < 16) => show W (wsAt P (64 * q)) t = wAt P (64 * q + 4 * t) by rw [W_first (wsAt_length _ _) ht, wsAt_get _ _ ht])
                  have HLW := Lib.hid (fun t => W_lt (wsAt_length P (64 * q)) (wsAt_lt P (64 * q)) t)
                  have HOK := Lib.hid (show (runB P h0 q).ok from runB_ok h0_ok q)
                  have HUS := Lib.hid hsz
                  have hS : 64 ≤ (tx (P.drop (64 * q))).size := by omega
                  have hS2 : (tx (P.drop (64 * q))).size ≤ 2000000 := by have := HPM.out; omega
                  clear hsz
                  generalize tx (P.drop (64 * q)) = U at *
                  generalize wsAt P (64 * q) = L at *
                  generalize runB P h0 q = H at *
                  have hp0 : 0 < U.size := by omega
                  have hp1 : (0 : Int) < (U.size : Int) := by omega
                  go_upto_region 21 with (fail)
                  --@10
                  have hDl : D < wq.heap.size := lt_of_heap HR.out.d
                  rw [zero64 L]
                  have HR1 := Lib.hid (show RS w D H.toL (wq.alloc (.cells (arr32 (wL L 0)) 42)) from HR.out.trans ((Below.refl _ _).alloc (Nat.le_refl _) _))
                  have HN1 := Lib.hid (heap_alloc_new wq (.cells (arr32 (wL L 0)) 42))
                  generalize wq.alloc (.cells (arr32 (wL L 0)) 42) = W1 at *
                  obtain ⟨N, hN⟩ : ∃ N, N = wq.heap.size := ⟨_, rfl⟩
                  rw [← hN] at HN1 ⊢
                  have hDN : D ≠ N := by omega
                  have hNs : w.heap.size ≤ N := by omega
                  clear hDl hN HR
                  go_wp2_with fail
                  go_loopw [11, 12, 13, 71, 72, 73, 74, 75, 76, 77, 78, 79, 80, 81, 82, 83, 84, 85, 86, 87, 88, 89, 90, 91, 92, 93, 94, 95, 96, 97, 98, 99, 100, 101, 102, 103, 104, 105, 106, 107, 108, 109, 110, 111, 112, 113, 114, 115, 116, 117, 118, 119, 120, 121, 122, 123, 124, 125, 126, 127, 128, 129, 130, 131, 132, 133, 134, 135, 136, 137, 138, 139, 140, 141, 142, 143, 144] (fun i _ _ _ _ _ _ _ _ _ _ _ _ _ _ _ _ _ _ _ _ _ _ _ _ _ _ _ _ _ _ _ _ _ _ _ _ _ _ _ _ _ _ _ _ _ _ _ _ _ _ _ _ _ _ _ _ _ _ _ _ _ _ _ _ _ _ _ _ _ _ _ _ _ _ _ _ wp => ∃ t : Nat, t ≤ 64 ∧ i = .int .i64 (t : Int) ∧ RS w D H.toL wp ∧ wp.heap[N]? = some (.cells (arr32 (wL L t)) 42 (0, 0))) (fun i _ _ _ _ _ _ _ _ _ _ _ _ _ _ _ _ _ _ _ _ _ _ _ _ _ _ _ _ _ _ _ _ _ _ _ _ _ _ _ _ _ _ _ _ _ _ _ _ _ _ _ _ _ _ _ _ _ _ _ _ _ _ _ _ _ _ _ _ _ _ _ _ _ _ _ _ _ => 64 - (intOf i).toNat)
                  case atStart => exact ⟨0, by omega, rfl, HR1.out, HN1.out⟩
                  case round =>
                    rename World => wp
                    obtain ⟨t, ht, rfl, hR, hN⟩ := hrel
                    have HR := Lib.hid hR
                    have HN := Lib.hid hN
                    clear hR hN HR1 HN1
                    by_cases h64 : t < 64
                    · as_aux_lemma =>
                      have HWN := Lib.hid (wL_next L h64)
                      obtain ⟨hn, hfn⟩ := arr32_at HN.out (i := t) (by rw [wL_length]; omega)
                      have e0 : (0 : Int) ≤ (t : Int) := by omega
                      have e1 : (t : Int) < 64 := by omega
                      have e2 : (t : Int).toNat = t := rfl
                      by_cases h16 : t < 16
                      · as_aux_lemma =>
                        have a0 : 4 * t < U.size := by omega
                        have a1 : 4 * t + 1 < U.size := by omega
                        have a2 : 4 * t + 2 < U.size := by omega
                        have a3 : 4 * t + 3 < U.size := by omega
                        have w0 : IntKind.i64.wrap (4 * (t : Int)) = 4 * (t : Int) := by rw [IntKind.wrap_i64]; omega
                        have w1 : IntKind.i64.wrap (4 * (t : Int) + 1) = 4 * (t : Int) + 1 := by rw [IntKind.wrap_i64]; omega
                        have w2 : IntKind.i64.wrap (4 * (t : Int) + 2) = 4 * (t : Int) + 2 := by rw [IntKind.wrap_i64]; omega
                        have w3 : IntKind.i64.wrap (4 * (t : Int) + 3) = 4 * (t : Int) + 3 := by rw [IntKind.wrap_i64]; omega
                        have i0 : (0 : Int) ≤ 4 * (t : Int) := by omega
                        have i1 : (0 : Int) ≤ 4 * (t : Int) + 1 := by omega
                        have i2 : (0 : Int) ≤ 4 * (t : Int) + 2 := by omega
                        have i3 : (0 : Int) ≤ 4 * (t : Int) + 3 := by omega
                        have j0 : 4 * (t : Int) < (U.size : Int) := by omega
                        have j1 : 4 * (t : Int) + 1 < (U.size : Int) := by omega
                        have j2 : 4 * (t : Int) + 2 < (U.size : Int) := by omega
                        have j3 : 4 * (t : Int) + 3 < (U.size : Int) := by omega
                        have k0 : (4 * (t : Int)).toNat = 4 * t := by omega
                        have k1 : (4 * (t : Int) + 1).toNat = 4 * t + 1 := by omega
                        have k2 : (4 * (t : Int) + 2).toNat = 4 * t + 2 := by omega
                        have k3 : (4 * (t : Int) + 3).toNat = 4 * t + 3 := by omega
                        go_upto_region 24 with (fail)
                        --@12
                        go_still_tail 31, (by kernel_rfl)
                        change wpList _ _ _ _ _ wp.drew
                        have HR2 := Lib.hid (show RS w D H.toL wp.drew from ⟨HR.out.below.drew, HR.out.d⟩)
                        have HN2 := Lib.hid (show wp.drew.heap[N]? = _ from HN.out)
                        clear hn hfn HR HN
                        generalize wp.drew = wp2 at *
                        obtain ⟨hn, hfn⟩ := arr32_at HN2.out (i := t) (by rw [wL_length]; omega)
                        go_wp2_with fail
                        go_roundw
                        case rel =>
                          have hv : (16777216 * ((U[4 * t].toNat : Int) % 4294967296) + 65536 * ((U[4 * t + 1].toNat : Int) % 4294967296) + 256 * ((U[4 * t + 2].toNat : Int) % 4294967296) + (U[4 * t + 3].toNat : Int)) % 4294967296 = ((W L t : Nat) : Int) := by
                            rw [HLG.out t h16, hUa.out _ a0, hUa.out _ a1, hUa.out _ a2, hUa.out _ a3]
                            have c0 := bAt_lt P (64 * q + 4 * t)
                            have c1 := bAt_lt P (64 * q + (4 * t + 1))
                            have c2 := bAt_lt P (64 * q + (4 * t + 2))
                            have c3 := bAt_lt P (64 * q + (4 * t + 3))
                            unfold wAt
                            rw [show 64 * q + 4 * t + 1 = 64 * q + (4 * t + 1) by omega, show 64 * q + 4 * t + 2 = 64 * q + (4 * t + 2) by omega, show 64 * q + 4 * t + 3 = 64 * q + (4 * t + 3) by omega]
                            generalize bAt P (64 * q + 4 * t) = b0 at *
                            generalize bAt P (64 * q + (4 * t + 1)) = b1 at *
                            generalize bAt P (64 * q + (4 * t + 2)) = b2 at *
                            generalize bAt P (64 * q + (4 * t + 3)) = b3 at *
                            omega
                          rw [hv]
                          exact ⟨t + 1, by omega, by go_num, HR2.out.other hDN hNs _ _, by have := arr32_set HN2.out t (W L t); rw [HWN.out] at this; exact this⟩
                        case measure => simp [intOf]; omega
                      · as_aux_lemma =>
                        obtain ⟨r, hr⟩ : ∃ r, t = r + 16 := ⟨t - 16, by omega⟩
                        have HNX := Lib.hid (W_next HLL.out r)
                        rw [← hr] at HNX
                        have x0 := HLW.out r
                        have x1 := HLW.out (r + 1)
                        have x9 := HLW.out (r + 9)
                        have x14 := HLW.out (r + 14)
                        have c0 := (arr32_at HN.out (i := r) (by rw [wL_length]; omega)).1
                        have c1 := (arr32_at HN.out (i := r + 1) (by rw [wL_length]; omega)).1
                        have c9 := (arr32_at HN.out (i := r + 9) (by rw [wL_length]; omega)).1
                        have c14 := (arr32_at HN.out (i := r + 14) (by rw [wL_length]; omega)).1
                        rw [wL_get _ (by omega), if_pos (by omega)] at c0 c1 c9 c14
                        generalize W L r = z0 at *
                        generalize W L (r + 1) = z1 at *
                        generalize W L (r + 9) = z9 at *
                        generalize W L (r + 14) = z14 at *
                        have i1 : (0 : Int) ≤ (t : Int) - 15 := by omega
                        have j1 : (t : Int) - 15 < 64 := by omega
                        have k1 : ((t : Int) - 15).toNat = r + 1 := by omega
                        have i2 : (0 : Int) ≤ (t : Int) - 2 := by omega
                        have j2 : (t : Int) - 2 < 64 := by omega
                        have k2 : ((t : Int) - 2).toNat = r + 14 := by omega
                        have i3 : (0 : Int) ≤ (t : Int) - 16 := by omega
                        have j3 : (t : Int) - 16 < 64 := by omega
                        have k3 : ((t : Int) - 16).toNat = r := by omega
                        have i4 : (0 : Int) ≤ (t : Int) - 7 := by omega
                        have j4 : (t : Int) - 7 < 64 := by omega
                        have k4 : ((t : Int) - 7).toNat = r + 9 := by omega
                        have w1 : IntKind.i64.wrap ((t : Int) - 15) = (t : Int) - 15 := by rw [IntKind.wrap_i64]; omega
                        have w2 : IntKind.i64.wrap ((t : Int) - 2) = (t : Int) - 2 := by rw [IntKind.wrap_i64]; omega
                        have w3 : IntKind.i64.wrap ((t : Int) - 16) = (t : Int) - 16 := by rw [IntKind.wrap_i64]; omega
                        have w4 : IntKind.i64.wrap ((t : Int) - 7) = (t : Int) - 7 := by rw [IntKind.wrap_i64]; omega
                        have l1 : (15 : Int) ≤ (t : Int) := by omega
                        have l2 : (2 : Int) ≤ (t : Int) := by omega
                        have l3 : (16 : Int) ≤ (t : Int) := by omega
                        have l4 : (7 : Int) ≤ (t : Int) := by omega
                        clear hr
                        go_upto_region 25 with (fail)
                        go_quiet (fail)
                        have HR2 := Lib.hid (HR.out.drewN nq)
                        have HN2 := Lib.hid (show (wp.drewN nq).heap[N]? = _ from HN.out)
                        have c0' : (wp.drewN nq).cell? ⟨N, r, none⟩ = some (.int .u32 (z0 : Int)) := c0
                        have c9' : (wp.drewN nq).cell? ⟨N, r + 9, none⟩ = some (.int .u32 (z9 : Int)) := c9
                        clear c0 c1 c9 c14 hn hfn HR HN i1 j1 k1 i2 j2 k2 w1 w2
                        generalize wp.drewN nq = W2 at *
                        have HT1 := Lib.hid (fun (V : World) => show Calls Tryd.prog 14 #[.int .u32 (z1 : Int), .int .i64 7] V _ from turn_is z1 7 x1 (by decide) V)
                        have HT2 := Lib.hid (fun (V : World) => show Calls Tryd.prog 14 #[.int .u32 (z1 : Int), .int .i64 18] V _ from turn_is z1 18 x1 (by decide) V)
                        have HT3 := Lib.hid (fun (V : World) => show Calls Tryd.prog 15 #[.int .u32 (z1 : Int), .int .i64 3] V _ from down_is z1 3 x1 (by decide) V)
                        have HT4 := Lib.hid (fun (V : World) => show Calls Tryd.prog 14 #[.int .u32 (z14 : Int), .int .i64 17] V _ from turn_is z14 17 x14 (by decide) V)
                        have HT5 := Lib.hid (fun (V : World) => show Calls Tryd.prog 14 #[.int .u32 (z14 : Int), .int .i64 19] V _ from turn_is z14 19 x14 (by decide) V)
                        have HT6 := Lib.hid (fun (V : World) => show Calls Tryd.prog 15 #[.int .u32 (z14 : Int), .int .i64 10] V _ from down_is z14 10 x14 (by decide) V)
                        have y1 : rr 7 z1 < 4294967296 := rr_lt (by decide) x1
                        have y2 : rr 18 z1 < 4294967296 := rr_lt (by decide) x1
                        have y3 : z1 / 2 ^ 3 < 4294967296 := by omega
                        have y4 : rr 17 z14 < 4294967296 := rr_lt (by decide) x14
                        have y5 : rr 19 z14 < 4294967296 := rr_lt (by decide) x14
                        have y6 : z14 / 2 ^ 10 < 4294967296 := by omega
                        have HS0 := Lib.hid (show rr 7 z1 ^^^ rr 18 z1 ^^^ z1 / 2 ^ 3 = ss0 z1 from rfl)
                        have HS1 := Lib.hid (show rr 17 z14 ^^^ rr 19 z14 ^^^ z14 / 2 ^ 10 = ss1 z14 from rfl)
                        generalize rr 7 z1 = p1 at *
                        generalize rr 18 z1 = p2 at *
                        generalize z1 / 2 ^ 3 = p3 at *
                        generalize rr 17 z14 = p4 at *
                        generalize rr 19 z14 = p5 at *
                        generalize z14 / 2 ^ 10 = p6 at *
                        have b1 := xor_u p1 p2 y1 y2
                        have y12 := xor32 y1 y2
                        have b4 := xor_u p4 p5 y4 y5
                        have y45 := xor32 y4 y5
                        generalize p1 ^^^ p2 = p12 at *
                        generalize p4 ^^^ p5 = p45 at *
                        have b2 := xor_u p12 p3 y12 y3
                        have b5 := xor_u p45 p6 y45 y6
                        rw [HS0.out] at b2
                        rw [HS1.out] at b5
                        generalize ss0 z1 = s0 at *
                        generalize ss1 z14 = s1 at *
                        have v1 := md_add z0 s0
                        generalize md (z0 + s0) = m1 at *
                        have v2 := md_add m1 z9
                        generalize md (m1 + z9) = m2 at *
                        have v3 := md_add m2 s1
                        rw [← HNX.out] at v3
                        go_upto_region 26 with (fail)
                        go_still_tail 29, (by kernel_rfl)
                        --@17
                        still_call (HT1.out _)
                        repeat still_step
                        still_call (HT2.out _)
                        repeat still_step
                        --@18
                        still_call (HT3.out _)
                        repeat still_step
                        still_call (HT4.out _)
                        repeat still_step
                        still_call (HT5.out _)
                        repeat still_step
                        still_call (HT6.out _)
                        repeat still_step
                        try refine wpStill_nil ?_
                        change wpList _ _ _ _ _ W2.drew
                        have HR3 := Lib.hid (show RS w D H.toL W2.drew from ⟨HR2.out.below.drew, HR2.out.d⟩)
                        have HN3 := Lib.hid (show W2.drew.heap[N]? = _ from HN2.out)
                        clear HR2 HN2 c0' c9'
                        generalize W2.drew = W3 at *
                        obtain ⟨hn, hfn⟩ := arr32_at HN3.out (i := t) (by rw [wL_length]; omega)
                        have HFI := Lib.hid (arr32_set HN3.out t (W L t))
                        rw [HWN.out] at HFI
                        --@19
                        go_wp2_with fail
                        go_roundw
                        --@20
                        case rel => exact ⟨t + 1, by omega, by go_num, HR3.out.other hDN hNs _ _, HFI.out⟩
                        case measure => simp [intOf]; omega
                    · as_aux_lemma =>
                      have hkd : decide ((t : Int) < 64) = false := decide_eq_false (by omega)
                      have hkp : ¬ (t : Int) < 64 := by omega
                      rw [show wL L t = wL L 64 by rw [show t = 64 by omega]] at HN
                      clear HLG hUa
                      obtain ⟨d0, d1, d2, d3, d4, d5, d6, d7⟩ := regs_at HR.out.d
                      have HRL0 := Lib.hid (show RL (rnds L H 0) (.int .u32 (H.a : Int)) (.int .u32 (H.b : Int)) (.int .u32 (H.c : Int)) (.int .u32 (H.d : Int)) (.int .u32 (H.e : Int)) (.int .u32 (H.f : Int)) (.int .u32 (H.g : Int)) (.int .u32 (H.h : Int)) from ⟨rfl, rfl, rfl, rfl, rfl, rfl, rfl, rfl⟩)
                      generalize H.a = ha at *
                      generalize H.b = hb at *
                      generalize H.c = hc at *
                      generalize H.d = hd at *
                      generalize H.e = he at *
                      generalize H.f = hf at *
                      generalize H.g = hg at *
                      generalize H.h = hh at *
                      --@15
                      go_upto_region 27 with (fail)
                      go_quiet (fail)
                      have HR2 := Lib.hid (HR.out.drewN nq)
                      have HN2 := Lib.hid (show (wp.drewN nq).heap[N]? = _ from HN.out)
                      clear HR HN d0 d1 d2 d3 d4 d5 d6 d7
                      generalize wp.drewN nq = W2 at *
                      --@21
                      go_wp2_with fail
                      go_loopw [14, 15, 16, 17, 18, 19, 20, 21, 22, 23, 24, 161, 162, 163, 164, 165, 166, 167, 168, 169, 170, 171, 172, 173, 174, 175, 176, 177, 178, 179, 180, 181, 182, 183, 184, 185, 186, 187, 188, 189, 190, 191, 192, 193, 194, 195, 196, 197, 198, 199, 200, 201, 202, 203, 204, 205, 206, 207, 208, 209, 210, 211, 212, 213, 214, 215, 216, 217, 218, 219, 220, 221, 222, 223, 224] (fun a b c d e f g z i _ _ _ _ _ _ _ _ _ _ _ _ _ _ _ _ _ _ _ _ _ _ _ _ _ _ _ _ _ _ _ _ _ _ _ _ _ _ _ _ _ _ _ _ _ _ _ _ _ _ _ _ _ _ _ _ _ _ _ _ _ _ _ _ _ _ wp => ∃ t : Nat, t ≤ 64 ∧ i = .int .i64 (t : Int) ∧ RL (rnds L H t) a b c d e f g z ∧ RS w D H.toL wp ∧ wp.heap[N]? = some (.cells (arr32 (wL L 64)) 42 (0, 0))) (fun _ _ _ _ _ _ _ _ i _ _ _ _ _ _ _ _ _ _ _ _ _ _ _ _ _ _ _ _ _ _ _ _ _ _ _ _ _ _ _ _ _ _ _ _ _ _ _ _ _ _ _ _ _ _ _ _ _ _ _ _ _ _ _ _ _ _ _ _ _ _ _ _ _ _ _ => 64 - (intOf i).toNat)
                      case atStart => exact ⟨0, by omega, rfl, HRL0.out, HR2.out, HN2.out⟩
                      case round =>
                        clear HRL0 HR2 HN2 hkd hkp h64 ht
                        rename World => W3
                        obtain ⟨t, ht, rfl, ⟨rfl, rfl, rfl, rfl, rfl, rfl, rfl, rfl⟩, hR, hN⟩ := hrel
                        have HR := Lib.hid hR
                        have HN := Lib.hid hN
                        clear hR hN
                        by_cases h64 : t < 64
                        · as_aux_lemma =>
                          have HNX := Lib.hid (show rnds L H (t + 1) = rnd (kL.getD t 0) (W L t) (rnds L H t) from rfl)
                          have ok := rnds_ok (l := L) HOK.out t
                          have cw := (arr32_at HN.out (i := t) (by rw [wL_length]; omega)).1
                          rw [wL_get _ (by omega), if_pos h64] at cw
                          have ck := HKS.out _ HR.out.below t h64
                          have xw := HLW.out t
                          have xk := kL_lt t
                          generalize W L t = wv at *
                          generalize kL.getD t 0 = kv at *
                          generalize rnds L H t = r at *
                          obtain ⟨ra, rb, rc, rd, re, rf, rg, rh⟩ := r
                          obtain ⟨oa, ob, oc, od, oe, of, og, oh⟩ := ok
                          dsimp only at *
                          have e0 : (0 : Int) ≤ (t : Int) := by omega
                          have e1 : (t : Int) < 64 := by omega
                          have e2 : (t : Int).toNat = t := rfl
                          have HT1 := Lib.hid (fun (V : World) => show Calls Tryd.prog 14 #[.int .u32 (re : Int), .int .i64 6] V _ from turn_is re 6 oe (by decide) V)
                          have HT2 := Lib.hid (fun (V : World) => show Calls Tryd.prog 14 #[.int .u32 (re : Int), .int .i64 11] V _ from turn_is re 11 oe (by decide) V)
                          have HT3 := Lib.hid (fun (V : World) => show Calls Tryd.prog 14 #[.int .u32 (re : Int), .int .i64 25] V _ from turn_is re 25 oe (by decide) V)
                          have HT4 := Lib.hid (fun (V : World) => show Calls Tryd.prog 14 #[.int .u32 (ra : Int), .int .i64 2] V _ from turn_sm ra 2 oa (by decide) V)
                          have HT5 := Lib.hid (fun (V : World) => show Calls Tryd.prog 14 #[.int .u32 (ra : Int), .int .i64 13] V _ from turn_sm ra 13 oa (by decide) V)
                          have HT6 := Lib.hid (fun (V : World) => show Calls Tryd.prog 14 #[.int .u32 (ra : Int), .int .i64 22] V _ from turn_sm ra 22 oa (by decide) V)
                          have y1 : rr 6 re < 4294967296 := rr_lt (by decide) oe
                          have y2 : rr 11 re < 4294967296 := rr_lt (by decide) oe
                          have y3 : rr 25 re < 4294967296 := rr_lt (by decide) oe
                          have y4 : rr 2 ra < 4294967296 := rr_lt (by decide) oa
                          have y5 : rr 13 ra < 4294967296 := rr_lt (by decide) oa
                          have y6 : rr 22 ra < 4294967296 := rr_lt (by decide) oa
                          have HV1 := Lib.hid (show t1 kv wv ⟨ra, rb, rc, rd, re, rf, rg, rh⟩ = md (md (md (md (rh + (rr 6 re ^^^ rr 11 re ^^^ rr 25 re)) + ((re &&& rf) ^^^ ((4294967295 - re) &&& rg))) + kv) + wv) from rfl)
                          have HV2 := Lib.hid (show t2 ⟨ra, rb, rc, rd, re, rf, rg, rh⟩ = md ((rr 2 ra ^^^ rr 13 ra ^^^ rr 22 ra) + ((ra &&& rb) ^^^ (ra &&& rc) ^^^ (rb &&& rc))) from rfl)
                          have HV3 := Lib.hid (show rnd kv wv ⟨ra, rb, rc, rd, re, rf, rg, rh⟩ = ⟨md (t1 kv wv ⟨ra, rb, rc, rd, re, rf, rg, rh⟩ + t2 ⟨ra, rb, rc, rd, re, rf, rg, rh⟩), ra, rb, rc, md (rd + t1 kv wv ⟨ra, rb, rc, rd, re, rf, rg, rh⟩), re, rf, rg⟩ from rfl)
                          have b1 := xor_u _ _ y1 y2
                          have b2 := xor_u _ _ (xor32 y1 y2) y3
                          have b3 := xor_u _ _ y4 y5
                          have b4 := xor_u _ _ (xor32 y4 y5) y6
                          have b5 := and_u _ _ oe of
                          have hne : 4294967295 - re < 4294967296 := by omega
                          have b6 : IntKind.u32.wrap (4294967295 - (re : Int)) = ((4294967295 - re : Nat) : Int) := by rw [IntKind.wrap_u32]; omega
                          generalize 4294967295 - re = ne at *
                          have b7 := and_u _ _ hne og
                          have b8 := xor_u _ _ (and32 (b := rf) oe) (and32 (b := rg) hne)
                          have b9 := and_u _ _ oa ob
                          have b10 := and_u _ _ oa oc
                          have b11 := and_u _ _ ob oc
                          have b12 := xor_u _ _ (and32 (b := rb) oa) (and32 (b := rc) oa)
                          have b13 := xor_u _ _ (xor32 (and32 (b := rb) oa) (and32 (b := rc) oa)) (and32 (b := rc) ob)
                          generalize rr 6 re = p1 at *
                          generalize rr 11 re = p2 at *
                          generalize rr 25 re = p3 at *
                          generalize rr 2 ra = p4 at *
                          generalize rr 13 ra = p5 at *
                          generalize rr 22 ra = p6 at *
                          generalize re &&& rf = a1 at *
                          generalize ne &&& rg = a2 at *
                          generalize ra &&& rb = a3 at *
                          generalize ra &&& rc = a4 at *
                          generalize rb &&& rc = a5 at *
                          generalize p1 ^^^ p2 = p7 at *
                          generalize p7 ^^^ p3 = p8 at *
                          generalize p4 ^^^ p5 = p9 at *
                          generalize p9 ^^^ p6 = p10 at *
                          generalize a1 ^^^ a2 = a6 at *
                          generalize a3 ^^^ a4 = a7 at *
                          generalize a7 ^^^ a5 = a8 at *
                          have v1 := md_add rh p8
                          generalize md (rh + p8) = m1 at *
                          have v2 := md_add m1 a6
                          generalize md (m1 + a6) = m2 at *
                          have v3 := md_add m2 kv
                          generalize md (m2 + kv) = m3 at *
                          have v4 := md_add m3 wv
                          rw [← HV1.out] at v4
                          generalize t1 kv wv ⟨ra, rb, rc, rd, re, rf, rg, rh⟩ = T1 at *
                          have v5 := md_add p10 a8
                          rw [← HV2.out] at v5
                          generalize t2 ⟨ra, rb, rc, rd, re, rf, rg, rh⟩ = T2' at *
                          have v6 := md_add T1 T2'
                          have v7 := md_add rd T1
                          generalize md (T1 + T2') = n1 at *
                          generalize md (rd + T1) = n2 at *
                          clear HV1 HV2 y1 y2 y3 y4 y5 y6
                          go_upto_region 31 with (fail)
                          go_quiet (first | (go_at_call 14; (with_reducible exact Calls.quiet_of_same (HT1.out _))) | (go_at_call 14; (with_reducible exact Calls.quiet_of_same (HT2.out _))) | (go_at_call 14; (with_reducible exact Calls.quiet_of_same (HT3.out _))))
                          --@22
                          have HR2 := Lib.hid (HR.out.drewN nq)
                          have HN2 := Lib.hid (show (W3.drewN nq).heap[N]? = _ from HN.out)
                          clear HR HN cw ck
                          generalize W3.drewN nq = W4 at *
                          go_wp2_with fail
                          refine (HT4.out _).mono ?_
                          rintro z w1 ⟨rfl, rfl⟩
                          go_wp2_with fail
                          refine (HT5.out _).mono ?_
                          rintro z w1 ⟨rfl, rfl⟩
                          go_wp2_with fail
                          refine (HT6.out _).mono ?_
                          rintro z w1 ⟨rfl, rfl⟩
                          go_wp2_with fail
                          --@24
                          go_roundw
                          case rel => exact ⟨t + 1, by omega, by go_num, by rw [HNX.out, HV3.out]; exact ⟨rfl, rfl, rfl, rfl, rfl, rfl, rfl, rfl⟩, HR2.out, HN2.out⟩
                          case measure => simp [intOf]; omega
                        · as_aux_lemma =>
                          have hkd : decide ((t : Int) < 64) = false := decide_eq_false (by omega)
                          have hkp : ¬ (t : Int) < 64 := by omega
                          --@31
                          have hZ := HZF.out t (by omega)
                          generalize rnds L H t = Z at *
                          subst hZ
                          --@32
                          obtain ⟨F, hF0, hFn, hF8⟩ := plus_any H Z
                          rw [← hF8] at HRN
                          rw [← hF0] at HR
                          have HFN := Lib.hid hFn
                          clear hFn hF0 hF8 HN HLW HLL
                          --@33
                          have HW := Lib.hid (show RS w D (F 0) (W3.alloc (.cells (arr32 Z.toL) 41)) from HR.out.trans ((Below.refl _ _).alloc (Nat.le_refl _) _))
                          have HM := Lib.hid (heap_alloc_new W3 (.cells (arr32 Z.toL) 41))
                          have HDL := Lib.hid (show D < W3.heap.size from lt_of_heap HR.out.d)
                          --@34
                          go_upto_region 35 with (first | (refine wpList_build_some rfl 41 _ rfl (arr32 Z.toL) ?hx ?_; (case hx => simp only [List.map_toArray, List.map_cons, List.map_nil]; refine Eq.trans (congrArg _ ?_) (built8 Z); rfl)) | (refine wpList_store_row rfl 41 _ _ rfl W3.heap.size (arr32 Z.toL) rfl rfl 41 _ (heap_alloc_new W3 _) (by rw [info8u, arr32_size]; rfl) (by rfl) (arr32_all _) ?_; rw [World.setRow_alloc_new]) | fail)
                          --@23
                          generalize W3.alloc (.cells (arr32 Z.toL) 41) = W4 at *
                          obtain ⟨M, hM⟩ : ∃ M, M = W3.heap.size := ⟨_, rfl⟩
                          rw [← hM] at HM ⊢
                          have hDM : D ≠ M := by have := HDL.out; omega
                          clear hM HDL HR
                          go_wp2_with fail
                          go_loopw [26, 234, 235, 236, 237, 238, 239, 240, 241, 242, 243, 244, 245] (fun i _ _ _ _ _ _ _ _ _ _ _ _ wp => ∃ k : Nat, k ≤ 8 ∧ i = .int .i64 (k : Int) ∧ RS w D (F k) wp ∧ wp.heap[M]? = some (.cells (arr32 Z.toL) 41 (0, 0))) (fun i _ _ _ _ _ _ _ _ _ _ _ _ _ => 8 - (intOf i).toNat)
                          case atStart => exact ⟨0, by omega, rfl, HW.out, HM.out⟩
                          case round =>
                            clear HW HM hkd hkp h64 ht
                            rename World => W5
                            obtain ⟨k2, hk2, rfl, hR, hM⟩ := hrel
                            have HR := Lib.hid hR
                            have HM := Lib.hid hM
                            clear hR hM
                            by_cases h8 : k2 < 8
                            · as_aux_lemma =>
                              obtain ⟨f1, f2, f3⟩ := HFN.out k2 h8
                              have HF3 := Lib.hid f3
                              obtain ⟨c0, z0⟩ := arr32_at HR.out.d (i := k2) (by omega)
                              have c1 := (arr32_at HM.out (i := k2) h8).1
                              rw [f2] at c0
                              clear f2 f3
                              generalize H.toL.getD k2 0 = x0 at *
                              generalize Z.toL.getD k2 0 = x1 at *
                              have v1 := md_add x0 x1
                              have e0 : (0 : Int) ≤ (k2 : Int) := by omega
                              have e1 : (k2 : Int) < 8 := by omega
                              have e2 : (k2 : Int).toNat = k2 := rfl
                              generalize md (x0 + x1) = x2 at *
                              go_upto_region 38 with (fail)
                              go_still_tail 8, (by kernel_rfl)
                              --@25
                              change wpList _ _ _ _ _ W5.drew
                              have HR2 := Lib.hid (show RS w D (F k2) W5.drew from ⟨HR.out.below.drew, HR.out.d⟩)
                              have HM2 := Lib.hid (show W5.drew.heap[M]? = _ from HM.out)
                              clear HR HM c0 c1 z0
                              generalize W5.drew = W6 at *
                              obtain ⟨hn, hfn⟩ := arr32_at HR2.out.d (i := k2) (by omega)
                              have HFI := Lib.hid (HR2.out.set hds k2 x2)
                              rw [HF3.out] at HFI
                              have HMI := Lib.hid ((Below.heap_setCell W6 ⟨D, k2, none⟩ (.int .u32 (x2 : Int)) M (fun e => hDM e.symm)).trans HM2.out)
                              go_wp2_with fail
                              go_roundw
                              case rel => exact ⟨k2 + 1, by omega, by go_num, HFI.out, HMI.out⟩
                              case measure => simp [intOf]; omega
                            · as_aux_lemma =>
                              have hkd : decide ((k2 : Int) < 8) = false := decide_eq_false (by omega)
                              have hkp : ¬ (k2 : Int) < 8 := by omega
                              have HR2 := Lib.hid (show RS w D (runB P h0 (q + 1)).toL W5 by rw [HRN.out, show 8 = k2 by omega]; exact HR.out)
                              clear HFN HR HM HRN
                              have hsn := hPs.out (q + 1)
                              have hsq := hPs.out q
                              --@26
                              go_wp2_with fail
                              go_roundw
                              --@27
                              case rel => exact ⟨q + 1, by omega, by rw [← HUN.out], HR2.out⟩
                              case measure => show (U.extract 64 U.size).size < U.size; rw [HUN.out, hsn, HUS.out]; omega
                  --}}
                · as_aux_lemma =>
                  have hd : 64 * m - 64 * q = 0 := by omega
                  rw [hd] at hsz
                  have hqm : q = m := by omega
                  rw [← hqm] at HTL
                  have HOK := Lib.hid (show (runB P h0 q).ok from runB_ok h0_ok q)
                  have hdr := tx_size (P.drop (64 * q))
                  clear hqm hd hPs HPL2 HPM hdr
                  generalize tx (P.drop (64 * q)) = U at *
                  generalize runB P h0 q = R at *
                  obtain ⟨G, hG0, hGn, hG8⟩ := out_any R
                  have HGN := Lib.hid hGn
                  have HG8 := Lib.hid hG8
                  clear hGn hG8
                  have HG0 := Lib.hid (show (⟨#[]⟩ : ByteArray) = tx (G 0) by rw [hG0]; rfl)
                  clear hG0
                  have hp0 : ¬ 0 < U.size := by omega
                  have hp1 : ¬ (0 : Int) < (U.size : Int) := by omega
                  go_upto_region 41 with (fail)
                  --@11
                  go_wp2_with fail
                  go_loopw [27, 28, 246, 247, 248, 249, 250, 251, 252, 253, 254, 255, 256, 257, 258, 259, 260, 261, 262, 263, 264, 265, 266, 267, 268, 269, 270, 271, 272, 273, 274, 275] (fun s i _ _ _ _ _ _ _ _ _ _ _ _ _ _ _ _ _ _ _ _ _ _ _ _ _ _ _ _ _ _ wp => ∃ k : Nat, k ≤ 8 ∧ i = .int .i64 (k : Int) ∧ s = .string (tx (G k)) ∧ RS w D R.toL wp) (fun _ i _ _ _ _ _ _ _ _ _ _ _ _ _ _ _ _ _ _ _ _ _ _ _ _ _ _ _ _ _ _ _ => 8 - (intOf i).toNat)
                  case atStart => exact ⟨0, by omega, rfl, by rw [HG0.out], HR.out⟩
                  case round =>
                    clear HR hp0 hp1 HG0
                    rename World => W3
                    obtain ⟨k2, hk2, rfl, rfl, hR⟩ := hrel
                    have HR := Lib.hid hR
                    clear hR
                    by_cases h8 : k2 < 8
                    · as_aux_lemma =>
                      obtain ⟨g1, g2⟩ := HGN.out k2 h8
                      have c0 := (arr32_at HR.out.d (i := k2) h8).1
                      have xl := toL_lt HOK.out k2 h8
                      generalize R.toL.getD k2 0 = x at *
                      obtain ⟨q0, h0⟩ : ∃ q0, q0 = x / 16777216 % 256 := ⟨_, rfl⟩
                      obtain ⟨q1, h1⟩ : ∃ q1, q1 = x / 65536 % 256 := ⟨_, rfl⟩
                      obtain ⟨q2, h2⟩ : ∃ q2, q2 = x / 256 % 256 := ⟨_, rfl⟩
                      obtain ⟨q3, h3⟩ : ∃ q3, q3 = x % 256 := ⟨_, rfl⟩
                      have hbx : bytesOf x = [UInt8.ofNat q0, UInt8.ofNat q1, UInt8.ofNat q2, UInt8.ofNat q3] := by rw [h0, h1, h2, h3]; rfl
                      have y0 : (x : Int) / 16777216 = (q0 : Int) := by omega
                      have y1 : (x : Int) / 65536 % 256 = (q1 : Int) := by omega
                      have y2 : (x : Int) / 256 % 256 = (q2 : Int) := by omega
                      have y3 : (x : Int) % 256 = (q3 : Int) := by omega
                      have l0 : q0 < 256 := by omega
                      have l1 : q1 < 256 := by omega
                      have l2 : q2 < 256 := by omega
                      have l3 : q3 < 256 := by omega
                      clear h0 h1 h2 h3 xl
                      rw [hbx] at g1
                      have HG1 := Lib.hid (show tx (G k2) ++ tx [UInt8.ofNat q0, UInt8.ofNat q1, UInt8.ofNat q2, UInt8.ofNat q3] = tx (G (k2 + 1)) by rw [g1, tx_append])
                      have hgs : (tx (G k2)).size ≤ 32 := by rw [tx_size, g2]; omega
                      have hbs : (tx [UInt8.ofNat q0, UInt8.ofNat q1, UInt8.ofNat q2, UInt8.ofNat q3]).size = 4 := tx_size _
                      clear g1 g2 hbx
                      generalize tx (G k2) = V at *
                      have HFT := Lib.hid (fun (W : World) => four_text_drew (W := W) l0 l1 l2 l3)
                      generalize tx [UInt8.ofNat q0, UInt8.ofNat q1, UInt8.ofNat q2, UInt8.ofNat q3] = B4 at *
                      have e0 : (0 : Int) ≤ (k2 : Int) := by omega
                      have e1 : (k2 : Int) < 8 := by omega
                      have e2 : (k2 : Int).toNat = k2 := rfl
                      go_upto_region 43 with (fail)
                      have hcv := HFT.out W3
                      have hcell : W3.cell? ⟨D, k2, none⟩ = some (.int .u32 (x : Int)) := c0
                      --@43
                      go_region
                      --@41
                      have HRX : Hid (RS w D R.toL (W3.alloc (.cells #[.int .u8 (q0 : Int), .int .u8 (q1 : Int), .int .u8 (q2 : Int), .int .u8 (q3 : Int)] 5)).drew) := Lib.hid (HR.out.trans (((Below.refl W3.heap.size W3).alloc (Nat.le_refl _) _).drew))
                      clear hcv hcell c0 HR
                      all_goals
                        go_wp2_with fail
                        go_roundw
                        case rel => exact ⟨k2 + 1, by omega, by go_num, by rw [HG1.out], HRX.out⟩
                        case measure => simp [intOf]; omega
                    · as_aux_lemma =>
                      --@42
                      rw [show G k2 = outL R by rw [show k2 = 8 by omega, HG8.out]]
                      go_wp2_with fail
                      go_ret
                      exact ⟨by rw [HTL.out]; rfl, HR.out.below⟩
end Go.Proofs.YtoabeohfbikpcaaDoor.Sh
