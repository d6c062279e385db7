/-
  Layer 23, the program's: a chunk added to the registers.
-/
import Derived.Test.YtoabeohfbikpcaaDoorShaWords
import Derived.Deep.RegionHeld3
set_option linter.unusedVariables false
set_option linter.unusedSimpArgs false
namespace Go.Proofs.YtoabeohfbikpcaaDoor.Sh
open Go.RowKit
open Rc
/-- The words that are held: so many of those from m on. -/
def Wx (L : List Nat) (m n : Nat) (x : List Nat) : Prop := x.length = 32 ∧ (∀ j, x.getD j 0 < 4294967296) ∧ ∀ j, j < n → x.getD j 0 = W L (m + j)
theorem getD_set {x : List Nat} {k v : Nat} (hk : k < x.length) (j : Nat) : (x.set k v).getD j 0 = if j = k then v else x.getD j 0 := by
  rw [List.getD_eq_getElem?_getD, List.getElem?_set]
  by_cases h : j = k
  · subst h; simp [hk]
  · rw [if_neg (fun e => h e.symm), if_neg h, List.getD_eq_getElem?_getD]
theorem Wx.next {L : List Nat} {m i : Nat} {x : List Nat} (h : Wx L m (16 + i) x) (hL : L.length = 16) (hl : ∀ t, W L t < 4294967296) (hi : i < 16) : Wx L m (16 + i + 1) (x.set (16 + i) (W L (m + (16 + i)))) := by
  refine ⟨by rw [List.length_set, h.1], fun j => ?_, fun j hj => ?_⟩
  · rw [getD_set (by rw [h.1]; omega)]
    split
    · exact hl _
    · exact h.2.1 j
  · rw [getD_set (by rw [h.1]; omega)]
    split
    · rename_i e; rw [e]
    · exact h.2.2 j (by omega)
theorem getD_append_left {a b : List Nat} {j : Nat} (h : j < a.length) : (a ++ b).getD j 0 = a.getD j 0 := by
  rw [List.getD_eq_getElem?_getD, List.getElem?_append_left h, List.getD_eq_getElem?_getD]
theorem getD_append_right {a b : List Nat} {j : Nat} (h : a.length ≤ j) : (a ++ b).getD j 0 = b.getD (j - a.length) 0 := by
  rw [List.getD_eq_getElem?_getD, List.getElem?_append_right h, List.getD_eq_getElem?_getD]
theorem getD_drop {a : List Nat} {k j : Nat} : (a.drop k).getD j 0 = a.getD (k + j) 0 := by
  rw [List.getD_eq_getElem?_getD, List.getElem?_drop, List.getD_eq_getElem?_getD]
theorem Wx.copied {L : List Nat} {m : Nat} {x : List Nat} (h : Wx L m 32 x) : Wx L (m + 16) 16 (x.drop 16 ++ x.drop 16) := by
  have hl : (x.drop 16).length = 16 := by rw [List.length_drop, h.1]
  refine ⟨by rw [List.length_append, hl], fun j => ?_, fun j hj => ?_⟩
  · rcases Nat.lt_or_ge j 16 with hj | hj
    · rw [getD_append_left (by omega), getD_drop]; exact h.2.1 _
    · rw [getD_append_right (by omega), getD_drop]; exact h.2.1 _
  · rw [getD_append_left (by omega), getD_drop, h.2.2 _ (by omega), show m + (16 + j) = m + 16 + j by omega]
/-- Words of a chunk as they are held at first. -/
theorem Wx.first (s : List UInt8) (p : Nat) : Wx (wsAt s p) 0 16 (wsAt s p ++ List.replicate 16 0) := by
  refine ⟨by rw [List.length_append, wsAt_length]; rfl, fun j => ?_, fun j hj => ?_⟩
  · rcases Nat.lt_or_ge j 16 with hj | hj
    · rw [getD_append_left (by rw [wsAt_length]; exact hj)]; exact wsAt_lt s p j hj
    · rw [getD_append_right (by rw [wsAt_length]; exact hj)]
      rw [List.getD_eq_getElem?_getD, List.getElem?_replicate]
      split <;> simp
  · rw [getD_append_left (by rw [wsAt_length]; exact hj), W_first (wsAt_length s p) (by omega), Nat.zero_add]
/-- The registers and the words in memory. -/
structure AD (w : World) (R B : Nat) (rl x : List Nat) (wr : World) : Prop where
  fr : Frame (fun k => k = R ∨ k = B) w wr
  r : wr.heap[R]? = some (.cells (arr32 rl) 46 (0, 0))
  b : wr.heap[B]? = some (.cells (arr32 x) 55 (0, 0))
theorem AD.setB {w wr : World} {R B : Nat} {rl x : List Nat} (h : AD w R B rl x wr) (hn : R ≠ B) (i v : Nat) : AD w R B rl (x.set i v) (wr.setCell ⟨B, i, none⟩ (.int .u32 (v : Int))) :=
  ⟨h.fr.setCell (.inl (.inr rfl)) _, (Below.heap_setCell wr ⟨B, i, none⟩ (.int .u32 (v : Int)) R hn).trans h.r, arr32_set h.b i v⟩
theorem AD.setR {w wr : World} {R B : Nat} {rl x : List Nat} (h : AD w R B rl x wr) (hn : R ≠ B) (i v : Nat) : AD w R B (rl.set i v) x (wr.setCell ⟨R, i, none⟩ (.int .u32 (v : Int))) :=
  ⟨h.fr.setCell (.inl (.inl rfl)) _, arr32_set h.r i v, (Below.heap_setCell wr ⟨R, i, none⟩ (.int .u32 (v : Int)) B (Ne.symm hn)).trans h.b⟩
theorem AD.drewN {w wr : World} {R B : Nat} {rl x : List Nat} (h : AD w R B rl x wr) (n : Nat) : AD w R B rl x (wr.drewN n) := ⟨h.fr.drewN n, h.r, h.b⟩
theorem AD.drew {w wr : World} {R B : Nat} {rl x : List Nat} (h : AD w R B rl x wr) : AD w R B rl x wr.drew := ⟨h.fr.drew, h.r, h.b⟩
theorem AD.alloc {w wr : World} {R B : Nat} {rl x : List Nat} (h : AD w R B rl x wr) (o : Obj) : AD w R B rl x (wr.alloc o) :=
  ⟨h.fr.alloc o, (Below.heap_alloc wr o R (lt_of_heap h.r)).trans h.r, (Below.heap_alloc wr o B (lt_of_heap h.b)).trans h.b⟩
theorem AD.rowB {w wr : World} {R B : Nat} {rl x : List Nat} (h : AD w R B rl x wr) (hn : R ≠ B) (y : List Nat) : AD w R B rl y (wr.setRow B (arr32 y)) :=
  ⟨⟨h.fr.os, h.fr.tape, h.fr.output, by rw [setRow_size]; exact h.fr.size, fun k hk hn => (setRow_other wr B k _ (by rintro rfl; exact hn (.inr rfl))).trans (h.fr.block k hk hn)⟩, (setRow_other wr B R _ hn).trans h.r, setRow_heap wr B _ _ _ _ h.b⟩
theorem index8_0 (Z : R8) : ∀ w, (Instr.index 46 (.agg (arr32 Z.toL)) (.int .i64 ((0 : Nat) : Int))).run Tryd.prog w = .ok (.int .u32 ((Z.toL.getD 0 0 : Nat) : Int)) w := fun _ => by kernel_rfl
theorem index8_1 (Z : R8) : ∀ w, (Instr.index 46 (.agg (arr32 Z.toL)) (.int .i64 ((1 : Nat) : Int))).run Tryd.prog w = .ok (.int .u32 ((Z.toL.getD 1 0 : Nat) : Int)) w := fun _ => by kernel_rfl
theorem index8_2 (Z : R8) : ∀ w, (Instr.index 46 (.agg (arr32 Z.toL)) (.int .i64 ((2 : Nat) : Int))).run Tryd.prog w = .ok (.int .u32 ((Z.toL.getD 2 0 : Nat) : Int)) w := fun _ => by kernel_rfl
theorem index8_3 (Z : R8) : ∀ w, (Instr.index 46 (.agg (arr32 Z.toL)) (.int .i64 ((3 : Nat) : Int))).run Tryd.prog w = .ok (.int .u32 ((Z.toL.getD 3 0 : Nat) : Int)) w := fun _ => by kernel_rfl
theorem index8_4 (Z : R8) : ∀ w, (Instr.index 46 (.agg (arr32 Z.toL)) (.int .i64 ((4 : Nat) : Int))).run Tryd.prog w = .ok (.int .u32 ((Z.toL.getD 4 0 : Nat) : Int)) w := fun _ => by kernel_rfl
theorem index8_5 (Z : R8) : ∀ w, (Instr.index 46 (.agg (arr32 Z.toL)) (.int .i64 ((5 : Nat) : Int))).run Tryd.prog w = .ok (.int .u32 ((Z.toL.getD 5 0 : Nat) : Int)) w := fun _ => by kernel_rfl
theorem index8_6 (Z : R8) : ∀ w, (Instr.index 46 (.agg (arr32 Z.toL)) (.int .i64 ((6 : Nat) : Int))).run Tryd.prog w = .ok (.int .u32 ((Z.toL.getD 6 0 : Nat) : Int)) w := fun _ => by kernel_rfl
theorem index8_7 (Z : R8) : ∀ w, (Instr.index 46 (.agg (arr32 Z.toL)) (.int .i64 ((7 : Nat) : Int))).run Tryd.prog w = .ok (.int .u32 ((Z.toL.getD 7 0 : Nat) : Int)) w := fun _ => by kernel_rfl
theorem index8 (Z : R8) (k : Nat) (hk : k < 8) (w : World) : (Instr.index 46 (.agg (arr32 Z.toL)) (.int .i64 (k : Int))).run Tryd.prog w = .ok (.int .u32 ((Z.toL.getD k 0 : Nat) : Int)) w := by
  match k, hk with
  | 0, _ => exact index8_0 Z w
  | 1, _ => exact index8_1 Z w
  | 2, _ => exact index8_2 Z w
  | 3, _ => exact index8_3 Z w
  | 4, _ => exact index8_4 Z w
  | 5, _ => exact index8_5 Z w
  | 6, _ => exact index8_6 Z w
  | 7, _ => exact index8_7 Z w
theorem ones_xor (x : Nat) (h : x < 4294967296) : 4294967295 ^^^ x = 4294967295 - x := by
  apply Nat.eq_of_testBit_eq
  intro i
  rw [Nat.testBit_xor, show (4294967295 : Nat) - x = 2 ^ 32 - (x + 1) by omega, Nat.testBit_two_pow_sub_succ h, show (4294967295 : Nat) = 2 ^ 32 - 1 by decide, Nat.testBit_two_pow_sub_one]
  by_cases hi : i < 32
  · simp [hi]
  · simp [hi]
    exact Nat.testBit_lt_two_pow (Nat.lt_of_lt_of_le h (show 2 ^ 32 ≤ 2 ^ i from Nat.pow_le_pow_right (by decide) (by omega)))
theorem not_u (x : Nat) (h : x < 4294967296) : bits .xor .u32 (if IntKind.u32.signed = true then -1 else IntKind.u32.max) (x : Int) = ((4294967295 - x : Nat) : Int) := by
  have e : (if IntKind.u32.signed = true then -1 else IntKind.u32.max : Int) = ((4294967295 : Nat) : Int) := by decide
  rw [e, u32_xor_nat 4294967295 x (by decide) h, ones_xor x h]
def u32s' (l : List Nat) : List Value := l.map fun n : Nat => Value.int .u32 (n : Int)
theorem u32s'_one (l : List Nat) : ∀ u ∈ u32s' l, u.oneCell' = true := by
  intro u hu
  obtain ⟨x, _, rfl⟩ := List.mem_map.1 hu
  rfl
theorem size32 : (Tryd.prog.info? 37).map (·.size) = some 1 := by kernel_rfl
theorem cell_drop {V : World} {B : Nat} {x : List Nat} {t : TypeId} (h : V.heap[B]? = some (.cells (arr32 x) t (0, 0))) {k j : Nat} {v : Value} (hj : (u32s' (x.drop k))[j]? = some v) : V.cell? ((⟨B, k, none⟩ : Addr).add j) = some v := by
  rw [show ((⟨B, k, none⟩ : Addr).add j) = ⟨B, k + j, none⟩ by simp [Addr.add]]
  rw [u32s', List.getElem?_map, List.getElem?_drop] at hj
  unfold World.cell?
  dsimp only
  rw [h]
  simp only [arr32, List.getElem?_toArray, List.getElem?_map]
  exact hj
theorem copy16 {V : World} {B : Nat} {x : List Nat} (hv : V.heap[B]? = some (.cells (arr32 x) 55 (0, 0))) (hx : x.length = 32) :
    (Builtin.copy_ #[24, 24] 3 #[.slice (some ⟨B, 0, none⟩) 16 32, .slice (some ⟨B, 16, none⟩) 16 16]).run Tryd.prog V = .ok (.int .i64 16) (V.setRow B (arr32 (x.drop 16 ++ x.drop 16))) := by
  have hl : (u32s' (x.drop 16)).length = 16 := by simp [u32s', hx]
  have h := run_copy_row (P := Tryd.prog) V 24 24 3 37 B 0 16 32 ⟨B, 16, none⟩ 16 16 (arr32 x) 55 (u32s' (x.drop 16)) Tryd.underlying24 size32 hv (by rw [hl]; rfl) (fun j v hj => cell_drop hv hj) (by rw [hl, arr32_size, hx]; omega) (fun v hv => u32s'_one _ v hv)
  rw [h, hl]
  have e : ((arr32 x).toList.take 0 ++ u32s' (x.drop 16) ++ (arr32 x).toList.drop (0 + 16)).toArray = arr32 (x.drop 16 ++ x.drop 16) := by simp [arr32, u32s']
  rw [e]
  rfl
theorem info8r : (Tryd.prog.info? 46).map (·.size) = some 8 := by kernel_rfl
theorem built8r (r : R8) : Tryd.prog.built 46 [(0, .int .u32 (r.a : Int)), (1, .int .u32 (r.b : Int)), (2, .int .u32 (r.c : Int)), (3, .int .u32 (r.d : Int)), (4, .int .u32 (r.e : Int)), (5, .int .u32 (r.f : Int)), (6, .int .u32 (r.g : Int)), (7, .int .u32 (r.h : Int))] = some (arr32 r.toL) := by
  kernel_rfl
/-- Nothing but a draw. -/
def Dr (w w' : World) : Prop := ∃ k, w' = w.drewN k
set_option maxRecDepth 100000 in
set_option maxHeartbeats 8000000 in
theorem add_any (H : R8) (L x : List Nat) (hok : H.ok) (hL : L.length = 16) (hl : ∀ t, t < 16 → L.getD t 0 < 4294967296) (R B : Nat) (w : World) (hw : AD w R B H.toL x w) (hx : Wx L 0 16 x) (hRB : R ≠ B) (hR0 : R ≠ 0) (hB0 : B ≠ 0) (hz : 0 < w.heap.size)
    (hks : ∀ i, i < 64 → w.cell? ⟨0, i, none⟩ = some (.int .u32 ((kL.getD i 0 : Nat) : Int))) :
    Calls Tryd.prog 26 #[.pointer (some ⟨R, 0, none⟩), .pointer (some ⟨B, 0, none⟩)] w fun z w' => z = .returned (.tuple #[]) ∧ ∃ y, AD w R B (comp H L).toL y w' := by
  have HKS := Lib.hid (fun (wr : World) (hf : Frame (fun k => k = R ∨ k = B) w wr) i (hi : i < 64) => show wr.cell? ⟨0, i, none⟩ = some (.int .u32 ((kL.getD i 0 : Nat) : Int)) from (hf.cell (p := ⟨0, i, none⟩) hz (by simp [Ne.symm hR0, Ne.symm hB0])).trans (hks i hi))
  have HLL := Lib.hid hL
  have HLW := Lib.hid (fun t => W_lt hL hl t)
  have HOK := Lib.hid hok
  have HW := Lib.hid hw
  have HX := Lib.hid hx
  obtain ⟨Zf, hZf⟩ : ∃ Zf, Zf = rnds L H 64 := ⟨_, rfl⟩
  have HRN : Hid ((comp H L).toL = (plus H Zf).toL) := Lib.hid (by rw [hZf]; rfl)
  have HZF : Hid (∀ t, t = 64 → rnds L H t = Zf) := Lib.hid (fun t ht => by rw [ht, hZf])
  obtain ⟨d0, d1, d2, d3, d4, d5, d6, d7⟩ := regs_at hw.r
  have HRL0 := Lib.hid (show RL (rnds L H 0) (.int .u32 (H.a : Int)) (.int .u32 (H.b : Int)) (.int .u32 (H.c : Int)) (.int .u32 (H.d : Int)) (.int .u32 (H.e : Int)) (.int .u32 (H.f : Int)) (.int .u32 (H.g : Int)) (.int .u32 (H.h : Int)) from ⟨rfl, rfl, rfl, rfl, rfl, rfl, rfl, rfl⟩)
  clear hZf hks hz hR0 hB0 hx hw hl hL hok
  generalize H.a = ha at *
  generalize H.b = hb at *
  generalize H.c = hc at *
  generalize H.d = hd at *
  generalize H.e = he at *
  generalize H.f = hf at *
  generalize H.g = hg at *
  generalize H.h = hh at *
  go_enter Tryd.func26, Tryd.ntmps26
  --@1
  go_upto_region 0 with (fail)
  go_quiet (fail)
  have HW0 := Lib.hid (HW.out.drewN nq)
  clear HW d0 d1 d2 d3 d4 d5 d6 d7
  generalize w.drewN nq = W0 at *
  go_wp2_with fail
  go_loopw [4, 5, 6, 7, 8, 9, 10, 11, 12, 13, 14, 15, 51, 52, 53, 54, 55, 56, 57, 58, 59, 60, 61, 62, 63, 64, 65, 66, 67, 68, 69, 70, 71, 72, 73, 74, 75, 76, 77, 78, 79, 80, 81, 82, 83, 84, 85, 86, 87, 88, 89, 90, 91, 92, 93, 94, 95, 96, 97, 98, 99, 100, 101, 102, 103, 104, 105, 106, 107, 108, 109, 110, 111, 112, 113, 114, 115, 116, 117, 118, 119, 120, 121, 122, 123, 124] (fun a b c d e f g h z _ _ _ _ _ _ _ _ _ _ _ _ _ _ _ _ _ _ _ _ _ _ _ _ _ _ _ _ _ _ _ _ _ _ _ _ _ _ _ _ _ _ _ _ _ _ _ _ _ _ _ _ _ _ _ _ _ _ _ _ _ _ _ _ _ _ _ _ _ _ _ _ _ _ _ _ _ wr => ∃ (m : Nat) (x : List Nat), m ≤ 64 ∧ m % 16 = 0 ∧ z = .int .i64 (m : Int) ∧ RL (rnds L H m) a b c d e f g h ∧ Wx L m 16 x ∧ AD w R B H.toL x wr) (fun _ _ _ _ _ _ _ _ z _ _ _ _ _ _ _ _ _ _ _ _ _ _ _ _ _ _ _ _ _ _ _ _ _ _ _ _ _ _ _ _ _ _ _ _ _ _ _ _ _ _ _ _ _ _ _ _ _ _ _ _ _ _ _ _ _ _ _ _ _ _ _ _ _ _ _ _ _ _ _ _ _ _ _ _ _ _ => 64 - (intOf z).toNat)
  case atStart => exact ⟨0, x, by omega, rfl, rfl, HRL0.out, HX.out, HW0.out⟩
  case round =>
    clear HRL0 HX HW0
    obtain ⟨m, x, hm, hm16, rfl, ⟨rfl, rfl, rfl, rfl, rfl, rfl, rfl, rfl⟩, hx, hw⟩ := hrel
    have HX := Lib.hid hx
    have HW := Lib.hid hw
    clear hx hw
    by_cases hlt : m < 64
    · as_aux_lemma =>
      have HRL0 := Lib.hid (show RL (rnds L H (m + 0)) (.int .u32 ((rnds L H m).a : Int)) (.int .u32 ((rnds L H m).b : Int)) (.int .u32 ((rnds L H m).c : Int)) (.int .u32 ((rnds L H m).d : Int)) (.int .u32 ((rnds L H m).e : Int)) (.int .u32 ((rnds L H m).f : Int)) (.int .u32 ((rnds L H m).g : Int)) (.int .u32 ((rnds L H m).h : Int)) from ⟨rfl, rfl, rfl, rfl, rfl, rfl, rfl, rfl⟩)
      have hm48 : m + 16 ≤ 64 := by omega
      generalize (rnds L H m).a = ha at *
      generalize (rnds L H m).b = hb at *
      generalize (rnds L H m).c = hc at *
      generalize (rnds L H m).d = hd at *
      generalize (rnds L H m).e = he at *
      generalize (rnds L H m).f = hf at *
      generalize (rnds L H m).g = hg at *
      generalize (rnds L H m).h = hh at *
      have hmi : (m : Int) < 64 := by omega
      --@2
      go_wp2_with fail
      go_loopw [4, 5, 6, 7, 8, 9, 10, 11, 13, 14, 15, 55, 56, 57, 58, 59, 60, 61, 62, 63, 64, 65, 66, 67, 68, 69, 70, 71, 72, 73, 74, 75, 76, 77, 78, 79, 80, 81, 82, 83, 84, 85, 86, 87, 88, 89, 90, 91, 92, 93, 94, 95, 96, 97, 98, 99, 100, 101, 102, 103, 104, 105, 106, 107, 108, 109, 110, 111, 112, 113, 114, 115, 116, 117] (fun a b c d e f g h _ _ _ j _ _ _ _ _ _ _ _ _ _ _ _ _ _ _ _ _ _ _ _ _ _ _ _ _ _ _ _ _ _ _ _ _ _ _ _ _ _ _ _ _ _ _ _ _ _ _ _ _ _ _ _ _ _ _ _ _ _ _ _ _ _ wq => ∃ (i : Nat) (x : List Nat), i ≤ 16 ∧ j = .int .i64 (i : Int) ∧ RL (rnds L H (m + i)) a b c d e f g h ∧ Wx L m (16 + i) x ∧ AD w R B H.toL x wq) (fun _ _ _ _ _ _ _ _ _ _ _ j _ _ _ _ _ _ _ _ _ _ _ _ _ _ _ _ _ _ _ _ _ _ _ _ _ _ _ _ _ _ _ _ _ _ _ _ _ _ _ _ _ _ _ _ _ _ _ _ _ _ _ _ _ _ _ _ _ _ _ _ _ _ _ => 16 - (intOf j).toNat)
      case atStart => exact ⟨0, x, by omega, rfl, HRL0.out, HX.out, HW.out⟩
      case round =>
        clear HRL0 HX HW
        rename World => wq
        obtain ⟨i, x, hi, rfl, ⟨rfl, rfl, rfl, rfl, rfl, rfl, rfl, rfl⟩, hx, hw⟩ := hrel
        have HX := Lib.hid hx
        have HW := Lib.hid hw
        clear hx hw
        by_cases hi16 : i < 16
        · as_aux_lemma =>
          have HNX := Lib.hid (show rnds L H (m + i + 1) = rnd (kL.getD (m + i) 0) (W L (m + i)) (rnds L H (m + i)) from rfl)
          have ok := rnds_ok (l := L) HOK.out (m + i)
          obtain ⟨x1, x2, x3⟩ := HX.out
          have cw := (arr32_at HW.out.b (i := i) (by omega)).1
          rw [x3 i (by omega)] at cw
          have ck := HKS.out _ HW.out.fr (m + i) (by omega)
          have xw := HLW.out (m + i)
          have xk := kL_lt (m + i)
          have HFO := Lib.hid (fun (nq : Nat) (V : World) (hv : Dr (wq.drewN nq) V) => show Calls Tryd.prog 29 #[.pointer (some ⟨B, 0, none⟩), .int .i64 (i : Int)] V fun z w' => z = .returned (.int .u32 ((W L (m + (16 + i)) : Nat) : Int)) ∧ Dr (wq.drewN nq) w' from by
            obtain ⟨k, rfl⟩ := hv
            refine (following_any (w := (wq.drewN nq).drewN k) (t := 55) (x := x) HW.out.b x1 x2 i hi16).mono ?_
            rintro z w' ⟨rfl, k2, rfl⟩
            refine ⟨?_, k + k2, by simp [World.drewN, Nat.add_assoc]⟩
            rw [x3 i (by omega), x3 (i + 1) (by omega), x3 (i + 9) (by omega), x3 (i + 14) (by omega), show m + (16 + i) = m + i + 16 by omega, W_next HLL.out, show m + i + 1 = m + (i + 1) by omega, show m + i + 9 = m + (i + 9) by omega, show m + i + 14 = m + (i + 14) by omega])
          have HXN := Lib.hid (HX.out.next HLL.out HLW.out hi16)
          have hnx := arr32_at HW.out.b (i := 16 + i) (by omega)
          clear x2 x3
          generalize W L (m + (16 + i)) = wn at *
          generalize W L (m + i) = wv at *
          generalize kL.getD (m + i) 0 = kv at *
          generalize rnds L H (m + i) = r at *
          obtain ⟨ra, rb, rc, rd, re, rf, rg, rh⟩ := r
          obtain ⟨oa, ob, oc, od, oe, of, og, oh⟩ := ok
          dsimp only at *
          have HT1 := Lib.hid (fun (V : World) => show Calls Tryd.prog 28 #[.int .u32 (re : Int), .int .i64 6, .int .i64 11, .int .i64 25] V (fun z w' => z = .returned (.int .u32 ((bs1 re : Nat) : Int)) ∧ w' = V) from still (dturned_any re 6 11 25 oe (by decide) (by decide) (by decide) V))
          have HT2 := Lib.hid (fun (V : World) => show Calls Tryd.prog 28 #[.int .u32 (ra : Int), .int .i64 2, .int .i64 13, .int .i64 22] V (fun z w' => z = .returned (.int .u32 ((bs0 ra : Nat) : Int)) ∧ V = w') from dturned_any ra 2 13 22 oa (by decide) (by decide) (by decide) V)
          have HV1 := Lib.hid (show t1 kv wv ⟨ra, rb, rc, rd, re, rf, rg, rh⟩ = md (md (md (md (rh + bs1 re) + ((re &&& rf) ^^^ ((4294967295 - re) &&& rg))) + kv) + wv) from rfl)
          have HV2 := Lib.hid (show t2 ⟨ra, rb, rc, rd, re, rf, rg, rh⟩ = md (bs0 ra + ((ra &&& rb) ^^^ (ra &&& rc) ^^^ (rb &&& rc))) from rfl)
          have HV3 := Lib.hid (show rnd kv wv ⟨ra, rb, rc, rd, re, rf, rg, rh⟩ = ⟨md (t1 kv wv ⟨ra, rb, rc, rd, re, rf, rg, rh⟩ + t2 ⟨ra, rb, rc, rd, re, rf, rg, rh⟩), ra, rb, rc, md (rd + t1 kv wv ⟨ra, rb, rc, rd, re, rf, rg, rh⟩), re, rf, rg⟩ from rfl)
          have b5 := u32_and_nat _ _ oe of
          have hne : 4294967295 - re < 4294967296 := by omega
          have b6 := not_u re oe
          generalize 4294967295 - re = ne at *
          have b7 := u32_and_nat _ _ hne og
          have b8 := u32_xor_nat _ _ (and32 (b := rf) oe) (and32 (b := rg) hne)
          have b9 := u32_and_nat _ _ oa ob
          have b10 := u32_and_nat _ _ oa oc
          have b11 := u32_and_nat _ _ ob oc
          have b12 := u32_xor_nat _ _ (and32 (b := rb) oa) (and32 (b := rc) oa)
          have b13 := u32_xor_nat _ _ (xor32 (and32 (b := rb) oa) (and32 (b := rc) oa)) (and32 (b := rc) ob)
          generalize bs1 re = p8 at *
          generalize bs0 ra = p10 at *
          generalize re &&& rf = a1 at *
          generalize ne &&& rg = a2 at *
          generalize ra &&& rb = a3 at *
          generalize ra &&& rc = a4 at *
          generalize rb &&& rc = a5 at *
          generalize a1 ^^^ a2 = a6 at *
          generalize a3 ^^^ a4 = a7 at *
          generalize a7 ^^^ a5 = a8 at *
          have v1 := md_add rh p8
          generalize md (rh + p8) = m1 at *
          have v2 := md_add m1 a6
          generalize md (m1 + a6) = m2 at *
          have v3 := md_add m2 kv
          generalize md (m2 + kv) = m3 at *
          have v4 := md_add m3 wv
          rw [← HV1.out] at v4
          generalize t1 kv wv ⟨ra, rb, rc, rd, re, rf, rg, rh⟩ = T1 at *
          have v5 := md_add p10 a8
          rw [← HV2.out] at v5
          generalize t2 ⟨ra, rb, rc, rd, re, rf, rg, rh⟩ = T2' at *
          have v6 := md_add T1 T2'
          have v7 := md_add rd T1
          generalize md (T1 + T2') = n1 at *
          generalize md (rd + T1) = n2 at *
          clear HV1 HV2 oa ob oc od oe of og oh hne xw xk x1
          have e0 : (0 : Int) ≤ (i : Int) := by omega
          have e1 : (i : Int) < 32 := by omega
          have e2 : (i : Int).toNat = i := rfl
          have wmi : IntKind.i64.wrap ((m : Int) + (i : Int)) = (m : Int) + (i : Int) := by rw [IntKind.wrap_i64]; omega
          have e3 : (0 : Int) ≤ (m : Int) + (i : Int) := by omega
          have e4 : (m : Int) + (i : Int) < 64 := by omega
          have e5 : ((m : Int) + (i : Int)).toNat = m + i := by omega
          have w16 : IntKind.i64.wrap (16 + (i : Int)) = 16 + (i : Int) := by rw [IntKind.wrap_i64]; omega
          have e6 : (0 : Int) ≤ 16 + (i : Int) := by omega
          have e7 : 16 + (i : Int) < 32 := by omega
          have e8 : (16 + (i : Int)).toNat = 16 + i := by omega
          go_upto_region 7 with (fail)
          go_quiet (first | (go_at_call 28; (with_reducible exact Calls.quiet_of_same (HT1.out _))))
          have HW2 := Lib.hid (HW.out.drewN nq)
          have HFO2 := Lib.hid (HFO.out nq)
          have hnx2 : (wq.drewN nq).cell? ⟨B, 16 + i, none⟩ = _ ∧ (wq.drewN nq).frozen? ⟨B, 16 + i, none⟩ = false := hnx
          clear HW cw ck HFO hnx
          generalize wq.drewN nq = W7 at *
          generalize x.getD (16 + i) 0 = xo at *
          have HS := Lib.hid (fun (V : World) (hv : Dr W7 V) => show Dr W7 V ∧ (V.cell? ⟨B, 16 + i, none⟩ = some (.int .u32 (xo : Int)) ∧ V.frozen? ⟨B, 16 + i, none⟩ = false) from ⟨hv, by obtain ⟨k, rfl⟩ := hv; exact hnx2⟩)
          have hd0 : Dr W7 W7 := ⟨0, rfl⟩
          have hd1 : Dr W7 W7.drew := ⟨1, rfl⟩
          clear hnx2
          --@3
          go_wp2_with fail
          refine (HT2.out _).mono ?_
          rintro z w1 ⟨rfl, rfl⟩
          go_upto_region 10 with (fail)
          go_region_held3 (fun _ => True) (exact trivial) (first | (go_at_call 29; (with_reducible refine (HFO2.out _ (by assumption)).mono ?_); rintro z w6 ⟨rfl, hq6⟩; have c6 := (HS.out _ hq6).2.1; have f6 := (HS.out _ hq6).2.2))
          --@6
          all_goals
            have HW6 : Hid (AD w R B H.toL (x.set (16 + i) wn) (w6.setCell ⟨B, 16 + i, none⟩ (.int .u32 (wn : Int)))) := Lib.hid (by
              obtain ⟨k, e6⟩ := hq6
              rw [e6]
              exact (HW2.out.drewN k).setB hRB _ _)
            clear HS hd0 hd1 c6 f6 hq6
            generalize w6.setCell ⟨B, 16 + i, none⟩ (.int .u32 (wn : Int)) = W8 at *
            go_wp2_with fail
            --@7
            go_roundw
            case rel => exact ⟨i + 1, _, by omega, by go_num, by rw [show m + (i + 1) = m + i + 1 by omega, HNX.out, HV3.out]; exact ⟨rfl, rfl, rfl, rfl, rfl, rfl, rfl, rfl⟩, by rw [show 16 + (i + 1) = 16 + i + 1 by omega]; exact HXN.out, HW6.out⟩
            case measure => simp [intOf]; omega
        · as_aux_lemma =>
          have hkd : decide ((i : Int) < 16) = false := decide_eq_false (by omega)
          have hkp : ¬ (i : Int) < 16 := by omega
          have hi' : i = 16 := by omega
          have HX2 := Lib.hid (show Wx L (m + 16) 16 (x.drop 16 ++ x.drop 16) from (show Wx L m 32 x from by rw [hi'] at HX; exact HX.out).copied)
          have hxl := HX.out.1
          have HRL := Lib.hid (show RL (rnds L H (m + 16)) (.int .u32 ((rnds L H (m + i)).a : Int)) (.int .u32 ((rnds L H (m + i)).b : Int)) (.int .u32 ((rnds L H (m + i)).c : Int)) (.int .u32 ((rnds L H (m + i)).d : Int)) (.int .u32 ((rnds L H (m + i)).e : Int)) (.int .u32 ((rnds L H (m + i)).f : Int)) (.int .u32 ((rnds L H (m + i)).g : Int)) (.int .u32 ((rnds L H (m + i)).h : Int)) from by rw [hi']; exact ⟨rfl, rfl, rfl, rfl, rfl, rfl, rfl, rfl⟩)
          clear hi' HX
          generalize (rnds L H (m + i)).a = ha at *
          generalize (rnds L H (m + i)).b = hb at *
          generalize (rnds L H (m + i)).c = hc at *
          generalize (rnds L H (m + i)).d = hd at *
          generalize (rnds L H (m + i)).e = he at *
          generalize (rnds L H (m + i)).f = hf at *
          generalize (rnds L H (m + i)).g = hg at *
          generalize (rnds L H (m + i)).h = hh at *
          have hcp := copy16 (V := wq.drew) HW.out.b hxl
          have HW2 := Lib.hid (HW.out.drew.rowB hRB (x.drop 16 ++ x.drop 16))
          clear HW hxl
          generalize x.drop 16 ++ x.drop 16 = y at *
          --@4
          go_upto_region 12 with (fail)
          --@8
          go_region
          --@9
          all_goals
            clear hcp
            generalize wq.drew.setRow B (arr32 y) = W2 at *
            go_wp2_with fail
            go_roundw
            case rel => exact ⟨m + 16, _, by omega, by omega, by go_num, HRL.out, HX2.out, HW2.out⟩
            case measure => simp [intOf]; omega
    · as_aux_lemma =>
      have hkd : decide ((m : Int) < 64) = false := decide_eq_false (by omega)
      have hkp : ¬ (m : Int) < 64 := by omega
      have hZ := HZF.out m (by omega)
      generalize rnds L H m = Z at *
      subst hZ
      obtain ⟨F, hF0, hFn, hF8⟩ := plus_any H Z
      rw [← hF8] at HRN
      rw [← hF0] at HW
      have HFN := Lib.hid hFn
      clear hFn hF0 hF8 HX HLL HLW HKS HOK
      have HWA := Lib.hid (HW.out.alloc (.cells (arr32 Z.toL) 46))
      have HM := Lib.hid (heap_alloc_new wr (.cells (arr32 Z.toL) 46))
      go_upto_region 14 with (first | (refine wpList_build_some rfl 46 _ rfl (arr32 Z.toL) ?hx ?_; (case hx => simp only [List.map_toArray, List.map_cons, List.map_nil]; refine Eq.trans (congrArg _ ?_) (built8r Z); rfl)) | (refine wpList_store_row rfl 46 _ _ rfl wr.heap.size (arr32 Z.toL) rfl rfl 46 _ (heap_alloc_new wr _) (by rw [info8r, arr32_size]; rfl) (by rfl) (arr32_all _) ?_; rw [World.setRow_alloc_new]) | fail)
      clear HW
      generalize wr.alloc (.cells (arr32 Z.toL) 46) = W4 at *
      generalize wr.heap.size = M at *
      --@5
      go_wp2_with (first | (refine wpList_load_row rfl 46 (.tmp 16) rfl M (by rfl) 46 (arr32 Z.toL) (0, 0) _ HM.out Tryd.underlying46 rfl (by rw [info8r, arr32_size]; rfl) ?_) | fail)
      clear HM
      --@10
      go_loopw [17, 18, 135, 136, 137, 138, 139, 140, 141, 142, 143, 144, 145, 146, 147, 148] (fun _ _ j _ _ _ _ _ _ _ _ _ _ _ _ _ wp => ∃ k : Nat, k ≤ 8 ∧ j = .int .i64 (k : Int) ∧ AD w R B (F k) x wp) (fun _ _ j _ _ _ _ _ _ _ _ _ _ _ _ _ _ => 8 - (intOf j).toNat)
      case atStart => exact ⟨0, by omega, rfl, HWA.out⟩
      case round =>
        clear HWA hlt hkd hkp hm hm16
        rename World => W5
        obtain ⟨k, hk, rfl, hw⟩ := hrel
        have HW := Lib.hid hw
        clear hw
        by_cases h8 : k < 8
        · as_aux_lemma =>
          obtain ⟨f1, f2, f3⟩ := HFN.out k h8
          have HF3 := Lib.hid f3
          have hix := index8 Z k h8
          obtain ⟨c0, z0⟩ := arr32_at HW.out.r (i := k) (by omega)
          rw [f2] at c0
          clear f2 f3
          generalize H.toL.getD k 0 = x0 at *
          generalize Z.toL.getD k 0 = x1 at *
          have v1 := md_add x0 x1
          have e0 : (0 : Int) ≤ (k : Int) := by omega
          have e1 : (k : Int) < 8 := by omega
          have e2 : (k : Int).toNat = k := rfl
          generalize md (x0 + x1) = x2 at *
          go_upto_region 17 with (fail)
          --@11
          go_still_tail 9, (by kernel_rfl)
          change wpList _ _ _ _ _ W5.drew
          have HW2 := Lib.hid HW.out.drew
          clear HW c0 z0 hix
          generalize W5.drew = W6 at *
          obtain ⟨hn, hfn⟩ := arr32_at HW2.out.r (i := k) (by omega)
          have HFI := Lib.hid (HW2.out.setR hRB k x2)
          rw [HF3.out] at HFI
          go_wp2_with fail
          --@12
          go_roundw
          case rel => exact ⟨k + 1, by omega, by go_num, HFI.out⟩
          case measure => simp [intOf]; omega
        · as_aux_lemma =>
          rw [show F k = (comp H L).toL by rw [HRN.out, show 8 = k by omega]] at HW
          --@13
          go_wp2_with fail
          first | go_end0 | (simp only [Exit.inBlock, Exit.then]; refine bodyPost_ret (results_none rfl _ _ _) rfl ?_) | refine bodyPost_ret (results_none rfl _ _ _) rfl ?_
          exact ⟨rfl, _, HW.out⟩
end Go.Proofs.YtoabeohfbikpcaaDoor.Sh
