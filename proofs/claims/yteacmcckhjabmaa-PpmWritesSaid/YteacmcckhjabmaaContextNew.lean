/-
  Package context: the contract of New; the contracts of the methods that only read the object.
-/
import Derived.Test.YteacmcckhjabmaaContextNil
set_option linter.unusedVariables false
set_option linter.unusedSimpArgs false
namespace Go.Proofs.Yteacmcckhjabmaa.Cx
open Go.RowKit
open Rc Ar
/-- A number within bounds. -/
def clip (n a b : Int) : Int := if n < a then a else if b < n then b else n
theorem clip_in {n a b : Int} (h : a ≤ b) : a ≤ clip n a b ∧ clip n a b ≤ b := by
  unfold clip
  split
  · omega
  · split <;> omega
set_option maxRecDepth 100000 in
set_option maxHeartbeats 4000000 in
theorem ctx_new (o n : Int) (w : World) (O : Paint) (c0 c1 c2 c3 c4 cm : Nat) (hc : c1 ≠ c2 ∧ c1 ≠ c3 ∧ c1 ≠ c4 ∧ c2 ≠ c3 ∧ c2 ≠ c4 ∧ c3 ≠ c4) (B : Nat → Nat) (A : Nat → Array Value) :
    Calls Try.prog 31 #[.int .i64 o, .int .i64 n] w fun x w' => ∃ O' d a mb, x = .returned (.pointer (some ⟨d, 0, none⟩)) ∧ Step [] w O w' O' ∧ Blk w' O' c0 d (.cells #[.int .i64 (clip o 0 16), .pointer (some ⟨a, 0, none⟩), .map (some mb), .slice none 0 0, .slice none 0 0, .int .i64 0] 117 (0, 0)) ∧
      ArenaAt w' O' c1 c2 c3 c4 a 159 198 186 (zNew (clip n 64 1048576).toNat) 0 B A (.slice none 0 0) (.slice none 0 0) ∧ (w'.heap[mb]? = some (.map #[] 0) ∧ O' mb = cm) := by
  have hm := Lib.hid (fun W => run_makeMap (P := Try.prog) 115 W)
  have key : ∀ (q : Int) (W : World) (O2 : Paint) (a : Nat), Step [] w O W O2 → ArenaAt W O2 c1 c2 c3 c4 a 159 198 186 (zNew (clip n 64 1048576).toNat) 0 B A (.slice none 0 0) (.slice none 0 0) → q = clip o 0 16 →
      ∃ O' d a' mb, (Ending.returned (.pointer (some ⟨W.heap.size + 1, 0, none⟩)) = .returned (.pointer (some ⟨d, 0, none⟩))) ∧ Step [] w O ((W.alloc (.map #[] 0)).alloc (.cells #[.int .i64 q, .pointer (some ⟨a, 0, none⟩), .map (some W.heap.size), .slice none 0 0, .slice none 0 0, .int .i64 0] 117)) O' ∧ Blk ((W.alloc (.map #[] 0)).alloc (.cells #[.int .i64 q, .pointer (some ⟨a, 0, none⟩), .map (some W.heap.size), .slice none 0 0, .slice none 0 0, .int .i64 0] 117)) O' c0 d (.cells #[.int .i64 (clip o 0 16), .pointer (some ⟨a', 0, none⟩), .map (some mb), .slice none 0 0, .slice none 0 0, .int .i64 0] 117 (0, 0)) ∧
      ArenaAt ((W.alloc (.map #[] 0)).alloc (.cells #[.int .i64 q, .pointer (some ⟨a, 0, none⟩), .map (some W.heap.size), .slice none 0 0, .slice none 0 0, .int .i64 0] 117)) O' c1 c2 c3 c4 a' 159 198 186 (zNew (clip n 64 1048576).toNat) 0 B A (.slice none 0 0) (.slice none 0 0) ∧ (((W.alloc (.map #[] 0)).alloc (.cells #[.int .i64 q, .pointer (some ⟨a, 0, none⟩), .map (some W.heap.size), .slice none 0 0, .slice none 0 0, .int .i64 0] 117)).heap[mb]? = some (.map #[] 0) ∧ O' mb = cm) := by
    rintro q W O2 a hs hA rfl
    have s1 : Step [] W O2 (W.alloc (.map #[] 0)) (Step.paint O2 W cm) := ((Step.refl [] W O2).alloc _).repaint cm
    have s2 : Step [] (W.alloc (.map #[] 0)) (Step.paint O2 W cm) ((W.alloc (.map #[] 0)).alloc (.cells #[.int .i64 (clip o 0 16), .pointer (some ⟨a, 0, none⟩), .map (some W.heap.size), .slice none 0 0, .slice none 0 0, .int .i64 0] 117)) (Step.paint (Step.paint O2 W cm) (W.alloc (.map #[] 0)) c0) := ((Step.refl [] _ _).alloc _).repaint c0
    have hm2 : Blk (W.alloc (.map #[] 0)) (Step.paint O2 W cm) cm W.heap.size (.map #[] 0) := ⟨heap_alloc_new _ _, Step.paint_new (Nat.le_refl _)⟩
    have hd : Blk ((W.alloc (.map #[] 0)).alloc (.cells #[.int .i64 (clip o 0 16), .pointer (some ⟨a, 0, none⟩), .map (some W.heap.size), .slice none 0 0, .slice none 0 0, .int .i64 0] 117)) (Step.paint (Step.paint O2 W cm) (W.alloc (.map #[] 0)) c0) c0 (W.alloc (.map #[] 0)).heap.size (.cells #[.int .i64 (clip o 0 16), .pointer (some ⟨a, 0, none⟩), .map (some W.heap.size), .slice none 0 0, .slice none 0 0, .int .i64 0] 117 (0, 0)) := ⟨heap_alloc_new _ _, Step.paint_new (Nat.le_refl _)⟩
    rw [World.size_alloc] at hd
    have hm3 := hm2.step s2 (by simp)
    exact ⟨_, W.heap.size + 1, a, W.heap.size, rfl, (hs.trans s1).trans s2, hd, (hA.idle s1).idle s2, hm3.1, hm3.2⟩
  have HK := Lib.hid key
  obtain ⟨k1, k2⟩ := clip_in (n := n) (a := 64) (b := 1048576) (by omega)
  have HN := Lib.hid (At.new_any (c1 := c1) (c2 := c2) (c3 := c3) (c4 := c4) (clip n 64 1048576) (by omega) w O hc B A)
  clear key k1 k2 hc
  have ho : (o < 0 ∧ clip o 0 16 = 0) ∨ (¬ o < 0 ∧ 16 < o ∧ clip o 0 16 = 16) ∨ (¬ o < 0 ∧ ¬ 16 < o ∧ clip o 0 16 = o) := by
    unfold clip
    split
    · exact .inl ⟨by assumption, rfl⟩
    · split
      · exact .inr (.inl ⟨by assumption, by assumption, rfl⟩)
      · exact .inr (.inr ⟨by assumption, by assumption, rfl⟩)
  have hn : (n < 64 ∧ clip n 64 1048576 = 64) ∨ (¬ n < 64 ∧ 1048576 < n ∧ clip n 64 1048576 = 1048576) ∨ (¬ n < 64 ∧ ¬ 1048576 < n ∧ clip n 64 1048576 = n) := by
    unfold clip
    split
    · exact .inl ⟨by assumption, rfl⟩
    · split
      · exact .inr (.inl ⟨by assumption, by assumption, rfl⟩)
      · exact .inr (.inr ⟨by assumption, by assumption, rfl⟩)
  rcases ho with ⟨o1, o2⟩ | ⟨o1, o3, o2⟩ | ⟨o1, o3, o2⟩
  all_goals
    rcases hn with ⟨n1, n2⟩ | ⟨n1, n3, n2⟩ | ⟨n1, n3, n2⟩
    all_goals
      have HO := Lib.hid o2
      have HNN := Lib.hid n2
      have h2 := HN.out
      rw [n2] at h2
      have H2 := Lib.hid h2
      clear o2 n2 h2 HN
      try have o4 : ¬ o ≤ 0 := by omega
      try have o4 : o ≤ 0 := by omega
      try have n4 : ¬ n ≤ 64 := by omega
      go_enter Try.func31, Try.ntmps31
      go_wp2_with fail
      refine H2.out.mono ?_
      rintro x w2 ⟨O2, a, rfl, hs2, hA2⟩
      have hm1 := hm.out w2
      have HF := Lib.hid (HK.out _ w2 O2 a hs2 (by rw [HNN.out]; exact hA2) HO.out.symm)
      clear hs2 hA2 HK H2
      go_wp2_with fail
      go_ret
      exact HF.out
theorem six_at {w : World} {X : Nat} {a b c d e f : Value} {t : TypeId} (h : w.heap[X]? = some (.cells #[a, b, c, d, e, f] t (0, 0))) :
    w.cell? ⟨X, 0, none⟩ = some a ∧ w.cell? ⟨X, 1, none⟩ = some b ∧ w.cell? ⟨X, 2, none⟩ = some c ∧ w.cell? ⟨X, 3, none⟩ = some d ∧ w.cell? ⟨X, 4, none⟩ = some e ∧ w.cell? ⟨X, 5, none⟩ = some f := by
  refine ⟨?_, ?_, ?_, ?_, ?_, ?_⟩ <;> simp [World.cell?, h]
section
variable {w : World} {O : Paint} {c d : Nat} {v0 v1 v2 v3 v4 v5 : Value}
theorem w_less {n : Nat} (h : n ≤ 1000000) : wrap64 ((n : Int) - 1) = (n : Int) - 1 ∧ IntKind.i64.wrap ((n : Int) - 1) = (n : Int) - 1 := by
  constructor
  · unfold wrap64; omega
  · rw [IntKind.wrap_i64]; omega
set_option maxRecDepth 100000 in
theorem longest_any {pa : Option Addr} {pl pc : Nat} (h : Blk w O c d (.cells #[v0, v1, v2, v3, .slice pa pl pc, v5] 117 (0, 0))) (hl : pl ≤ 1000000) : Calls Try.prog 66 #[.pointer (some ⟨d, 0, none⟩)] w fun x w' => x = .returned (.int .i64 ((pl : Int) - 1)) ∧ w = w' := by
  obtain ⟨e0, e1, e2, e3, e4, e5⟩ := six_at h.1
  obtain ⟨g1, g2⟩ := w_less hl
  clear h hl
  go_enter Try.func66, Try.ntmps66
  go_wp2_with fail
  go_ret
  first | exact ⟨rfl, rfl⟩ | (simp [g1])
set_option maxRecDepth 100000 in
theorem table_out {pa : Option Addr} {pl pc : Nat} (h : Blk w O c d (.cells #[v0, v1, v2, v3, .slice pa pl pc, v5] 117 (0, 0))) (hl : pl ≤ 1000000) (k : Int) (hk : k < 0 ∨ (pl : Int) - 1 < k) : Calls Try.prog 74 #[.pointer (some ⟨d, 0, none⟩), .int .i64 k] w fun x w' => x = .returned (.pointer none) ∧ w = w' := by
  have HL := Lib.hid (longest_any h hl)
  clear h hl
  by_cases h1 : k < 0
  · have g1 : decide (k < 0) = true := decide_eq_true h1
    go_enter Try.func74, Try.ntmps74
    go_wp2_with fail
    go_ret
    exact ⟨rfl, rfl⟩
  · have g1 : decide (k < 0) = false := decide_eq_false h1
    have g2 : (pl : Int) - 1 < k := by rcases hk with e | e; exact absurd e h1; exact e
    have g3 : decide ((pl : Int) - 1 < k) = true := decide_eq_true g2
    clear hk
    generalize (pl : Int) - 1 = LL at *
    go_enter Try.func74, Try.ntmps74
    go_wp2_with fail
    refine HL.out.mono ?_
    rintro x w1 ⟨rfl, rfl⟩
    go_wp2_with fail
    go_ret
    exact ⟨rfl, rfl⟩
set_option maxRecDepth 100000 in
set_option maxHeartbeats 4000000 in
theorem table_in {c1 c2 c3 c4 cp a g pc i j : Nat} {P : List Nat} {z : Aren} {B : Nat → Nat} {A : Nat → Array Value} {vp vf tv : Value} (h : Blk w O c d (.cells #[v0, .pointer (some ⟨a, 0, none⟩), v2, v3, .slice (some ⟨g, 0, none⟩) P.length pc, v5] 117 (0, 0))) (hl : P.length ≤ 1000000)
    (hP : Held w O cp 3 (.slice (some ⟨g, 0, none⟩) P.length pc) (P.map fun (i : Nat) => Value.int .i64 (i : Int))) (hA : ArenaAt w O c1 c2 c3 c4 a 159 198 186 z 0 B A vp vf) (hj : P[j]? = some i) (ht : z.takenB (i : Int) = true) (hv : (z.C i).1 = tv) :
    Calls Try.prog 74 #[.pointer (some ⟨d, 0, none⟩), .int .i64 (j : Int)] w fun x w' => x = .returned tv ∧ ∃ n, w' = w.drewN n := by
  have HL := Lib.hid (longest_any h hl)
  have hjl : j < P.length := (List.getElem?_eq_some_iff.1 hj).1
  have HAT := Lib.hid (At.at_any (hA.idle ((Step.refl [] w O).drew)) (i : Int) rfl)
  rw [if_pos ht, show (i : Int).toNat = i from rfl] at HAT
  obtain ⟨n1, n2, n3⟩ : 1 ≤ (i : Int) ∧ (i : Int) ≤ (z.used : Int) ∧ (z.C i).2 = true := by
    unfold Aren.takenB at ht
    simp only [Bool.and_eq_true, decide_eq_true_eq] at ht
    exact ⟨ht.1.1, ht.1.2, ht.2⟩
  have HS : Hid (∀ n, (w.drewN n).cell? ⟨d, 1, none⟩ = some (.pointer (some ⟨a, 0, none⟩)) ∧ (w.drewN n).cell? ⟨d, 4, none⟩ = some (.slice (some ⟨g, 0, none⟩) P.length pc) ∧ (w.drewN n).cell? ⟨g, j, none⟩ = some (.int .i64 (i : Int)) ∧ (w.drewN n).cell? ⟨B (lg i), 2 * pk i, none⟩ = some tv) := Lib.hid (fun n => by
    have e := six_at (h.step ((Step.refl [] w O).drewN n) (by simp)).1
    have e2 := (hP.step ((Step.refl [] w O).drewN n) (by simp)).cell (j := j) (x := .int .i64 (i : Int)) (by rw [List.getElem?_map, hj]; rfl)
    have e3 := ((drewN_at hA n).two (i := i) (by omega) (by omega) (by omega)).1
    rw [hv] at e3
    exact ⟨e.2.1, e.2.2.2.2.1, e2, e3⟩)
  have g1 : decide ((j : Int) < 0) = false := by rw [decide_eq_false_iff_not]; omega
  have g2 : ¬ (P.length : Int) - 1 < (j : Int) := by omega
  have g3 : decide ((P.length : Int) - 1 < (j : Int)) = false := decide_eq_false g2
  have g4 : ¬ (j : Int) < 0 := by omega
  have g5 : (0 : Int) ≤ (j : Int) := by omega
  have g6 : (j : Int) < (P.length : Int) := by omega
  have g7 : (j : Int).toNat = j := rfl
  clear h hl hP hA hj ht hv n1 n2 n3 hjl
  generalize B (lg i) = bb at *
  generalize 2 * pk i = oo at *
  generalize P.length = PL at *
  obtain ⟨LL, hLL⟩ : ∃ LL, LL = (PL : Int) - 1 := ⟨_, rfl⟩
  rw [← hLL] at HL g2 g3
  clear hLL
  go_enter Try.func74, Try.ntmps74
  go_wp2_with fail
  refine HL.out.mono ?_
  rintro x w1 ⟨rfl, rfl⟩
  have s0 := HS.out 0
  clear HL
  go_upto_region 3 with (fail)
  go_region_held3 (fun W' => (∃ n, W' = w.drewN n) ∧ (W'.cell? ⟨d, 1, none⟩ = some (.pointer (some ⟨a, 0, none⟩)) ∧ W'.cell? ⟨d, 4, none⟩ = some (.slice (some ⟨g, 0, none⟩) PL pc) ∧ W'.cell? ⟨g, j, none⟩ = some (.int .i64 (i : Int)) ∧ W'.cell? ⟨bb, oo, none⟩ = some tv)) (first | exact ⟨⟨1, rfl⟩, HS.out 1⟩ | exact ⟨⟨_, rfl⟩, HS.out _⟩) (first | (go_at_call 102; (with_reducible refine HAT.out.mono ?_); rintro z1 w6 ⟨rfl, n6, rfl⟩))
  all_goals
    go_wp2_with fail
    go_ret
    exact ⟨rfl, _, rfl⟩
end
end Go.Proofs.Yteacmcckhjabmaa.Cx
