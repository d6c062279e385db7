/-
  Package bst: what a finder is in memory ('BinAt'), and contracts of left, Place, matching, New.
-/
import Derived.Test.YteacmcckhjabmaaChainSeen
import Derived.Test.YteacmcckhjabmaaBstPlant
namespace Go.Proofs.Yteacmcckhjabmaa.Bs
open Go.RowKit Go.Maps
open Mt
open Ch (bt bt_at bt_lt Dm wf8 keyBytes8 laidOut cells8 zeroE wf64 ret_num infoI)
/-- How many bytes may match at a place. -/
def lim (s : ByteArray) (x : Nat) : Nat := min (s.size - x) 273
/-- What the place q begins with, as a key. -/
def key2 (s : ByteArray) (q : Nat) : Lit := .string [UInt8.ofNat (bt s q), UInt8.ofNat (bt s (q + 1))]
def val2 (s : ByteArray) (q : Nat) : Value := .agg #[.int .u8 (bt s q : Int), .int .u8 (bt s (q + 1) : Int)]
theorem row2 : (194 : TypeId) < Try.prog.types.size := of_decide_eq_true (by kernel_rfl)
theorem keyAt2 : Try.prog.keyTypeAt 2 194 = true := by kernel_rfl
theorem law2 : Keyed Try.prog 194 := Keyed.of_law (deep_law_laid laidOut (m := 2) (by omega) row2 keyAt2 (by rw [Try.underlying194]))
theorem cells2 : Try.prog.cellsOf 194 = 2 := by kernel_rfl
theorem keyType2 : Try.prog.keyType 194 = true := by kernel_rfl
theorem key_lits2 {x0 x1 : Nat} (b0 : x0 < 256) (b1 : x1 < 256) (n : Nat) : Try.prog.keyLits (n + 1 + 1) 194 [.int .u8 (x0 : Int), .int .u8 (x1 : Int)] = some [.int .u8 (x0 : Int), .int .u8 (x1 : Int)] := by
  simp [Program.keyLits, Try.underlying194, Try.underlying5, cells2, cells8, wf8 b0, wf8 b1, List.range_succ]
theorem key_of2 (s : ByteArray) (q : Nat) : keyOf Try.prog 194 (val2 s q) = some (key2 s q) := by
  have b0 := bt_lt s q
  have b1 := bt_lt s (q + 1)
  unfold keyOf val2 key2
  generalize bt s q = x0 at *
  generalize bt s (q + 1) = x1 at *
  obtain ⟨n, hn⟩ : ∃ n, Try.prog.types.size = n + 1 := ⟨Try.prog.types.size - 1, by have h : (194 : Nat) < Try.prog.types.size := row2; omega⟩
  have hl := key_lits2 b0 b1 n
  rw [hn]
  generalize n + 1 + 1 = m at *
  have hf : (Value.agg #[.int .u8 (x0 : Int), .int .u8 (x1 : Int)]).formed Try.prog 194 = true := by simp [Value.formed, Try.underlying194, cells2]
  rw [Try.underlying194, keyType2, hf]
  simp [Value.cells, hl, keyBytes, keyBytes8 b0, keyBytes8 b1]
theorem key2_ne {s : ByteArray} {p q : Nat} (h : heads2 (bt s) p q = false) : key2 s p ≠ key2 s q := by
  intro e
  unfold key2 at e
  simp only [Lit.string.injEq, List.cons.injEq, and_true] at e
  obtain ⟨e0, e1⟩ := e
  have hb : ∀ {x y : Nat}, x < 256 → y < 256 → UInt8.ofNat x = UInt8.ofNat y → x = y := fun {x y} hx hy h => by
    have := congrArg UInt8.toNat h
    simp at this
    omega
  have := heads2_iff.2 ⟨hb (bt_lt s _) (bt_lt s _) e0, hb (bt_lt s _) (bt_lt s _) e1⟩
  rw [h] at this
  cases this
theorem key2_eq {s : ByteArray} {p q : Nat} (h : heads2 (bt s) p q = true) : key2 s p = key2 s q := by
  obtain ⟨h0, h1⟩ := heads2_iff.1 h
  unfold key2
  rw [h0, h1]
/-- The map tells of each place where its two bytes stood last below p. -/
def Tells2 (s : ByteArray) (p : Nat) (D : Dm) : Prop := ∀ q, q + 2 ≤ s.size → Maps.has D (key2 s q) = decide (prev2 (bt s) q p ≠ -1) ∧ D.atKey (key2 s q) (.lit (.int .i64 0)) = .lit (.int .i64 (if prev2 (bt s) q p = -1 then 0 else prev2 (bt s) q p))
theorem tells2_none (s : ByteArray) : Tells2 s 0 (.map []) := fun q _ => ⟨by simp [prev2]; rfl, by simp [prev2]; rfl⟩
theorem tells2_put {s : ByteArray} {p : Nat} {D : Dm} (hm : IsMap D) (h : Tells2 s p D) : Tells2 s (p + 1) (D.put (key2 s p) (.lit (.int .i64 (p : Int)))) := by
  intro q hq
  have hk : WideAt.IsKeyLit (key2 s p) := law2.key (key_of2 s p)
  rw [prev2]
  by_cases hh : heads2 (bt s) q p = true
  · rw [if_pos hh, key2_eq hh, Maps.has_put_same hm hk, Maps.atKey_put_same hm hk]
    refine ⟨?_, ?_⟩
    · simp
    · rw [if_neg (by omega)]
  · rw [if_neg hh, Maps.has_put_other (key2_ne (by simpa using hh)), Maps.atKey_put_other (key2_ne (by simpa using hh))]
    exact h q hq
/-- The cells of the nodes, as a function. -/
def cf (xs : List Int) (i : Nat) : Int := xs.getD i 0
/-- A slice that owns just these nodes; its block, where it has one, belongs to c. -/
structure Nodes (w : World) (O : Paint) (c : Nat) (v : Value) (n : Nat) (xs : List Int) : Prop where
  row : w.ownsRow 0 181 2 v n (xs.map (Value.int .i64))
  paint : ∀ k, v.ownBlock = some k → O k = c
  len : xs.length = n * 2
section
variable {cs : List Nat} {w w' : World} {O O' : Paint} {c n : Nat} {v : Value} {xs : List Int}
theorem Nodes.step (h : Nodes w O c v n xs) (hs : Step cs w O w' O') (hc : c ∉ cs) : Nodes w' O' c v n xs :=
  ⟨ownsRow_frame h.row hs.frame (fun k hk ho => hc (by rw [h.paint k hk] at ho; exact ho)), fun k hk => (hs.ext k (ownsRow_lt h.row k hk)).trans (h.paint k hk), h.len⟩
theorem Nodes.form (h : Nodes w O c v n xs) (hn : 0 < n) : ∃ g cap, v = .slice (some ⟨g, 0, none⟩) n cap ∧ O g = c ∧ g < w.heap.size := by
  rcases h.row.2 with ⟨_, h2⟩ | ⟨g, cap, cur, rfl, _, hg, _⟩
  · omega
  · exact ⟨g, cap, rfl, h.paint g rfl, lt_of_heap hg⟩
theorem Nodes.cell {g cap : Nat} (h : Nodes w O c (.slice (some ⟨g, 0, none⟩) n cap) n xs) {j : Nat} (hj : j < n * 2) : w.cell? ⟨g, j, none⟩ = some (.int .i64 (cf xs j)) := by
  have hl := h.len
  rw [World.ownsRow.cellAt h.row j (by omega), List.getElem?_map, List.getElem?_eq_getElem (by omega)]
  unfold cf
  rw [List.getD_eq_getElem?_getD, List.getElem?_eq_getElem (by omega)]
  rfl
theorem Nodes.free {g cap : Nat} (h : Nodes w O c (.slice (some ⟨g, 0, none⟩) n cap) n xs) (j : Nat) : w.frozen? ⟨g, j, none⟩ = false := by
  rcases h.row.2 with ⟨e1, _⟩ | ⟨g', cap', cur, e1, _, hg, _⟩
  · simp at e1
  · simp only [Value.slice.injEq, Option.some.injEq, Addr.mk.injEq, and_true] at e1
    rw [← e1.1] at hg
    simp [World.frozen?, hg]
theorem cf_set {xs : List Int} {i : Nat} (x : Int) (hi : i < xs.length) : cf (xs.set i x) = upd (cf xs) i x := by
  funext j
  show (xs.set i x).getD j 0 = if j = i then x else xs.getD j 0
  rw [List.getD_eq_getElem?_getD, List.getD_eq_getElem?_getD]
  by_cases e : j = i
  · subst e; rw [List.getElem?_set_self hi, if_pos rfl]; rfl
  · rw [List.getElem?_set_ne (fun h => e h.symm), if_neg e]
theorem Nodes.set {g cap : Nat} (h : Nodes w O c (.slice (some ⟨g, 0, none⟩) n cap) n xs) (j : Nat) (x : Int) : Nodes (w.setCell ⟨g, j, none⟩ (.int .i64 x)) O c (.slice (some ⟨g, 0, none⟩) n cap) n (xs.set j x) := by
  refine ⟨?_, h.paint, by rw [List.length_set]; exact h.len⟩
  rw [List.map_set]
  exact (World.ownsRow.stored h.row j (.int .i64 x)).1
theorem Nodes.setCell_other (h : Nodes w O c v n xs) {p : Addr} (hp : v.ownBlock ≠ some p.block) (u : Value) : Nodes (w.setCell p u) O c v n xs :=
  ⟨ownsRow_frame h.row ((Frame.refl (fun k => k = p.block) w).setCell (.inl rfl) u) (fun k hk e1 => hp (by rw [hk, e1])), h.paint, h.len⟩
end
/-- Block a is a finder of the text s, at the place p; the map knows the places below r; all that it has belongs to c. -/
structure BinAt (w : World) (O : Paint) (c a : Nat) (s : ByteArray) (window : Int) (p r : Nat) (B : Nat) (v : Value) (xs : List Int) (D : Dm) : Prop where
  blk : Blk w O c a (.cells #[.string s, .int .i64 window, .int .i64 (p : Int), .map (some B), v] 144 (0, 0))
  nodes : Nodes w O c v s.size xs
  own : w.ownsMap Try.prog 194 (plainElem Try.prog 3) B r D
  ownC : O B = c
  tells : p + 2 ≤ s.size → Tells2 s r D
  place : p ≤ s.size
  small : s.size ≤ 1000000000000
theorem five {w : World} {X : Nat} {a b c d e : Value} {t : TypeId} (h : w.heap[X]? = some (.cells #[a, b, c, d, e] t (0, 0))) :
    w.cell? ⟨X, 0, none⟩ = some a ∧ w.cell? ⟨X, 1, none⟩ = some b ∧ w.cell? ⟨X, 2, none⟩ = some c ∧ w.cell? ⟨X, 3, none⟩ = some d ∧ w.cell? ⟨X, 4, none⟩ = some e := by
  refine ⟨?_, ?_, ?_, ?_, ?_⟩ <;> simp [World.cell?, h]
section
variable {cs : List Nat} {w w' : World} {O O' : Paint} {c a : Nat} {s : ByteArray} {window : Int} {p r B : Nat} {v : Value} {xs : List Int} {D : Dm}
theorem BinAt.cells (h : BinAt w O c a s window p r B v xs D) : w.cell? ⟨a, 0, none⟩ = some (.string s) ∧ w.cell? ⟨a, 1, none⟩ = some (.int .i64 window) ∧ w.cell? ⟨a, 2, none⟩ = some (.int .i64 (p : Int)) ∧ w.cell? ⟨a, 3, none⟩ = some (.map (some B)) ∧ w.cell? ⟨a, 4, none⟩ = some v := five h.blk.1
theorem BinAt.ne (h : BinAt w O c a s window p r B v xs D) : a ≠ B ∧ v.ownBlock ≠ some a ∧ v.ownBlock ≠ some B := by
  obtain ⟨es, clock, hb, _⟩ := h.own
  refine ⟨?_, ?_, ?_⟩
  · rintro rfl
    rw [h.blk.1] at hb
    cases hb
  · intro e
    rcases h.nodes.row.2 with ⟨e1, _⟩ | ⟨g, cap, cur, rfl, _, hg, _⟩
    · rw [e1] at e; simp [Value.ownBlock] at e
    · simp [Value.ownBlock] at e
      subst e
      rw [h.blk.1] at hg
      simp at hg
  · intro e
    rcases h.nodes.row.2 with ⟨e1, _⟩ | ⟨g, cap, cur, rfl, _, hg, _⟩
    · rw [e1] at e; simp [Value.ownBlock] at e
    · simp [Value.ownBlock] at e
      subst e
      rw [hb] at hg
      cases hg
theorem BinAt.step (h : BinAt w O c a s window p r B v xs D) (hs : Step cs w O w' O') (hc : c ∉ cs) : BinAt w' O' c a s window p r B v xs D := by
  refine ⟨h.blk.step hs hc, h.nodes.step hs hc, ?_, (hs.ext B h.own.lt).trans h.ownC, h.tells, h.place, h.small⟩
  have hlt := h.own.lt
  obtain ⟨es, clock, hb, h1, h2, h3⟩ := h.own
  exact ⟨es, clock, (hs.block hlt (by rw [h.ownC]; exact hc)).trans hb, h1, h2, h3⟩
theorem BinAt.below (h : BinAt w O c a s window p r B v xs D) (hb : Below w.heap.size w w') : BinAt w' O c a s window p r B v xs D := h.step (Step.of_below_same hb O) (by simp)
theorem BinAt.drewN (h : BinAt w O c a s window p r B v xs D) (n : Nat) : BinAt (w.drewN n) O c a s window p r B v xs D := h.step ((Step.refl [] w O).drewN n) (by simp)
theorem BinAt.drew (h : BinAt w O c a s window p r B v xs D) : BinAt w.drew O c a s window p r B v xs D := h.step ((Step.refl [] w O).drew) (by simp)
/-- The next place is looked at. -/
theorem BinAt.move (h : BinAt w O c a s window p r B v xs D) (hp : p < s.size) (hr : p + 2 ≤ s.size → r = p + 1) (hr2 : s.size < p + 2 → r ≤ p + 1) : BinAt (w.setCell ⟨a, 2, none⟩ (.int .i64 ((p : Int) + 1))) O c a s window (p + 1) (p + 1) B v xs D ∧ Step [c] w O (w.setCell ⟨a, 2, none⟩ (.int .i64 ((p : Int) + 1))) O := by
  obtain ⟨n1, n2, n3⟩ := h.ne
  have hrp : r ≤ p + 1 := by omega
  refine ⟨⟨by simpa using h.blk.setCell 2 (.int .i64 ((p : Int) + 1)), h.nodes.setCell_other (p := ⟨a, 2, none⟩) n2 _, (h.own.setCell (a := ⟨a, 2, none⟩) (Ne.symm n1) _).mono hrp, h.ownC, fun h3 => ?_, hp, h.small⟩, (Step.refl [c] w O).setCell (p := ⟨a, 2, none⟩) (.inl (by simp [h.blk.2])) _⟩
  have := h.tells (by omega)
  rw [hr (by omega)] at this
  exact this
/-- The place is in the map. -/
theorem BinAt.mapped (h : BinAt w O c a s window p p B v xs D) (hp : p + 2 ≤ s.size)
    (hown : w'.ownsMap Try.prog 194 (plainElem Try.prog 3) B (p + 1) (D.put (key2 s p) (.lit (.int .i64 (p : Int))))) (hg : w.grownBy w' (some B)) :
    BinAt w' O c a s window p (p + 1) B v xs (D.put (key2 s p) (.lit (.int .i64 (p : Int)))) ∧ Step [c] w O w' O := by
  obtain ⟨n1, n2, n3⟩ := h.ne
  have hst : Step [c] w O w' O := (Step.refl [c] w O).grown hg (fun k hk => by cases hk; exact .inl (by simp [h.ownC]))
  refine ⟨⟨⟨(hg.block a h.blk.lt (by simpa using n1)).trans h.blk.1, h.blk.2⟩, ⟨?_, h.nodes.paint, h.nodes.len⟩, hown, h.ownC, fun _ => tells2_put (h.own.isMap) (h.tells hp), h.place, h.small⟩, hst⟩
  exact ownsRow_frame h.nodes.row ((Frame.refl (fun k => k = B) w).grown hg (fun k hk => by cases hk; exact .inl rfl)) (fun k hk e1 => n3 (by rw [hk, e1]))
/-- What the map tells of the place's head. -/
theorem BinAt.look (h : BinAt w O c a s window p p B v xs D) (hp : p + 2 ≤ s.size) :
    (Instr.lookup 141 (.map (some B)) (val2 s p) true).run Try.prog w = .ok (.tuple #[.int .i64 (if prev2 (bt s) p p = -1 then 0 else prev2 (bt s) p p), .bool (decide (prev2 (bt s) p p ≠ -1))]) w := by
  obtain ⟨v0, ps0, hrun, hR⟩ := h.own.look_ok law2 Try.underlying141 (zeroE w) (plainElem_int Try.underlying3 (by decide)) (key_of2 s p)
  obtain ⟨h1, h2⟩ := h.tells hp p hp
  obtain ⟨n, rfl, hz, _⟩ := plainElem_int_inv Try.underlying3 hR
  have hz1 := congrArg Prod.fst hz
  simp only [h2] at hz1
  rw [h1] at hrun
  cases hz1
  exact hrun
end
end Go.Proofs.Yteacmcckhjabmaa.Bs
