/-
  The reference of layer 5: contracts of At and Add (a table as two rows, each call hands back new ones).
-/
import Derived.Test.YteacmcckhjabmaaFreqSigns
import Derived.Test.YteacmcckhjabmaaTails
import Derived.Laws.AppendOwnNone
import Derived.Deep.AppendLies
import Derived.Deep.CutBlock
namespace Go.Proofs.Yteacmcckhjabmaa.Fq
open Go.RowKit
/-- Two rows that read as a table. -/
structure RefT (w : World) (v1 v2 : Value) (l : List (Nat × Nat)) : Prop where
  row1 : w.ownsRow 0 5 1 v1 l.length (u8s (l.map (·.1)))
  row2 : w.ownsRow 0 3 1 v2 l.length (i64s (l.map (·.2)))
theorem RefT.form {w : World} {v1 v2 : Value} {l : List (Nat × Nat)} (h : RefT w v1 v2 l) (hn : 0 < l.length) : ∃ g1 p1 g2 p2, v1 = .slice (some ⟨g1, 0, none⟩) l.length p1 ∧ v2 = .slice (some ⟨g2, 0, none⟩) l.length p2 ∧ g1 < w.heap.size ∧ g2 < w.heap.size ∧ l.length ≤ p1 ∧ l.length ≤ p2 ∧ p1 ≤ maxLen ∧ p2 ≤ maxLen := by
  rcases h.row1.2 with ⟨_, h0⟩ | ⟨g1, p1, cur1, e1, _, hg1, a1, a2, _⟩
  · omega
  · rcases h.row2.2 with ⟨_, h0⟩ | ⟨g2, p2, cur2, e2, _, hg2, b1, b2, _⟩
    · omega
    · exact ⟨g1, p1, g2, p2, e1, e2, lt_of_heap hg1, lt_of_heap hg2, a1, b1, a2, b2⟩
theorem row_below {w w' : World} {B : Nat} {e : TypeId} {v : Value} {n : Nat} {xs : List Value} (h : w.ownsRow 0 e 1 v n xs) (hb : Below B w w') (hv : ∀ k, v.ownBlock = some k → k < B) : w'.ownsRow 0 e 1 v n xs :=
  ownsRow_frame h (Frame.of_below hb) (fun k hk => by have := hv k hk; omega)
theorem row_same {w w' : World} {e : TypeId} {v : Value} {n : Nat} {xs : List Value} (h : w.ownsRow 0 e 1 v n xs) (hb : Below w.heap.size w w') : w'.ownsRow 0 e 1 v n xs := row_below h hb (fun k hk => ownsRow_lt h k hk)
theorem RefT.below {w w' : World} {v1 v2 : Value} {l : List (Nat × Nat)} (h : RefT w v1 v2 l) (hb : Below w.heap.size w w') : RefT w' v1 v2 l := ⟨row_same h.row1 hb, row_same h.row2 hb⟩
theorem row_cell {w : World} {e : TypeId} {g n cap : Nat} {xs : List Value} (h : w.ownsRow 0 e 1 (.slice (some ⟨g, 0, none⟩) n cap) n xs) {j : Nat} {x : Value} (hx : xs[j]? = some x) : w.cell? ⟨g, j, none⟩ = some x := by
  have hj : j < xs.length := (List.getElem?_eq_some_iff.1 hx).1
  rw [World.ownsRow.cellAt h j (by have := h.1; omega)]
  exact hx
theorem fst_at (l : List (Nat × Nat)) (k : Nat) (hk : k < l.length) : (u8s (l.map (·.1)))[k]? = some (.int .u8 ((at' l k).1 : Int)) := by simp [u8s, at', List.getD, hk]
theorem snd_at (l : List (Nat × Nat)) (k : Nat) (hk : k < l.length) : (i64s (l.map (·.2)))[k]? = some (.int .i64 ((at' l k).2 : Int)) := by simp [i64s, at', List.getD, hk]
theorem nil_slice {w : World} {v1 v2 : Value} (h : RefT w v1 v2 []) : (v1 = .slice none 0 0 ∨ ∃ g p, v1 = .slice (some ⟨g, 0, none⟩) 0 p) := by
  rcases h.row1.2 with ⟨e, _⟩ | ⟨g1, p1, cur1, e1, _⟩
  · exact .inl e
  · exact .inr ⟨g1, p1, e1⟩
set_option maxHeartbeats 1000000 in
theorem at_more {w : World} {v1 v2 : Value} {l : List (Nat × Nat)} (h : RefT w v1 v2 l) (ht : Tab 255 l) (hn : 0 < l.length) (s : Nat) (hs : s < 256) :
    Calls Try.prog 81 #[.agg #[v1, v2], .int .u8 (s : Int)] w fun x w' => x = .returned (.int .i64 (placeI l s)) ∧ Below w.heap.size w w' := by
  obtain ⟨g1, p1, g2, p2, rfl, rfl, l1, l2, a1, a2, a3, a4⟩ := h.form hn
  have H := Lib.hid h
  have HT := Lib.hid ht
  unfold maxLen at a3 a4
  clear h ht
  go_enter Try.func81, Try.ntmps81
  go_wp2
  have hb0 : Below w.heap.size w (w.alloc (.cells #[.slice (some ⟨g1, 0, none⟩) l.length p1, .slice (some ⟨g2, 0, none⟩) l.length p2] 81)) := (Below.refl _ _).alloc (Nat.le_refl _) _
  have hc0 : (w.alloc (.cells #[.slice (some ⟨g1, 0, none⟩) l.length p1, .slice (some ⟨g2, 0, none⟩) l.length p2] 81)).cell? ⟨w.heap.size, 0, none⟩ = some (.slice (some ⟨g1, 0, none⟩) l.length p1) := (Blk.new w (fun _ => 0) 0 _).cell 0
  have HB0 := Lib.hid hb0
  generalize w.alloc (.cells #[.slice (some ⟨g1, 0, none⟩) l.length p1, .slice (some ⟨g2, 0, none⟩) l.length p2] 81) = W0 at *
  have HR := Lib.hid (H.out.below hb0)
  clear hb0
  go_loop [5] (fun i => ∃ k : Nat, k ≤ l.length ∧ k ≤ find l s ∧ i = .int .i64 k) (fun i => l.length - (intOf i).toNat)
  case atStart => exact ⟨0, by omega, by omega, rfl⟩
  case round =>
    obtain ⟨k, hk, hkf, rfl⟩ := hrel
    by_cases hlt : k < l.length
    · have c1 := row_cell HR.out.row1 (fst_at l k hlt)
      have hta := tab_at HT.out hlt
      have HH := Lib.hid (find_hit l s k hlt hkf)
      have HN := Lib.hid (find_next l s k hlt hkf)
      generalize (at' l k).1 = x1 at *
      generalize (at' l k).2 = x2 at *
      by_cases hx : x1 = s
      · subst hx
        have HF := Lib.hid (HH.out rfl)
        clear HH HN
        go_wp2
        go_ret
        exact ⟨ret_num (placeI_hit HF.out hlt).symm, HB0.out⟩
      · have hd : ((x1 : Int) == (s : Int)) = false := by rw [beq_eq_false_iff_ne]; omega
        have HF := Lib.hid (HN.out hx)
        clear HH HN
        go_wp2
        go_round
        case rel => exact ⟨k + 1, by omega, HF.out, by go_num⟩
        case measure => simp [intOf]; omega
    · obtain rfl : k = l.length := by omega
      go_wp2
      go_ret
      exact ⟨ret_num (placeI_none (by omega)).symm, HB0.out⟩
/-- A table without signs. -/
theorem at_none {w : World} {v2 : Value} {a1 : Option Addr} {p1 : Nat} (s : Nat) :
    Calls Try.prog 81 #[.agg #[.slice a1 0 p1, v2], .int .u8 (s : Int)] w fun x w' => x = .returned (.int .i64 (-1)) ∧ Below w.heap.size w w' := by
  go_enter Try.func81, Try.ntmps81
  go_wp2
  go_loop [5] (fun i => i = .int .i64 0) (fun i => 1)
  case atStart => rfl
  case round =>
    subst hrel
    go_wp2
    go_ret
    exact ⟨rfl, (Below.refl _ _).alloc (Nat.le_refl _) _⟩
theorem behind {w w3 : World} {a b c d : Value} {t : TypeId} (h : Below ((w.alloc (.cells #[a, b] t)).alloc (.cells #[c, d] t)).heap.size ((w.alloc (.cells #[a, b] t)).alloc (.cells #[c, d] t)) w3) :
    w3.heap[w.heap.size]? = some (.cells #[a, b] t (0, 0)) ∧ w3.heap[w.heap.size + 1]? = some (.cells #[c, d] t (0, 0)) ∧ w.heap.size + 2 ≤ w3.heap.size ∧ Below w.heap.size w w3 := by
  have hs : ((w.alloc (.cells #[a, b] t)).alloc (.cells #[c, d] t)).heap.size = w.heap.size + 2 := by simp
  have h0 := h.size
  rw [hs] at h h0
  refine ⟨?_, ?_, h0, ?_⟩
  · rw [h.block _ (by omega), Below.heap_alloc _ _ _ (by simp)]
    exact heap_alloc_new w _
  · rw [h.block _ (by omega)]
    have := heap_alloc_new (w.alloc (.cells #[a, b] t)) (.cells #[c, d] t)
    rw [World.size_alloc] at this
    exact this
  · exact (((Below.refl _ _).alloc (Nat.le_refl _) _).alloc (by simp) _).trans (h.mono (by omega))
theorem two {w : World} {X : Nat} {a b : Value} {t : TypeId} (h : w.heap[X]? = some (.cells #[a, b] t (0, 0))) :
    w.cell? ⟨X, 0, none⟩ = some a ∧ w.cell? ⟨X, 1, none⟩ = some b ∧ w.frozen? ⟨X, 0, none⟩ = false ∧ w.frozen? ⟨X, 1, none⟩ = false ∧ X < w.heap.size :=
  ⟨by simp [World.cell?, h], by simp [World.cell?, h], by simp [World.frozen?, h], by simp [World.frozen?, h], lt_of_heap h⟩
theorem row_news {w : World} {e : TypeId} {g n cap : Nat} {xs : List Value} (h : w.ownsRow 0 e 1 (.slice (some ⟨g, 0, none⟩) n cap) n xs) : ∀ j u, xs[j]? = some u → w.cell? ((⟨g, 0, none⟩ : Addr).add j) = some u := World.ownsRow.cells h rfl
/-- An append onto an empty slice without room: all lies in a new block. -/
theorem step_append_fresh {P : Program} (w : World) {ops : Array Oper} {o : Oper} {a : Act} {K : Act → World → Prop} {Q : Exit → Act → World → Prop} {E : Prop} (hgd : o.guard = none) (s x : Operand) (t : TypeId)
    (ho : o.op = .call { callee := .builtin .append, args := #[s, x], argTypes := #[t, t] })
    (e : TypeId) (i : TypeInfo) (z : Value) (bytes : Nat) (ht : P.underlying t = some (.slice e)) (hi : P.info? e = some i) (hz : i.zero = some z)
    (hsize : i.size = 1) (hby : i.bytes = bytes) (hzs : z.cells.size = 1)
    (bx : Addr) (hs : a.eval s = .slice (some bx) 0 0)
    (ad : Addr) (m c : Nat) (news : List Value) (hx : a.eval x = .slice (some ad) m c) (hl : news.length = m) (hnews : ∀ j u, news[j]? = some u → w.cell? (ad.add j) = some u)
    (hm : 0 < m) (h63 : m ≤ maxLen) (hbytes : m * bytes ≤ 140737488355328)
    (h : ∀ g cap w', w'.ownsRow 0 e 1 (.slice (some ⟨g, 0, none⟩) m cap) m news → Below w.heap.size w w' → w.heap.size ≤ g → K (a.put o.dst (.slice (some ⟨g, 0, none⟩) m cap)) w') :
    if Region.wanted o (yielded ops a.tmps) = true then Oper.wp P o a w K Q else E := by
  have hw : Region.wanted o (yielded ops a.tmps) = true := by simp [Region.wanted, hgd]
  rw [if_pos hw]
  obtain ⟨v', w', hr, h2, h3⟩ := run_append_arg_grows (P := P) w t o.type e i z 1 bytes ht hi hz hsize hby hzs (by omega) bx 0 0 [] (by simp) (by simp) ad m c news (by simpa using hl) hnews (by omega) (by omega) (by simpa using hbytes)
  simp only [Nat.zero_add, List.nil_append] at h2
  obtain ⟨g, cap, rfl, hg, hlt⟩ := h2.form hm
  unfold Oper.wp execOp
  simp only [ho, resolve, invoke, builtin, Sem.run_bind, Sem.run_pure, Result.andThen_ok, List.map_toArray, List.map_cons, List.map_nil, hs, hx, hr]
  exact h g cap w' (ownsRow_any h2 (fun _ _ => Nat.zero_le _)) ⟨h3.os, h3.tape, h3.output, h3.size, fun k hk => h3.block k hk (by simp)⟩ hg
section
variable {W0 W W' : World}
theorem bel_drew {B : Nat} (h : Below B W0 W) : Below B W0 W.drew := ⟨h.os, h.tape, h.output, h.size, h.block⟩
theorem bel_alloc (o : Obj) (h : Below W0.heap.size W0 W) : Below W0.heap.size W0 (W.alloc o) := h.alloc h.size o
theorem bel_new (h2 : Below W.heap.size W W') (h : Below W0.heap.size W0 W) : Below W0.heap.size W0 W' := h.trans (h2.mono h.size)
theorem bel_set {p : Addr} (u : Value) (hp : W0.heap.size ≤ p.block) (h : Below W0.heap.size W0 W) : Below W0.heap.size W0 (W.setCell p u) := h.setCell hp u
theorem held_of {B : Nat} {a b : Value} (hB : B < W0.heap.size) (c1 : W0.cell? ⟨B, 0, none⟩ = some a) (c2 : W0.cell? ⟨B, 1, none⟩ = some b) (h : Below W0.heap.size W0 W) : Below W0.heap.size W0 W ∧ W.cell? ⟨B, 0, none⟩ = some a ∧ W.cell? ⟨B, 1, none⟩ = some b :=
  ⟨h, (h.cell (p := ⟨B, 0, none⟩) hB).trans c1, (h.cell (p := ⟨B, 1, none⟩) hB).trans c2⟩
theorem own_drew {e : TypeId} {v : Value} {n : Nat} {xs : List Value} (h : W.ownsRow 0 e 1 v n xs) : W.drew.ownsRow 0 e 1 v n xs := h
theorem own_alloc {e : TypeId} {v : Value} {n : Nat} {xs : List Value} (o : Obj) (h : W.ownsRow 0 e 1 v n xs) : (W.alloc o).ownsRow 0 e 1 v n xs := World.ownsRow.alloc h o
theorem own_new {e : TypeId} {v : Value} {n : Nat} {xs : List Value} (h2 : Below W.heap.size W W') (h : W.ownsRow 0 e 1 v n xs) : W'.ownsRow 0 e 1 v n xs := row_same h h2
theorem blk_alloc {k : Nat} {o o' : Obj} (h : W.heap[k]? = some o) : (W.alloc o').heap[k]? = some o := (Below.heap_alloc W o' k (lt_of_heap h)).trans h
theorem blk_here {k : Nat} {o : Obj} (h : k = W.heap.size) : (W.alloc o).heap[k]? = some o := by subst h; exact heap_alloc_new W o
theorem blk_new {k : Nat} {o : Obj} (h2 : Below W.heap.size W W') (h : W.heap[k]? = some o) : W'.heap[k]? = some o := (h2.block k (lt_of_heap h)).trans h
theorem bcell (hb : Below W.heap.size W W') : (∀ b o, b < W.heap.size → W'.cell? ⟨b, o, none⟩ = W.cell? ⟨b, o, none⟩) ∧ (∀ b o, b < W.heap.size → W'.frozen? ⟨b, o, none⟩ = W.frozen? ⟨b, o, none⟩) :=
  ⟨fun b o h => hb.cell (p := ⟨b, o, none⟩) h, fun b o h => hb.frozen (p := ⟨b, o, none⟩) h⟩
theorem blk_drew {k : Nat} {o : Obj} (h : W.heap[k]? = some o) : W.drew.heap[k]? = some o := h
end
/-- The reference's table behind the copies of its rows. -/
def Copied (w : World) (X : Nat) (l : List (Nat × Nat)) (w' : World) : Prop := ∃ g1 p1 g2 p2, w'.heap[X]? = some (.cells #[.slice (some ⟨g1, 0, none⟩) l.length p1, .slice (some ⟨g2, 0, none⟩) l.length p2] 81 (0, 0)) ∧
  RefT w' (.slice (some ⟨g1, 0, none⟩) l.length p1) (.slice (some ⟨g2, 0, none⟩) l.length p2) l ∧ Below w.heap.size w w' ∧ w.heap.size ≤ X ∧ w.heap.size ≤ g1 ∧ w.heap.size ≤ g2
theorem own_not {w : World} {e t : TypeId} {v : Value} {n X : Nat} {xs : List Value} {ds : Array Value} (h : w.ownsRow 0 e 1 v n xs) (hc : w.heap[X]? = some (.cells ds t (0, 0))) (ht : t ≠ e) : v.ownBlock ≠ some X := by
  intro hk
  rcases h.2 with ⟨e1, _⟩ | ⟨g', cap', cur, e1, _, hg, _⟩
  · rw [e1] at hk; simp [Value.ownBlock] at hk
  · rw [e1] at hk
    simp [Value.ownBlock] at hk
    subst hk
    rw [hg] at hc
    simp only [Option.some.injEq, Obj.cells.injEq] at hc
    exact ht hc.2.1.symm
theorem own_set {w : World} {e t : TypeId} {v : Value} {n X : Nat} {xs : List Value} {ds : Array Value} (h : w.ownsRow 0 e 1 v n xs) (hc : w.heap[X]? = some (.cells ds t (0, 0))) (ht : t ≠ e) (j : Nat) (u : Value) : (w.setCell ⟨X, j, none⟩ u).ownsRow 0 e 1 v n xs := by
  have hn := own_not h hc ht
  exact ownsRow_frame h ((Frame.refl (fun k => k = X) w).setCell (p := ⟨X, j, none⟩) (.inl rfl) u) (fun k hk e1 => hn (by rw [hk, e1]))
theorem own_not_at {w : World} {e t : TypeId} {g n cap X : Nat} {xs : List Value} {ds : Array Value} (h : w.ownsRow 0 e 1 (.slice (some ⟨g, 0, none⟩) n cap) n xs) (hc : w.heap[X]? = some (.cells ds t (0, 0))) (ht : t ≠ e) : g ≠ X := fun e1 => own_not h hc ht (by simp [Value.ownBlock, e1])
/-- One count is written. -/
theorem row_more {w : World} {g cap : Nat} {l : List (Nat × Nat)} (h : w.ownsRow 0 3 1 (.slice (some ⟨g, 0, none⟩) l.length cap) l.length (i64s (l.map (·.2)))) (i m : Nat) :
    (w.setCell ⟨g, i, none⟩ (.int .i64 (m : Int))).ownsRow 0 3 1 (.slice (some ⟨g, 0, none⟩) l.length cap) l.length (i64s ((l.set i ((at' l i).1, m)).map (·.2))) := by
  have h1 := (World.ownsRow.stored h i (.int .i64 (m : Int))).1
  have e : i64s ((l.set i ((at' l i).1, m)).map (·.2)) = (i64s (l.map (·.2))).set i (.int .i64 (m : Int)) := by simp [i64s, List.map_set]
  rw [e]; exact h1
theorem set_fst (l : List (Nat × Nat)) (i m : Nat) (hi : i < l.length) : (l.set i ((at' l i).1, m)).map (·.1) = l.map (·.1) := by
  rw [List.map_set]
  apply List.ext_getElem?
  intro j
  by_cases e : j = i
  · subst e
    rw [List.getElem?_set_self (by simpa using hi)]
    simp [at', List.getD, hi]
  · rw [List.getElem?_set_ne (fun h => e h.symm)]
theorem copied_new {W0 W : World} {ga pa gb pb : Nat} {l : List (Nat × Nat)} (r1 : W.ownsRow 0 5 1 (.slice (some ⟨ga, 0, none⟩) l.length pa) l.length (u8s (l.map (·.1)))) (r2 : W.ownsRow 0 3 1 (.slice (some ⟨gb, 0, none⟩) l.length pb) l.length (i64s (l.map (·.2)))) (hb : Below W0.heap.size W0 W) (h1 : W0.heap.size ≤ ga) (h2 : W0.heap.size ≤ gb) :
    Copied W0 W.heap.size l (W.alloc (.cells #[.slice (some ⟨ga, 0, none⟩) l.length pa, .slice (some ⟨gb, 0, none⟩) l.length pb] 81)) :=
  ⟨ga, pa, gb, pb, heap_alloc_new W _, ⟨own_alloc _ r1, own_alloc _ r2⟩, bel_alloc _ hb, hb.size, h1, h2⟩
theorem copied_set {W0 W : World} {X ga pa gb pb : Nat} {z1 z2 : Value} {l : List (Nat × Nat)} (hx : W.heap[X]? = some (.cells #[z1, z2] 81 (0, 0))) (r1 : W.ownsRow 0 5 1 (.slice (some ⟨ga, 0, none⟩) l.length pa) l.length (u8s (l.map (·.1)))) (r2 : W.ownsRow 0 3 1 (.slice (some ⟨gb, 0, none⟩) l.length pb) l.length (i64s (l.map (·.2)))) (hb : Below W0.heap.size W0 W) (h1 : W0.heap.size ≤ ga) (h2 : W0.heap.size ≤ gb) (h3 : W0.heap.size ≤ X) :
    Copied W0 X l ((W.setCell ⟨X, 0, none⟩ (.slice (some ⟨ga, 0, none⟩) l.length pa)).setCell ⟨X, 1, none⟩ (.slice (some ⟨gb, 0, none⟩) l.length pb)) := by
  have e1 := heap_setCell_same W X 0 _ _ (.slice (some ⟨ga, 0, none⟩) l.length pa) hx
  have e2 := heap_setCell_same _ X 1 _ _ (.slice (some ⟨gb, 0, none⟩) l.length pb) e1
  refine ⟨ga, pa, gb, pb, by simpa using e2, ⟨own_set (own_set r1 hx (by decide) 0 _) e1 (by decide) 1 _, own_set (own_set r2 hx (by decide) 0 _) e1 (by decide) 1 _⟩, bel_set _ h3 (bel_set _ h3 hb), h3, h1, h2⟩
theorem set_far {W : World} {k : Nat} {o : Obj} {p : Addr} (h : W.heap[k]? = some o) (hn : p.block ≠ k) (u : Value) : (W.setCell p u).heap[k]? = some o := (Below.heap_setCell _ _ _ _ (Ne.symm hn)).trans h
/-- w2, but for two blocks and new ones. -/
abbrev Two (q1 q2 : Nat) : Nat → Prop := fun k => k = q1 ∨ k = q2
def Grown (w2 : World) (q1 q2 : Nat) (W : World) : Prop := Frame (Two q1 q2) w2 W
theorem Grown.refl (w2 : World) (q1 q2 : Nat) : Grown w2 q1 q2 w2 := Frame.refl _ _
theorem Grown.drew {w2 W : World} {q1 q2 : Nat} (h : Grown w2 q1 q2 W) : Grown w2 q1 q2 W.drew := Frame.drew h
theorem Grown.alloc {w2 W : World} {q1 q2 : Nat} (o : Obj) (h : Grown w2 q1 q2 W) : Grown w2 q1 q2 (W.alloc o) := Frame.alloc h o
theorem Grown.app1 {w2 W W' : World} {q1 q2 n c : Nat} (h : Grown w2 q1 q2 W) (hg : W.grownBy W' (Value.slice (some ⟨q1, 0, none⟩) n c).ownBlock) : Grown w2 q1 q2 W' := Frame.grown h hg (fun k hk => .inl (.inl (by simpa [Value.ownBlock] using hk.symm)))
theorem Grown.app2 {w2 W W' : World} {q1 q2 n c : Nat} (h : Grown w2 q1 q2 W) (hg : W.grownBy W' (Value.slice (some ⟨q2, 0, none⟩) n c).ownBlock) : Grown w2 q1 q2 W' := Frame.grown h hg (fun k hk => .inl (.inr (by simpa [Value.ownBlock] using hk.symm)))
theorem own_kept {W W' : World} {e : TypeId} {g n c q m d : Nat} {xs : List Value} (h : W.ownsRow 0 e 1 (.slice (some ⟨g, 0, none⟩) n c) n xs) (hg : W.grownBy W' (Value.slice (some ⟨q, 0, none⟩) m d).ownBlock) (hne : g ≠ q) : W'.ownsRow 0 e 1 (.slice (some ⟨g, 0, none⟩) n c) n xs :=
  h.kept hg (.inr (by simpa [Value.ownBlock] using hne))
theorem own_apart {W : World} {e t : TypeId} {g n c q m d : Nat} {xs ys : List Value} (h : W.ownsRow 0 e 1 (.slice (some ⟨g, 0, none⟩) n c) n xs) (k : W.ownsRow 0 t 1 (.slice (some ⟨q, 0, none⟩) m d) m ys) (ht : t ≠ e) : g ≠ q := by
  rcases k.2 with ⟨e1, _⟩ | ⟨g', c', cur, e1, _, hg, _⟩
  · simp at e1
  · simp only [Value.slice.injEq, Option.some.injEq, Addr.mk.injEq, and_true] at e1
    rw [e1.1]
    exact own_not_at h hg ht
theorem new_cell {W : World} {k : Nat} {x : Value} {t : TypeId} (h : W.heap[k]? = some (.cells #[x] t (0, 0))) : ∀ j u, [x][j]? = some u → W.cell? ((⟨k, 0, none⟩ : Addr).add j) = some u := World.news_of_block h
theorem ones8 (s : Nat) : ∀ u ∈ [Value.int .u8 (s : Int)], u.oneCell' = true := by intro u hu; simp at hu; subst hu; rfl
theorem ones64 (s : Int) : ∀ u ∈ [Value.int .i64 s], u.oneCell' = true := by intro u hu; simp at hu; subst hu; rfl
theorem heldX {W : World} {X : Nat} {a b : Value} {t : TypeId} (h : W.heap[X]? = some (.cells #[a, b] t (0, 0))) : W.heap[X]? = some (.cells #[a, b] t (0, 0)) ∧ W.cell? ⟨X, 0, none⟩ = some a ∧ W.cell? ⟨X, 1, none⟩ = some b :=
  ⟨h, (two h).1, (two h).2.1⟩
/-- What a sign that is new leaves. -/
def Newly (W0 : World) (X B : Nat) (l : List (Nat × Nat)) (s : Nat) (W : World) : Prop := ∃ ga pa gb pb, W.heap[X]? = some (.cells #[.slice (some ⟨ga, 0, none⟩) (l.length + 1) pa, .slice (some ⟨gb, 0, none⟩) (l.length + 1) pb] 81 (0, 0)) ∧
  W.heap[B + 1]? = some (.cells #[.slice none 0 0, .slice none 0 0] 81 (0, 0)) ∧ RefT W (.slice (some ⟨ga, 0, none⟩) (l.length + 1) pa) (.slice (some ⟨gb, 0, none⟩) (l.length + 1) pb) (l ++ [(s, 1)]) ∧ Below W0.heap.size W0 W ∧ W0.heap.size ≤ ga ∧ W0.heap.size ≤ gb
theorem newly_of {W0 w2 W : World} {X B q1 q2 r1 r2 ga pa gb pb : Nat} {l : List (Nat × Nat)} {s : Nat} (hX : w2.heap[X]? = some (.cells #[.slice (some ⟨q1, 0, none⟩) l.length r1, .slice (some ⟨q2, 0, none⟩) l.length r2] 81 (0, 0)))
    (hQ : w2.heap[B + 1]? = some (.cells #[.slice none 0 0, .slice none 0 0] 81 (0, 0))) (hb : Below W0.heap.size W0 w2) (h1 : W0.heap.size ≤ q1) (h2 : W0.heap.size ≤ q2) (h3 : W0.heap.size ≤ X) (hq1 : q1 ≠ X) (hq2 : q2 ≠ X) (hB1 : B + 1 < W0.heap.size)
    (hG : Grown w2 q1 q2 W) (r1' : W.ownsRow 0 5 1 (.slice (some ⟨ga, 0, none⟩) (l.length + 1) pa) (l.length + 1) (u8s (l.map (·.1)) ++ [.int .u8 (s : Int)])) (r2' : W.ownsRow 0 3 1 (.slice (some ⟨gb, 0, none⟩) (l.length + 1) pb) (l.length + 1) (i64s (l.map (·.2)) ++ [.int .i64 1])) (h4 : W0.heap.size ≤ ga) (h5 : W0.heap.size ≤ gb) :
    Newly W0 X B l s ((W.setCell ⟨X, 0, none⟩ (.slice (some ⟨ga, 0, none⟩) (l.length + 1) pa)).setCell ⟨X, 1, none⟩ (.slice (some ⟨gb, 0, none⟩) (l.length + 1) pb)) := by
  have hXl := lt_of_heap hX
  have hXW := (hG.block X hXl (fun e => by rcases e with e | e <;> omega)).trans hX
  have hQW := (hG.block (B + 1) (lt_of_heap hQ) (fun e => by rcases e with e | e <;> omega)).trans hQ
  have e1 := heap_setCell_same W X 0 _ _ (.slice (some ⟨ga, 0, none⟩) (l.length + 1) pa) hXW
  have e2 := heap_setCell_same _ X 1 _ _ (.slice (some ⟨gb, 0, none⟩) (l.length + 1) pb) e1
  have hbW : Below W0.heap.size W0 W := hb.trans (Frame.below hG hb.size (fun k hk e => by rcases e with e | e <;> omega))
  refine ⟨ga, pa, gb, pb, by simpa using e2, set_far (set_far hQW (by show X ≠ B + 1; omega) _) (by show X ≠ B + 1; omega) _, ⟨?_, ?_⟩, bel_set _ h3 (bel_set _ h3 hbW), h4, h5⟩
  · have h9 := own_set (own_set r1' hXW (by decide) 0 (.slice (some ⟨ga, 0, none⟩) (l.length + 1) pa)) e1 (by decide) 1 (.slice (some ⟨gb, 0, none⟩) (l.length + 1) pb)
    simpa [u8s] using h9
  · have h9 := own_set (own_set r2' hXW (by decide) 0 (.slice (some ⟨ga, 0, none⟩) (l.length + 1) pa)) e1 (by decide) 1 (.slice (some ⟨gb, 0, none⟩) (l.length + 1) pb)
    simpa [i64s] using h9
/-- The result is laid down: the rows are as they were. -/
theorem ends {w W : World} {B : Nat} {v1 v2 z1 z2 : Value} {l : List (Nat × Nat)} (hR : RefT W v1 v2 l) (hQ : W.heap[B + 1]? = some (.cells #[z1, z2] 81 (0, 0))) (hb : Below B w W) (u1 u2 : Value) :
    RefT ((W.setCell ⟨B + 1, 0, none⟩ u1).setCell ⟨B + 1, 1, none⟩ u2) v1 v2 l ∧ Below B w ((W.setCell ⟨B + 1, 0, none⟩ u1).setCell ⟨B + 1, 1, none⟩ u2) := by
  have e1 := heap_setCell_same W (B + 1) 0 _ _ u1 hQ
  exact ⟨⟨own_set (own_set hR.row1 hQ (by decide) 0 _) e1 (by decide) 1 _, own_set (own_set hR.row2 hQ (by decide) 0 _) e1 (by decide) 1 _⟩, (hb.setCell (p := ⟨B + 1, 0, none⟩) (by simp) _).setCell (p := ⟨B + 1, 1, none⟩) (by simp) _⟩
/-- One count is written: the table is the other one. -/
theorem RefT.count {W : World} {q1 r1 q2 r2 : Nat} {l : List (Nat × Nat)} (h : RefT W (.slice (some ⟨q1, 0, none⟩) l.length r1) (.slice (some ⟨q2, 0, none⟩) l.length r2) l) (i m : Nat) (hi : i < l.length) :
    RefT (W.setCell ⟨q2, i, none⟩ (.int .i64 (m : Int))) (.slice (some ⟨q1, 0, none⟩) l.length r1) (.slice (some ⟨q2, 0, none⟩) l.length r2) (l.set i ((at' l i).1, m)) := by
  refine ⟨?_, ?_⟩
  · rw [List.length_set, set_fst l i m hi]
    have hne : q1 ≠ q2 := by
      rcases h.row2.2 with ⟨e, _⟩ | ⟨g, c, cur, e, _, hg, _⟩
      · simp at e
      · simp only [Value.slice.injEq, Option.some.injEq, Addr.mk.injEq, and_true] at e
        rw [e.1]
        exact own_not_at h.row1 hg (by decide)
    exact ownsRow_frame h.row1 ((Frame.refl (fun k => k = q2) W).setCell (p := ⟨q2, i, none⟩) (.inl rfl) _) (fun k hk e1 => by simp [Value.ownBlock] at hk; omega)
  · rw [List.length_set]
    exact row_more h.row2 i m
theorem RefT.again {W : World} {v1 v2 : Value} {l k : List (Nat × Nat)} (h : RefT W v1 v2 l) (e : l = k) : RefT W v1 v2 k := e ▸ h
set_option maxRecDepth 100000 in
set_option maxHeartbeats 4000000 in
theorem radd_more {w : World} {v1 v2 : Value} {l : List (Nat × Nat)} (h : RefT w v1 v2 l) (ht : Tab 120 l) (hn : 0 < l.length) (hl : l.length ≤ 1000000) (s : Nat) (hs : s < 256) :
    Calls Try.prog 83 #[.agg #[v1, v2], .int .u8 (s : Int)] w fun x w' => ∃ v1' v2', x = .returned (.agg #[v1', v2']) ∧ RefT w' v1' v2' (addT l s) ∧ Below w.heap.size w w' ∧ (∀ k, v1'.ownBlock = some k → w.heap.size ≤ k) ∧ (∀ k, v2'.ownBlock = some k → w.heap.size ≤ k) := by
  obtain ⟨g1, p1, g2, p2, rfl, rfl, l1, l2, a1, a2, a3, a4⟩ := h.form hn
  have H := Lib.hid h
  have HT := Lib.hid ht
  unfold maxLen at a3 a4
  obtain ⟨i0, hi, hz0, hz1, hz2⟩ := info_parts info8
  obtain ⟨j0, hj, hy0, hy1, hy2⟩ := info_parts infoI
  clear h ht
  go_enter Try.func83, Try.ntmps83
  go_upto_region 1 with (fail)
  obtain ⟨hq1, hq2, hsz, hb0⟩ := behind (w := w) (w3 := (w.alloc (.cells #[.slice (some ⟨g1, 0, none⟩) l.length p1, .slice (some ⟨g2, 0, none⟩) l.length p2] 81)).alloc (.cells #[.slice none 0 0, .slice none 0 0] 81)) (Below.refl _ _)
  have HR := Lib.hid (H.out.below hb0)
  have HB0 := Lib.hid hb0
  generalize (w.alloc (.cells #[.slice (some ⟨g1, 0, none⟩) l.length p1, .slice (some ⟨g2, 0, none⟩) l.length p2] 81)).alloc (.cells #[.slice none 0 0, .slice none 0 0] 81) = W0 at *
  have HQ2 := Lib.hid hq2
  obtain ⟨c1, c2, _, _, _⟩ := two hq1
  generalize hB : w.heap.size = B at *
  have HBB := Lib.hid hB
  clear hB hq1 hq2 hb0
  have hB0 : B < W0.heap.size := by omega
  have hg1 : g1 < W0.heap.size := by omega
  have hg2 : g2 < W0.heap.size := by omega
  go_cut [5] (fun p wc => ∃ X, p = .pointer (some ⟨X, 0, none⟩) ∧ Copied W0 X l wc)
  case first =>
    as_aux_lemma =>
    -- BEGIN first
    have S0 : Below W0.heap.size W0 W0.drew := ⟨rfl, rfl, rfl, Nat.le_refl _, fun _ _ => rfl⟩
    have d1 : W0.drew.cell? ⟨B, 0, none⟩ = some (.slice (some ⟨g1, 0, none⟩) l.length p1) := c1
    have d2 : W0.drew.cell? ⟨B, 1, none⟩ = some (.slice (some ⟨g2, 0, none⟩) l.length p2) := c2
    have HL1 : Hid ((u8s (l.map (·.1))).length = l.length) := Lib.hid (by simp [u8s])
    have HL2 : Hid ((i64s (l.map (·.2))).length = l.length) := Lib.hid (by simp [i64s])
    have hb1 : l.length ≤ maxLen := by unfold maxLen; omega
    have hb2 : l.length * 1 ≤ 140737488355328 := by omega
    have hb8 : l.length * 8 ≤ 140737488355328 := by omega
    have HN1 := Lib.hid (fun (W : World) (hb : Below W0.heap.size W0 W) => row_news (row_same HR.out.row1 hb))
    have HN2 := Lib.hid (fun (W : World) (hb : Below W0.heap.size W0 W) => row_news (row_same HR.out.row2 hb))
    go_region_held3 (fun w' => Below W0.heap.size W0 w' ∧ w'.cell? ⟨B, 0, none⟩ = some (.slice (some ⟨g1, 0, none⟩) l.length p1) ∧ w'.cell? ⟨B, 1, none⟩ = some (.slice (some ⟨g2, 0, none⟩) l.length p2)) (first | exact ⟨S0, d1, d2⟩ | (refine held_of hB0 c1 c2 ?_; repeat (first | assumption | exact Below.refl _ _ | refine bel_drew ?_ | refine bel_alloc _ ?_ | (refine bel_set _ (by simp; omega) ?_) | (refine bel_set _ (by simp) ?_) | (refine bel_new (by assumption) ?_)))) (first | (refine step_append_fresh _ rfl (.tmp 8) (.tmp 10) 73 rfl 5 i0 (.int .u8 0) 1 Try.underlying73 hi hz0 hz1 hz2 rfl _ rfl ⟨g1, 0, none⟩ l.length p1 (u8s (l.map (·.1))) rfl HL1.out (HN1.out _ (And.left (by assumption))) hn hb1 hb2 ?_; intro ga pa wa hra hba hga; obtain ⟨hca, hfa⟩ := bcell hba; have hza := hba.size; (try simp at hza); (try simp at hga); (try have _t0 : W0.heap.size < wa.heap.size := by omega); (try have _t1 : W0.heap.size + 1 < wa.heap.size := by omega); (try have _t2 : W0.heap.size + 2 < wa.heap.size := by omega)) | (refine step_append_fresh _ rfl (.tmp 12) (.tmp 14) 35 rfl 3 j0 (.int .i64 0) 8 Try.underlying35 hj hy0 hy1 hy2 rfl _ rfl ⟨g2, 0, none⟩ l.length p2 (i64s (l.map (·.2))) rfl HL2.out (HN2.out _ (And.left (by assumption))) hn hb1 hb8 ?_; intro gb pb wb hrb hbb hgb; obtain ⟨hcb, hfb⟩ := bcell hbb; have hzb := hbb.size; (try simp at hzb); (try simp at hgb); (try have _s0 : W0.heap.size < wb.heap.size := by omega); (try have _s1 : W0.heap.size + 1 < wb.heap.size := by omega); (try have _s2 : W0.heap.size + 2 < wb.heap.size := by omega); (try have _s3 : wa.heap.size < wb.heap.size := by omega); (try have _s4 : wa.heap.size + 1 < wb.heap.size := by omega)))
    all_goals
      go_wp2_with fail
      go_meet
      refine ⟨_, rfl, ?_⟩
      first
      | (with_reducible refine copied_set (z1 := .slice none 0 0) (z2 := .slice none 0 0) ?_ ?_ ?_ ?_ ?_ ?_ ?_)
      | (with_reducible refine copied_new ?_ ?_ ?_ ?_ ?_)
      all_goals (try omega)
      all_goals (repeat (with_reducible first | assumption | exact Below.refl _ _ | exact heap_alloc_new _ _ | exact blk_here (by simp) | refine bel_drew ?_ | refine bel_alloc _ ?_ | refine own_drew ?_ | refine own_alloc _ ?_ | refine blk_alloc ?_ | refine blk_drew ?_ | (refine bel_new (by assumption) ?_) | (refine own_new (by assumption) ?_) | (refine blk_new (by assumption) ?_)))
    -- END first
  case rest =>
    obtain ⟨X, rfl, hcop⟩ := hcut
    have hcop2 := hcop
    obtain ⟨q1, r1, q2, r2, hX, hT, hb, hXB, hq1B, hq2B⟩ := hcop2
    have HCB := Lib.hid hb
    have HX := Lib.hid hX
    have HTT := Lib.hid hT
    obtain ⟨x0, x1, xf0, xf1, hxl⟩ := two hX
    have hsl := Lib.hid (show W0.heap.size ≤ wc.heap.size from hb.size)
    have HQ3 := Lib.hid ((hb.block (B + 1) (by omega)).trans HQ2.out)
    have HAT := Lib.hid (at_more hT (fun x hx => by have := HT.out x hx; omega) hn s hs)
    clear hcop hX hT hb c1 c2 hg1 hg2 hi hz0 hz1 hz2 hj hy0 hy1 hy2
    go_wp2_with fail
    refine HAT.out.mono ?_
    rintro y w2 ⟨rfl, hb2⟩
    have hX2 := (hb2.block X hxl).trans HX.out
    have HT2 := Lib.hid (HTT.out.below hb2)
    obtain ⟨x0, x1, xf0, xf1, hxl⟩ := two hX2
    have HX2 := Lib.hid hX2
    have HCB2 := Lib.hid (bel_new hb2 HCB.out)
    have hBl : B + 1 < w2.heap.size := by have := hb2.size; have := hsl.out; omega
    have HQ4 := Lib.hid ((hb2.block (B + 1) (by have := hsl.out; omega)).trans HQ3.out)
    obtain ⟨y0, y1, yf0, yf1, _⟩ := two HQ4.out
    have hXne : X ≠ B + 1 := by omega
    have hsl2 := Lib.hid (show W0.heap.size ≤ w2.heap.size by have := hb2.size; have := hsl.out; omega)
    clear hb2 hX2 HX HTT HCB HAT HQ3 HQ2
    by_cases hf : find l s < l.length
    · as_aux_lemma =>
      -- BEGIN more
      have HAD := Lib.hid (show addT l s = if (at' l (find l s)).2 + 1 > 120 then halve (more l (find l s)) else more l (find l s) by unfold addT; rw [if_pos hf])
      have hpl := placeI_hit rfl hf
      rw [hpl]
      clear hpl
      generalize find l s = i at *
      have hi0 : decide ((i : Int) < 0) = false := by simp
      have hta := tab_at HT.out hf
      have c2 := row_cell HT2.out.row2 (snd_at l i hf)
      have f2 : w2.frozen? ⟨q2, i, none⟩ = false := World.ownsRow.frozenAt HT2.out.row2 i
      have hq2X : q2 ≠ X := own_not_at HT2.out.row2 HX2.out (by decide)
      have hq2B2 : q2 ≠ B + 1 := by omega
      have hq2l : q2 < w2.heap.size := ownsRow_lt HT2.out.row2 q2 rfl
      have HML := Lib.hid (tab_more121 HT.out hf)
      have HR2 := Lib.hid (show RefT (w2.setCell ⟨q2, i, none⟩ (.int .i64 (((at' l i).2 + 1 : Nat) : Int))) (.slice (some ⟨q1, 0, none⟩) l.length r1) (.slice (some ⟨q2, 0, none⟩) l.length r2) (more l i) from HT2.out.count i ((at' l i).2 + 1) hf)
      have HXm := Lib.hid (fun u => set_far HX2.out (p := ⟨q2, i, none⟩) hq2X u)
      have HQm := Lib.hid (fun u => set_far HQ4.out (p := ⟨q2, i, none⟩) hq2B2 u)
      have HBm := Lib.hid (fun u => bel_set (p := ⟨q2, i, none⟩) u hq2B HCB2.out)
      have HBw := Lib.hid (show B ≤ W0.heap.size by omega)
      have HE := Lib.hid (show ((at' l i).2 : Int) + 1 = (((at' l i).2 + 1 : Nat) : Int) by omega)
      by_cases h120 : (at' l i).2 + 1 > 120
      · have HA2 := Lib.hid (show addT l s = halve (more l i) by rw [HAD.out, if_pos h120])
        have hd : decide (120 < ((at' l i).2 : Int) + 1) = true := by rw [decide_eq_true_iff]; omega
        generalize (at' l i).2 = x2 at *
        clear HAD h120
        go_upto_block 2 with (fail)
        rw [HE.out]
        have HXm1 := Lib.hid (HXm.out (.int .i64 ((x2 + 1 : Nat) : Int)))
        have HQm1 := Lib.hid (HQm.out (.int .i64 ((x2 + 1 : Nat) : Int)))
        have HBm1 := Lib.hid (HBm.out (.int .i64 ((x2 + 1 : Nat) : Int)))
        clear HXm HQm HBm c2 f2 x0 x1 xf0 xf1 y0 y1 yf0 yf1 HX2 HQ4 HCB2 HT2 hd
        generalize w2.setCell ⟨q2, i, none⟩ (.int .i64 ((x2 + 1 : Nat) : Int)) = w3 at *
        have HML2 := Lib.hid (show ∀ k, k < l.length → (at' (more l i) k).2 ≤ 121 from fun k hk => (tab_at HML.out (by rw [more_length]; exact hk)).2.2)
        have HLM := Lib.hid (more_length l i)
        have HR3 : Hid (RefT w3 (.slice (some ⟨q1, 0, none⟩) l.length r1) (.slice (some ⟨q2, 0, none⟩) l.length r2) (more l i)) := Lib.hid HR2.out
        clear HR2 HML
        generalize more l i = lm at *
        go_wp2_with fail
        go_loopw [7] (fun i wr => ∃ k : Nat, k ≤ l.length ∧ i = .int .i64 k ∧ wr.heap[X]? = some (.cells #[.slice (some ⟨q1, 0, none⟩) l.length r1, .slice (some ⟨q2, 0, none⟩) l.length r2] 81 (0, 0)) ∧ wr.heap[B + 1]? = some (.cells #[.slice none 0 0, .slice none 0 0] 81 (0, 0)) ∧ RefT wr (.slice (some ⟨q1, 0, none⟩) l.length r1) (.slice (some ⟨q2, 0, none⟩) l.length r2) (halved lm k) ∧ Below W0.heap.size W0 wr) (fun i _ => l.length - (intOf i).toNat)
        case atStart => exact ⟨0, by omega, rfl, HXm1.out, HQm1.out, by rw [halved_zero]; exact HR3.out, HBm1.out⟩
        case round =>
          clear HXm1 HQm1 HBm1 HR3
          obtain ⟨k, hk, rfl, hX, hQ, hR, hb⟩ := hrel
          obtain ⟨x0, x1, xf0, xf1, hxl⟩ := two hX
          obtain ⟨y0, y1, yf0, yf1, hyl⟩ := two hQ
          have hq2l : q2 < wr.heap.size := ownsRow_lt hR.row2 q2 rfl
          by_cases hlt : k < l.length
          · have hlm : k < lm.length := by rw [HLM.out]; exact hlt
            have hlh : (halved lm k).length = l.length := by rw [halved_length lm k (by omega), HLM.out]
            have c2 : wr.cell? ⟨q2, k, none⟩ = some (.int .i64 ((at' (halved lm k) k).2 : Int)) := by
              have h9 := hR.row2
              rw [hlh] at h9
              exact row_cell h9 (snd_at _ k (by omega))
            rw [halved_at lm k hlm] at c2
            have f2 : wr.frozen? ⟨q2, k, none⟩ = false := by
              have h9 := hR.row2
              rw [hlh] at h9
              exact World.ownsRow.frozenAt h9 k
            have hxb := HML2.out k hlt
            have HRN := Lib.hid (show RefT (wr.setCell ⟨q2, k, none⟩ (.int .i64 ((((at' lm k).2 + 1) / 2 : Nat) : Int))) (.slice (some ⟨q1, 0, none⟩) l.length r1) (.slice (some ⟨q2, 0, none⟩) l.length r2) (halved lm (k + 1)) from by
              rw [← halved_step lm k hlm]
              have h9 := hR
              rw [← hlh] at h9 ⊢
              exact h9.count k _ (by omega))
            generalize (at' lm k).2 = x2 at *
            have HXn := Lib.hid (fun u => set_far hX (p := ⟨q2, k, none⟩) hq2X u)
            have HQn := Lib.hid (fun u => set_far hQ (p := ⟨q2, k, none⟩) hq2B2 u)
            have HBn := Lib.hid (fun u => bel_set (p := ⟨q2, k, none⟩) u hq2B hb)
            have HEn := Lib.hid (show ((x2 : Int) + 1) / 2 = (((x2 + 1) / 2 : Nat) : Int) by omega)
            have e1 : IntKind.i64.wrap ((x2 : Int) + 1) = (x2 : Int) + 1 := IntWalk.i64_in _ (by omega)
            have e2 : IntKind.i64.wrap (((x2 : Int) + 1).tdiv 2) = ((x2 : Int) + 1) / 2 := by rw [Int.tdiv_eq_ediv_of_nonneg (by omega)]; exact IntWalk.i64_in _ (by omega)
            clear hX hQ hR hb hlh
            go_upto_region 11 with (fail)
            go_region
            all_goals
              clear e1 e2 c2 f2
              go_wp2_with fail
              go_roundw
              case rel =>
                rw [HEn.out]
                exact ⟨k + 1, by omega, by go_num, HXn.out _, HQn.out _, ⟨HRN.out.row1, HRN.out.row2⟩, bel_drew (HBn.out _)⟩
              case measure => simp [intOf]; omega
          · obtain rfl : k = l.length := by omega
            have hha : halved lm l.length = halve lm := by rw [← HLM.out]; exact halved_all lm
            rw [hha] at hR
            have hrl := hR
            have HE2 := Lib.hid (ends (u1 := .slice (some ⟨q1, 0, none⟩) l.length r1) (u2 := .slice (some ⟨q2, 0, none⟩) l.length r2) hR hQ (HB0.out.trans (hb.mono HBw.out)))
            clear hR hb hX hQ hrl hha
            go_wp2_with fail
            refine bodyPost_ret (v := .agg #[.slice (some ⟨q1, 0, none⟩) l.length r1, .slice (some ⟨q2, 0, none⟩) l.length r2]) ?_ rfl ?_
            · simp [results, Try.results83, go_sem, y0, y1]
            · exact ⟨_, _, rfl, HE2.out.1.again HA2.out.symm, by rw [HBB.out]; exact HE2.out.2, fun j hj => by simp [Value.ownBlock] at hj; have := HBB.out; omega, fun j hj => by simp [Value.ownBlock] at hj; have := HBB.out; omega⟩
      · have HA2 := Lib.hid (show addT l s = more l i by rw [HAD.out, if_neg h120])
        have hd : decide (120 < ((at' l i).2 : Int) + 1) = false := by rw [decide_eq_false_iff_not]; omega
        generalize (at' l i).2 = x2 at *
        have HE2 := Lib.hid (ends (u1 := .slice (some ⟨q1, 0, none⟩) l.length r1) (u2 := .slice (some ⟨q2, 0, none⟩) l.length r2) HR2.out (HQm.out _) (HB0.out.trans ((HBm.out _).mono HBw.out)))
        clear HAD h120
        go_wp2_with fail
        rw [HE.out]
        refine bodyPost_ret (v := .agg #[.slice (some ⟨q1, 0, none⟩) l.length r1, .slice (some ⟨q2, 0, none⟩) l.length r2]) ?_ rfl ?_
        · simp [results, Try.results83, go_sem, y0, y1]
        · exact ⟨_, _, rfl, HE2.out.1.again HA2.out.symm, by rw [HBB.out]; exact HE2.out.2, fun j hj => by simp [Value.ownBlock] at hj; have := HBB.out; omega, fun j hj => by simp [Value.ownBlock] at hj; have := HBB.out; omega⟩
      -- END more
    · as_aux_lemma =>
      -- BEGIN new
      have HAD := Lib.hid (show addT l s = l ++ [(s, 1)] by unfold addT; rw [if_neg hf])
      rw [placeI_none hf]
      have hb1 : l.length + 1 ≤ maxLen := by unfold maxLen; omega
      have hb2 : (l.length + 1) * 1 ≤ 140737488355328 := by omega
      have hb8 : (l.length + 1) * 8 ≤ 140737488355328 := by omega
      have hq1X : q1 ≠ X := own_not_at HT2.out.row1 HX2.out (by decide)
      have hq2X : q2 ≠ X := own_not_at HT2.out.row2 HX2.out (by decide)
      have HO1 := Lib.hid HT2.out.row1
      have HO2 := Lib.hid HT2.out.row2
      obtain ⟨i0, hi, hz0, hz1, hz2⟩ := info_parts info8
      obtain ⟨j0, hj, hy0, hy1, hy2⟩ := info_parts infoI
      go_upto_region 4 with (fail)
      have hq12 := own_apart HT2.out.row2 HT2.out.row1 (by decide)
      have hq1l : q1 < w2.heap.size := ownsRow_lt HT2.out.row1 q1 rfl
      have hq2l : q2 < w2.heap.size := ownsRow_lt HT2.out.row2 q2 rfl
      clear y0 y1 yf0 yf1
      go_cut [22] (fun _ wx => Newly W0 X B l s wx)
      case first =>
        as_aux_lemma =>
        -- BEGIN app
        refine Tail.region_head (fun W => W.heap[X]? = some (.cells #[.slice (some ⟨q1, 0, none⟩) l.length r1, .slice (some ⟨q2, 0, none⟩) l.length r2] 81 (0, 0)) ∧ W.cell? ⟨X, 0, none⟩ = some (.slice (some ⟨q1, 0, none⟩) l.length r1) ∧ W.cell? ⟨X, 1, none⟩ = some (.slice (some ⟨q2, 0, none⟩) l.length r2)) 10 3 #[true, true, true, true, true, true, true, true, true, true, false, false, false] (by kernel_rfl) ⟨by kernel_rfl, by decide, by kernel_rfl, by kernel_rfl, by kernel_rfl⟩ (by kernel_rfl) (heldX (blk_drew HX2.out)) (fun ok hHeld => ?_)
        refine Tail.head_take ok (i := 0) (v := ?tv1) rfl rfl (by kernel_rfl) (by kernel_rfl) (by kernel_rfl) (fun _ _ _ h => h) (Or.inl ⟨by rfl, ?th1⟩) (by assumption) ?tr1
        case th1 => (intro w hSw; (try dsimp only at hSw); go_simp; (try with_reducible rfl))
        try simp only [Act.put]
        try simp only [List.setIfInBounds_toArray]
        try simp only [List.set]
        refine Tail.head_take ok (i := 1) (v := ?tv2) rfl rfl (by kernel_rfl) (by kernel_rfl) (by kernel_rfl) (fun _ _ _ h => h) (Or.inl ⟨by rfl, ?th2⟩) (by assumption) ?tr2
        case th2 => (intro w hSw; (try dsimp only at hSw); go_simp; (try with_reducible rfl))
        try simp only [Act.put]
        try simp only [List.setIfInBounds_toArray]
        try simp only [List.set]
        refine Tail.head_take ok (i := 2) (v := ?tv3) rfl rfl (by kernel_rfl) (by kernel_rfl) (by kernel_rfl) (fun _ _ _ h => h) (Or.inl ⟨by rfl, ?th3⟩) (by assumption) ?tr3
        case th3 => (intro w hSw; (try dsimp only at hSw); go_simp; (try with_reducible rfl))
        try simp only [Act.put]
        try simp only [List.setIfInBounds_toArray]
        try simp only [List.set]
        refine Tail.head_take ok (i := 5) (v := ?tv4) rfl rfl (by kernel_rfl) (by kernel_rfl) (by kernel_rfl) (fun _ _ _ h => h) (Or.inl ⟨by rfl, ?th4⟩) (by assumption) ?tr4
        case th4 => (intro w hSw; (try dsimp only at hSw); go_simp; (try with_reducible rfl))
        try simp only [Act.put]
        try simp only [List.setIfInBounds_toArray]
        try simp only [List.set]
        refine Tail.head_take ok (i := 6) (v := ?tv5) rfl rfl (by kernel_rfl) (by kernel_rfl) (by kernel_rfl) (fun _ _ _ h => h) (Or.inl ⟨by rfl, ?th5⟩) (by assumption) ?tr5
        case th5 => (intro w hSw; (try dsimp only at hSw); go_simp; (try with_reducible rfl))
        try simp only [Act.put]
        try simp only [List.setIfInBounds_toArray]
        try simp only [List.set]
        refine Tail.head_ready (rs := [3, 7]) (by kernel_rfl) (by simp) (by kernel_rfl) ?_
        refine Tail.AllHead.cons rfl (fun K hK => ?_) ?_
        focus
          go_simp
          refine hK.out _ _ (heldX (by repeat (first | exact HX2.out | exact hXa | refine blk_drew ?_ | refine blk_alloc ?_))) (fun hHeld => ?_)
          clear hK K
          try simp only [Act.put]
          try simp only [List.setIfInBounds_toArray]
          try simp only [List.set]
          refine Tail.head_ready (rs := [4, 7]) (by kernel_rfl) (by simp) (by kernel_rfl) ?_
          refine Tail.AllHead.cons rfl (fun K hK => ?_) ?_
          focus
            refine step_append_lies _ rfl (.tmp 23) (.tmp 25) 73 rfl 0 5 i0 (.int .u8 0) 1 1 Try.underlying73 hi hz0 hz1 hz2 rfl (by decide) (.slice (some ⟨q1, 0, none⟩) l.length r1) l.length (u8s (l.map (·.1))) (by simp [Act.eval]) (by repeat (first | exact HO1.out | refine own_drew ?_ | refine own_alloc _ ?_)) ⟨_, 0, none⟩ 1 1 [.int .u8 (s : Int)] (by first | (simp [Act.eval]; done) | (simp [Act.eval]; rfl)) rfl (new_cell (by repeat (first | exact blk_here (by simp) | refine blk_drew ?_ | refine blk_alloc ?_))) (ones8 s) (by decide) hb1 hb2 (Nat.zero_le _) _ rfl ?_
            intro ga pa wa hra hba hga hla
            have hGa : Grown w2 q1 q2 wa := Grown.app1 (by repeat (first | exact Grown.refl _ _ _ | refine Grown.drew ?_ | refine Grown.alloc _ ?_)) hba
            have hXa := (hGa.block X hxl (fun e => by rcases e with e | e <;> omega)).trans HX2.out
            have hO2a : wa.ownsRow 0 3 1 (.slice (some ⟨q2, 0, none⟩) l.length r2) l.length (i64s (l.map (·.2))) := own_kept (by repeat (first | exact HO2.out | refine own_drew ?_ | refine own_alloc _ ?_)) hba hq12
            have hga2 : W0.heap.size ≤ ga := by simp [Value.ownBlock] at hga; have := hsl2.out; omega
            refine hK.out _ _ (heldX hXa) (fun hHeld => ?_)
            clear hK K
            try simp only [Act.put]
            try simp only [List.setIfInBounds_toArray]
            try simp only [List.set]
            refine Tail.head_take ok (i := 9) (v := ?tv6) rfl rfl (by kernel_rfl) (by kernel_rfl) (by kernel_rfl) (fun _ _ _ h => h) (Or.inl ⟨by rfl, ?th6⟩) (by assumption) ?tr6
            case th6 => (intro w hSw; (try dsimp only at hSw); go_simp; (try with_reducible rfl))
            try simp only [Act.put]
            try simp only [List.setIfInBounds_toArray]
            try simp only [List.set]
            refine Tail.head_ready (rs := [7]) (by kernel_rfl) (by simp) (by kernel_rfl) ?_
            refine Tail.AllHead.cons rfl (fun K hK => ?_) Tail.AllHead.nil
            go_simp
            refine hK.out _ _ (heldX (by repeat (first | exact HX2.out | exact hXa | refine blk_drew ?_ | refine blk_alloc ?_))) (fun hHeld => ?_)
            clear hK K
            try simp only [Act.put]
            try simp only [List.setIfInBounds_toArray]
            try simp only [List.set]
            refine Tail.head_ready (rs := [8]) (by kernel_rfl) (by simp) (by kernel_rfl) ?_
            refine Tail.AllHead.cons rfl (fun K hK => ?_) Tail.AllHead.nil
            refine step_append_lies _ rfl (.tmp 28) (.tmp 29) 35 rfl 0 3 j0 (.int .i64 0) 1 8 Try.underlying35 hj hy0 hy1 hy2 rfl (by decide) (.slice (some ⟨q2, 0, none⟩) l.length r2) l.length (i64s (l.map (·.2))) (by simp [Act.eval]) (by repeat (first | exact hO2a | refine own_drew ?_ | refine own_alloc _ ?_)) ⟨_, 0, none⟩ 1 1 [.int .i64 1] (by first | (simp [Act.eval]; done) | (simp [Act.eval]; rfl)) rfl (new_cell (by repeat (first | exact blk_here (by simp) | refine blk_drew ?_ | refine blk_alloc ?_))) (ones64 1) (by decide) hb1 hb8 (Nat.zero_le _) _ rfl ?_
            intro gb pb wb hrb hbb hgb hlb
            have hGb : Grown w2 q1 q2 wb := Grown.app2 (by repeat (first | exact hGa | refine Grown.drew ?_ | refine Grown.alloc _ ?_)) hbb
            have hXb := (hGb.block X hxl (fun e => by rcases e with e | e <;> omega)).trans HX2.out
            have hra2 : wb.ownsRow 0 5 1 (.slice (some ⟨ga, 0, none⟩) (l.length + 1) pa) (l.length + 1) (u8s (l.map (·.1)) ++ [.int .u8 (s : Int)]) := own_kept (by repeat (first | exact hra | refine own_drew ?_ | refine own_alloc _ ?_)) hbb (own_apart hra hO2a (by decide))
            have hgb2 : W0.heap.size ≤ gb := by have h1 := hGa.size; simp [Value.ownBlock] at hgb; have := hsl2.out; omega
            obtain ⟨xb0, xb1, xfb0, xfb1, xlb⟩ := two hXb
            refine hK.out _ _ (heldX hXb) (fun hHeld => ?_)
            clear hK K
            try simp only [Act.put]
            try simp only [List.setIfInBounds_toArray]
            try simp only [List.set]
            refine Tail.head_done rfl ?_
            refine wpAny_ready (rs := [10]) (by kernel_rfl) (by simp) ?_
            refine AllReady.cons rfl (fun K hK => ?_) AllReady.nil
            go_simp
            refine hK _ _ ?_
            clear hK K
            try simp only [Act.put]
            try simp only [List.setIfInBounds_toArray]
            try simp only [List.set]
            refine wpAny_ready (rs := [11]) (by kernel_rfl) (by simp) ?_
            refine AllReady.cons rfl (fun K hK => ?_) AllReady.nil
            go_simp
            refine hK _ _ ?_
            clear hK K
            try simp only [Act.put]
            try simp only [List.setIfInBounds_toArray]
            try simp only [List.set]
            refine wpAny_ready (rs := [12]) (by kernel_rfl) (by simp) ?_
            refine AllReady.cons rfl (fun K hK => ?_) AllReady.nil
            go_simp
            refine hK _ _ ?_
            clear hK K
            try simp only [Act.put]
            try simp only [List.setIfInBounds_toArray]
            try simp only [List.set]
            refine wpAny_done (by kernel_rfl) ?_ _
            go_wp2_with fail
            go_meet
            exact newly_of HX2.out HQ4.out HCB2.out hq1B hq2B hXB hq1X hq2X (by omega) hGb hra2 hrb hga2 hgb2
          refine Tail.AllHead.cons rfl (fun K hK => ?_) Tail.AllHead.nil
          focus
            go_simp
            refine hK.out _ _ (heldX (by repeat (first | exact HX2.out | exact hXa | refine blk_drew ?_ | refine blk_alloc ?_))) (fun hHeld => ?_)
            clear hK K
            try simp only [Act.put]
            try simp only [List.setIfInBounds_toArray]
            try simp only [List.set]
            refine Tail.head_ready (rs := [4]) (by kernel_rfl) (by simp) (by kernel_rfl) ?_
            refine Tail.AllHead.cons rfl (fun K hK => ?_) Tail.AllHead.nil
            refine step_append_lies _ rfl (.tmp 23) (.tmp 25) 73 rfl 0 5 i0 (.int .u8 0) 1 1 Try.underlying73 hi hz0 hz1 hz2 rfl (by decide) (.slice (some ⟨q1, 0, none⟩) l.length r1) l.length (u8s (l.map (·.1))) (by simp [Act.eval]) (by repeat (first | exact HO1.out | refine own_drew ?_ | refine own_alloc _ ?_)) ⟨_, 0, none⟩ 1 1 [.int .u8 (s : Int)] (by first | (simp [Act.eval]; done) | (simp [Act.eval]; rfl)) rfl (new_cell (by repeat (first | exact blk_here (by simp) | refine blk_drew ?_ | refine blk_alloc ?_))) (ones8 s) (by decide) hb1 hb2 (Nat.zero_le _) _ rfl ?_
            intro ga pa wa hra hba hga hla
            have hGa : Grown w2 q1 q2 wa := Grown.app1 (by repeat (first | exact Grown.refl _ _ _ | refine Grown.drew ?_ | refine Grown.alloc _ ?_)) hba
            have hXa := (hGa.block X hxl (fun e => by rcases e with e | e <;> omega)).trans HX2.out
            have hO2a : wa.ownsRow 0 3 1 (.slice (some ⟨q2, 0, none⟩) l.length r2) l.length (i64s (l.map (·.2))) := own_kept (by repeat (first | exact HO2.out | refine own_drew ?_ | refine own_alloc _ ?_)) hba hq12
            have hga2 : W0.heap.size ≤ ga := by simp [Value.ownBlock] at hga; have := hsl2.out; omega
            have hNa : wa.heap[w2.heap.size + 1]? = some (.cells #[.int .i64 1] 3 (0, 0)) := (hba.block (w2.heap.size + 1) (by first | (simp; done) | (simp; omega)) (by simp [Value.ownBlock]; omega)).trans (by repeat (first | exact blk_here (by simp) | refine blk_drew ?_ | refine blk_alloc ?_))
            refine hK.out _ _ (heldX hXa) (fun hHeld => ?_)
            clear hK K
            try simp only [Act.put]
            try simp only [List.setIfInBounds_toArray]
            try simp only [List.set]
            refine Tail.head_take ok (i := 9) (v := ?tv7) rfl rfl (by kernel_rfl) (by kernel_rfl) (by kernel_rfl) (fun _ _ _ h => h) (Or.inl ⟨by rfl, ?th7⟩) (by assumption) ?tr7
            case th7 => (intro w hSw; (try dsimp only at hSw); go_simp; (try with_reducible rfl))
            try simp only [Act.put]
            try simp only [List.setIfInBounds_toArray]
            try simp only [List.set]
            refine Tail.head_ready (rs := [8]) (by kernel_rfl) (by simp) (by kernel_rfl) ?_
            refine Tail.AllHead.cons rfl (fun K hK => ?_) Tail.AllHead.nil
            refine step_append_lies _ rfl (.tmp 28) (.tmp 29) 35 rfl 0 3 j0 (.int .i64 0) 1 8 Try.underlying35 hj hy0 hy1 hy2 rfl (by decide) (.slice (some ⟨q2, 0, none⟩) l.length r2) l.length (i64s (l.map (·.2))) (by simp [Act.eval]) (by repeat (first | exact hO2a | refine own_drew ?_ | refine own_alloc _ ?_)) ⟨_, 0, none⟩ 1 1 [.int .i64 1] (by first | (simp [Act.eval]; done) | (simp [Act.eval]; rfl)) rfl (new_cell hNa) (ones64 1) (by decide) hb1 hb8 (Nat.zero_le _) _ rfl ?_
            intro gb pb wb hrb hbb hgb hlb
            have hGb : Grown w2 q1 q2 wb := Grown.app2 (by repeat (first | exact hGa | refine Grown.drew ?_ | refine Grown.alloc _ ?_)) hbb
            have hXb := (hGb.block X hxl (fun e => by rcases e with e | e <;> omega)).trans HX2.out
            have hra2 : wb.ownsRow 0 5 1 (.slice (some ⟨ga, 0, none⟩) (l.length + 1) pa) (l.length + 1) (u8s (l.map (·.1)) ++ [.int .u8 (s : Int)]) := own_kept (by repeat (first | exact hra | refine own_drew ?_ | refine own_alloc _ ?_)) hbb (own_apart hra hO2a (by decide))
            have hgb2 : W0.heap.size ≤ gb := by have h1 := hGa.size; simp [Value.ownBlock] at hgb; have := hsl2.out; omega
            obtain ⟨xb0, xb1, xfb0, xfb1, xlb⟩ := two hXb
            refine hK.out _ _ (heldX hXb) (fun hHeld => ?_)
            clear hK K
            try simp only [Act.put]
            try simp only [List.setIfInBounds_toArray]
            try simp only [List.set]
            refine Tail.head_done rfl ?_
            refine wpAny_ready (rs := [10]) (by kernel_rfl) (by simp) ?_
            refine AllReady.cons rfl (fun K hK => ?_) AllReady.nil
            go_simp
            refine hK _ _ ?_
            clear hK K
            try simp only [Act.put]
            try simp only [List.setIfInBounds_toArray]
            try simp only [List.set]
            refine wpAny_ready (rs := [11]) (by kernel_rfl) (by simp) ?_
            refine AllReady.cons rfl (fun K hK => ?_) AllReady.nil
            go_simp
            refine hK _ _ ?_
            clear hK K
            try simp only [Act.put]
            try simp only [List.setIfInBounds_toArray]
            try simp only [List.set]
            refine wpAny_ready (rs := [12]) (by kernel_rfl) (by simp) ?_
            refine AllReady.cons rfl (fun K hK => ?_) AllReady.nil
            go_simp
            refine hK _ _ ?_
            clear hK K
            try simp only [Act.put]
            try simp only [List.setIfInBounds_toArray]
            try simp only [List.set]
            refine wpAny_done (by kernel_rfl) ?_ _
            go_wp2_with fail
            go_meet
            exact newly_of HX2.out HQ4.out HCB2.out hq1B hq2B hXB hq1X hq2X (by omega) hGb hra2 hrb hga2 hgb2
        refine Tail.AllHead.cons rfl (fun K hK => ?_) Tail.AllHead.nil
        focus
          go_simp
          refine hK.out _ _ (heldX (by repeat (first | exact HX2.out | exact hXa | refine blk_drew ?_ | refine blk_alloc ?_))) (fun hHeld => ?_)
          clear hK K
          try simp only [Act.put]
          try simp only [List.setIfInBounds_toArray]
          try simp only [List.set]
          refine Tail.head_ready (rs := [3]) (by kernel_rfl) (by simp) (by kernel_rfl) ?_
          refine Tail.AllHead.cons rfl (fun K hK => ?_) Tail.AllHead.nil
          go_simp
          refine hK.out _ _ (heldX (by repeat (first | exact HX2.out | exact hXa | refine blk_drew ?_ | refine blk_alloc ?_))) (fun hHeld => ?_)
          clear hK K
          try simp only [Act.put]
          try simp only [List.setIfInBounds_toArray]
          try simp only [List.set]
          refine Tail.head_ready (rs := [4]) (by kernel_rfl) (by simp) (by kernel_rfl) ?_
          refine Tail.AllHead.cons rfl (fun K hK => ?_) Tail.AllHead.nil
          refine step_append_lies _ rfl (.tmp 23) (.tmp 25) 73 rfl 0 5 i0 (.int .u8 0) 1 1 Try.underlying73 hi hz0 hz1 hz2 rfl (by decide) (.slice (some ⟨q1, 0, none⟩) l.length r1) l.length (u8s (l.map (·.1))) (by simp [Act.eval]) (by repeat (first | exact HO1.out | refine own_drew ?_ | refine own_alloc _ ?_)) ⟨_, 0, none⟩ 1 1 [.int .u8 (s : Int)] (by first | (simp [Act.eval]; done) | (simp [Act.eval]; rfl)) rfl (new_cell (by repeat (first | exact blk_here (by simp) | refine blk_drew ?_ | refine blk_alloc ?_))) (ones8 s) (by decide) hb1 hb2 (Nat.zero_le _) _ rfl ?_
          intro ga pa wa hra hba hga hla
          have hGa : Grown w2 q1 q2 wa := Grown.app1 (by repeat (first | exact Grown.refl _ _ _ | refine Grown.drew ?_ | refine Grown.alloc _ ?_)) hba
          have hXa := (hGa.block X hxl (fun e => by rcases e with e | e <;> omega)).trans HX2.out
          have hO2a : wa.ownsRow 0 3 1 (.slice (some ⟨q2, 0, none⟩) l.length r2) l.length (i64s (l.map (·.2))) := own_kept (by repeat (first | exact HO2.out | refine own_drew ?_ | refine own_alloc _ ?_)) hba hq12
          have hga2 : W0.heap.size ≤ ga := by simp [Value.ownBlock] at hga; have := hsl2.out; omega
          have hNa : wa.heap[w2.heap.size]? = some (.cells #[.int .i64 1] 3 (0, 0)) := (hba.block (w2.heap.size) (by first | (simp; done) | (simp; omega)) (by simp [Value.ownBlock]; omega)).trans (by repeat (first | exact blk_here (by simp) | refine blk_drew ?_ | refine blk_alloc ?_))
          refine hK.out _ _ (heldX hXa) (fun hHeld => ?_)
          clear hK K
          try simp only [Act.put]
          try simp only [List.setIfInBounds_toArray]
          try simp only [List.set]
          refine Tail.head_take ok (i := 9) (v := ?tv8) rfl rfl (by kernel_rfl) (by kernel_rfl) (by kernel_rfl) (fun _ _ _ h => h) (Or.inl ⟨by rfl, ?th8⟩) (by assumption) ?tr8
          case th8 => (intro w hSw; (try dsimp only at hSw); go_simp; (try with_reducible rfl))
          try simp only [Act.put]
          try simp only [List.setIfInBounds_toArray]
          try simp only [List.set]
          refine Tail.head_ready (rs := [8]) (by kernel_rfl) (by simp) (by kernel_rfl) ?_
          refine Tail.AllHead.cons rfl (fun K hK => ?_) Tail.AllHead.nil
          refine step_append_lies _ rfl (.tmp 28) (.tmp 29) 35 rfl 0 3 j0 (.int .i64 0) 1 8 Try.underlying35 hj hy0 hy1 hy2 rfl (by decide) (.slice (some ⟨q2, 0, none⟩) l.length r2) l.length (i64s (l.map (·.2))) (by simp [Act.eval]) (by repeat (first | exact hO2a | refine own_drew ?_ | refine own_alloc _ ?_)) ⟨_, 0, none⟩ 1 1 [.int .i64 1] (by first | (simp [Act.eval]; done) | (simp [Act.eval]; rfl)) rfl (new_cell hNa) (ones64 1) (by decide) hb1 hb8 (Nat.zero_le _) _ rfl ?_
          intro gb pb wb hrb hbb hgb hlb
          have hGb : Grown w2 q1 q2 wb := Grown.app2 (by repeat (first | exact hGa | refine Grown.drew ?_ | refine Grown.alloc _ ?_)) hbb
          have hXb := (hGb.block X hxl (fun e => by rcases e with e | e <;> omega)).trans HX2.out
          have hra2 : wb.ownsRow 0 5 1 (.slice (some ⟨ga, 0, none⟩) (l.length + 1) pa) (l.length + 1) (u8s (l.map (·.1)) ++ [.int .u8 (s : Int)]) := own_kept (by repeat (first | exact hra | refine own_drew ?_ | refine own_alloc _ ?_)) hbb (own_apart hra hO2a (by decide))
          have hgb2 : W0.heap.size ≤ gb := by have h1 := hGa.size; simp [Value.ownBlock] at hgb; have := hsl2.out; omega
          obtain ⟨xb0, xb1, xfb0, xfb1, xlb⟩ := two hXb
          refine hK.out _ _ (heldX hXb) (fun hHeld => ?_)
          clear hK K
          try simp only [Act.put]
          try simp only [List.setIfInBounds_toArray]
          try simp only [List.set]
          refine Tail.head_done rfl ?_
          refine wpAny_ready (rs := [10]) (by kernel_rfl) (by simp) ?_
          refine AllReady.cons rfl (fun K hK => ?_) AllReady.nil
          go_simp
          refine hK _ _ ?_
          clear hK K
          try simp only [Act.put]
          try simp only [List.setIfInBounds_toArray]
          try simp only [List.set]
          refine wpAny_ready (rs := [11]) (by kernel_rfl) (by simp) ?_
          refine AllReady.cons rfl (fun K hK => ?_) AllReady.nil
          go_simp
          refine hK _ _ ?_
          clear hK K
          try simp only [Act.put]
          try simp only [List.setIfInBounds_toArray]
          try simp only [List.set]
          refine wpAny_ready (rs := [12]) (by kernel_rfl) (by simp) ?_
          refine AllReady.cons rfl (fun K hK => ?_) AllReady.nil
          go_simp
          refine hK _ _ ?_
          clear hK K
          try simp only [Act.put]
          try simp only [List.setIfInBounds_toArray]
          try simp only [List.set]
          refine wpAny_done (by kernel_rfl) ?_ _
          go_wp2_with fail
          go_meet
          exact newly_of HX2.out HQ4.out HCB2.out hq1B hq2B hXB hq1X hq2X (by omega) hGb hra2 hrb hga2 hgb2
        -- END app
      case rest =>
        -- BEGIN appr
        obtain ⟨ga, pa, gb, pb, hX3, hQ3, hR3, hb3, hga, hgb⟩ := hcut
        have HE2 := Lib.hid (ends (u1 := .slice (some ⟨ga, 0, none⟩) (l.length + 1) pa) (u2 := .slice (some ⟨gb, 0, none⟩) (l.length + 1) pb) hR3 hQ3 (HB0.out.trans (hb3.mono (by omega))))
        clear x0 x1 xf0 xf1
        obtain ⟨x0, x1, xf0, xf1, hxl3⟩ := two hX3
        obtain ⟨y0, y1, yf0, yf1, hyl3⟩ := two hQ3
        clear hX3 hQ3 hR3 hb3
        go_wp2_with fail
        refine bodyPost_ret (v := .agg #[.slice (some ⟨ga, 0, none⟩) (l.length + 1) pa, .slice (some ⟨gb, 0, none⟩) (l.length + 1) pb]) ?_ rfl ?_
        · simp [results, Try.results83, go_sem, y0, y1]
        · exact ⟨_, _, rfl, HE2.out.1.again HAD.out.symm, by rw [HBB.out]; exact HE2.out.2, fun j hj => by simp [Value.ownBlock] at hj; have := HBB.out; omega, fun j hj => by simp [Value.ownBlock] at hj; have := HBB.out; omega⟩
        -- END appr
      -- END new
end Go.Proofs.Yteacmcckhjabmaa.Fq
