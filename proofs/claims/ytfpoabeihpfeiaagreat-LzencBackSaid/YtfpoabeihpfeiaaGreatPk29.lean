/-
  Package model: what a new model is made of: start, trees; lengths, distances.
  Package model: what a new model is made of: distances.
  Package model: the probabilities of a new model.
-/
import Derived.Test.YtfpoabeihpfeiaaGreatPk13
import Derived.Test.YtfpoabeihpfeiaaGreatPk14
import Derived.Deep.RegionHeld3
import Derived.BigRegion
import Derived.Laws.Tables
import Derived.Laws.Rows
set_option maxRecDepth 100000
set_option maxHeartbeats 16000000
set_option linter.unusedVariables false
set_option linter.unusedSimpArgs false
open Go.Lib (hid)
section
namespace Go.Proofs.YtfpoabeihpfeiaaGreat.Mo
open Go.RowKit
open Rc
def starts (w : World) (k off : Nat) : Nat -> World
 | 0 => w
 | n + 1 => (starts w k off n).setCell ⟨k, off + n, none⟩ (.int .u16 1024)
theorem starts_frame (w : World) (k off n : Nat) : Frame (fun j => j = k) w (starts w k off n) := by
 induction n with
 | zero => exact Frame.refl _ _
 | succ n ih => exact ih.setCell (p := ⟨k, off + n, none⟩) (.inl rfl) _
theorem starts_in {w : World} {k off : Nat} : ∀ (n j : Nat), j < n -> (w.cell? ⟨k, off + j, none⟩).isSome = true -> (starts w k off n).cell? ⟨k, off + j, none⟩ = some (.int .u16 1024)
 | 0, j, h, _ => by omega
 | n + 1, j, h, hc => by
  show ((starts w k off n).setCell ⟨k, off + n, none⟩ (.int .u16 1024)).cell? ⟨k, off + j, none⟩ = _
  by_cases e : j = n
  · subst e
    obtain ⟨u, hu⟩ : ∃ u, (starts w k off j).cell? ⟨k, off + j, none⟩ = some u := by
     have hh : ∀ n, n <= j -> ((starts w k off n).cell? ⟨k, off + j, none⟩).isSome = true := by
      intro n
      induction n with
      | zero => exact fun _ => hc
      | succ n ih =>
       intro hn
       show (((starts w k off n).setCell ⟨k, off + n, none⟩ (.int .u16 1024)).cell? ⟨k, off + j, none⟩).isSome = true
       rw [World.cell?_setCell_other _ _ _ _ (by intro e; injection e with _ e2 _; omega)]
       exact ih (by omega)
     exact Option.isSome_iff_exists.1 (hh j (Nat.le_refl _))
    exact World.cell?_setCell_same _ _ _ hu
  · rw [World.cell?_setCell_other _ _ _ _ (by intro e2; injection e2 with _ e3 _; omega)]
    exact starts_in n j (by omega) hc
theorem starts_out {w : World} {k off i : Nat} : ∀ (n : Nat), (i < off \/ off + n <= i) -> (starts w k off n).cell? ⟨k, i, none⟩ = w.cell? ⟨k, i, none⟩
 | 0, _ => rfl
 | n + 1, h => by
  show ((starts w k off n).setCell ⟨k, off + n, none⟩ (.int .u16 1024)).cell? ⟨k, i, none⟩ = _
  rw [World.cell?_setCell_other _ _ _ _ (by intro e2; injection e2 with _ e3 _; omega)]
  exact starts_out n (by omega)
theorem starts_frozen (w : World) (k off n : Nat) (a : Addr) : (starts w k off n).frozen? a = w.frozen? a := by
 induction n with
 | zero => rfl
 | succ n ih =>
  show ((starts w k off n).setCell ⟨k, off + n, none⟩ (.int .u16 1024)).frozen? a = _
  rw [World.frozen?_setCell]; exact ih
theorem start_any (w : World) (k off n cap : Nat) (hn : n <= 1000000) (hc : ∀ j, j < n -> (w.cell? ⟨k, off + j, none⟩).isSome = true /\ w.frozen? ⟨k, off + j, none⟩ = false) :
  Calls Tryz.prog 69 #[.slice (some ⟨k, off, none⟩) n cap] w fun x w' => x = .returned (.tuple #[]) /\ w' = starts w k off n := by
 have HC := hid hc
 clear hc
 go_enter Tryz.func69, Tryz.ntmps69
 go_wp2_with fail
 go_loopw [2, 5] (fun _ i wr => ∃ j : Nat, j <= n /\ i = .int .i64 j /\ wr = starts w k off j) (fun _ i _ => n - (intOf i).toNat)
 case atStart => exact ⟨0, by omega, rfl, rfl⟩
 case round =>
  obtain ⟨j, hj, rfl, rfl⟩ := hrel
  by_cases hlt : j < n
  · obtain ⟨h1, h2⟩ := HC.out j hlt
    obtain ⟨u, hu⟩ := Option.isSome_iff_exists.1 h1
    have c1 : (starts w k off j).cell? ⟨k, off + j, none⟩ = some u := by rw [starts_out j (by omega)]; exact hu
    have f1 : (starts w k off j).frozen? ⟨k, off + j, none⟩ = false := by rw [starts_frozen]; exact h2
    have HS := hid (show (starts w k off j).setCell ⟨k, off + j, none⟩ (.int .u16 1024) = starts w k off (j + 1) from rfl)
    generalize starts w k off j = wj at *
    clear h1 h2 hu
    go_wp2_with fail
    go_roundw
    case rel => exact ⟨j + 1, by omega, by go_num, HS.out⟩
    case measure => simp [intOf]; omega
  · obtain rfl : j = n := by omega
    go_wp2_with fail
    first | go_end0 | (simp only [Exit.inBlock, Exit.then]; refine bodyPost_ret (results_none rfl _ _ _) rfl ?_) | refine bodyPost_ret (results_none rfl _ _ _) rfl ?_
    exact ⟨rfl, rfl⟩
def tre (N : Nat) : Obj := .cells (Array.replicate N (.int .u16 1024)) 133 (0, 0)
theorem tree_new (n : Nat) (hn : n <= 16) (w : World) :
  Calls Tryz.prog 70 #[.int .i64 n] w fun x w' => x = .returned (.slice (some ⟨w.heap.size, 0, none⟩) (2 ^ n) (2 ^ n)) /\ Below w.heap.size w w' /\ w'.heap[w.heap.size]? = some (tre (2 ^ n)) := by
 refine (new_at (n : Int) n hn (.inl rfl) w (fun _ => 0) 1).mono ?_
 rintro x w' ⟨rfl, O', hs, ht⟩
 refine ⟨rfl, hs.below (Nat.le_refl _) (fun _ _ => by simp), ?_⟩
 have hp : 0 < 2 ^ n := Nat.two_pow_pos n
 rcases ht.row.2 with ⟨h1, h2⟩ | ⟨g, cap, cur, h1, _, hg, _, _, h3, h4⟩
 · cases h1
 · injection h1 with e1 e2 e3
   injection e1 with e1
   injection e1 with e1 _ _
   subst e1
   rw [hg]
   unfold tre
   have hl : (u16s (List.replicate (2 ^ n) 1024)).length = 2 ^ n := by simp [u16s]
   have hc : cur = Array.replicate (2 ^ n) (.int .u16 1024) := by
    have h5 : cur.toList = u16s (List.replicate (2 ^ n) 1024) := by
     rw [<- h4, hl, List.take_of_length_le]
     rw [Array.length_toList, h3]
     omega
    apply Array.ext'
    rw [h5]
    simp [u16s]
   rw [hc]
theorem tree_at {w : World} {O : Paint} {c g N n : Nat} (h : w.heap[g]? = some (tre N)) (hc : O g = c) (hn : n <= N) (hN : N <= 65536) : TreeAt w O c (.slice (some ⟨g, 0, none⟩) n N) (List.replicate n 1024) := by
 refine ⟨⟨by simp, .inr ⟨g, N, _, by simp [u16s], Nat.zero_le _, h, by simp [u16s]; exact hn, by unfold maxLen; omega, by simp, ?_⟩⟩, fun k hk => by simp [Value.ownBlock] at hk; subst hk; exact hc⟩
 simp [u16s, Nat.min_eq_left hn]
structure Lens (w : World) (B n : Nat) (A : Array Value) (g : Nat -> Nat) : Prop where
 size : A.size = 35
 one : A[0]? = some (.int .u16 1024) /\ A[1]? = some (.int .u16 1024)
 near : ∀ j, j < n -> A[2 + j]? = some (.slice (some ⟨g j, 0, none⟩) 8 8)
 mid : ∀ j, j < n -> A[18 + j]? = some (.slice (some ⟨g (16 + j), 0, none⟩) 8 8)
 far : A[34]? = some (.slice (some ⟨g 32, 0, none⟩) 256 256)
 lo : ∀ j, (j < n \/ 16 <= j /\ j < 16 + n) -> B <= g j /\ w.heap[g j]? = some (tre 8)
 hi : B <= g 32 /\ w.heap[g 32]? = some (tre 256)
 inj : ∀ i j, (i < n \/ 16 <= i /\ i < 16 + n \/ i = 32) -> (j < n \/ 16 <= j /\ j < 16 + n \/ j = 32) -> g i = g j -> i = j
theorem wpList_build_some {P : Program} {ops : Array Oper} {rest : List Oper} {o : Oper} {a : Act} {w : World} {Q : Exit -> Act -> World -> Prop} (hg : o.guard = none) (t : TypeId) (parts : Array (Nat × Operand)) (ho : o.op = .build t parts) (cells : Array Value)
  (hc : P.built t (parts.map fun (i, x) => (i, a.eval x)).toList = some cells) (h : wpList P ops Q rest (a.put o.dst (.agg cells)) w) : wpList P ops Q (o :: rest) a w := wpList_build hg t parts ho (by rw [hc]; rfl) (by rw [hc]; exact h)
theorem frame_setRow {own : Nat -> Prop} {w w' : World} (h : Frame own w w') {g : Nat} (hg : own g \/ w.heap.size <= g) (cs : Array Value) : Frame own w (w'.setRow g cs) :=
 ⟨h.os, h.tape, h.output, by rw [setRow_size]; exact h.size, fun k hk hn => (setRow_other w' g k cs (by rintro rfl; rcases hg with hg | hg; exact hn hg; omega)).trans (h.block k hk hn)⟩
theorem below_frame {B : Nat} {w w' w'' : World} {own : Nat -> Prop} (h : Below B w w') (hB : B <= w'.heap.size) (hf : Frame own w' w'') (hn : ∀ k, own k -> B <= k) : Below B w w'' := h.trans (hf.below hB (fun k hk ho => by have := hn k ho; omega))
theorem Lens.lt {w : World} {B n : Nat} {A : Array Value} {g : Nat -> Nat} (h : Lens w B n A g) (j : Nat) (hj : j < n \/ 16 <= j /\ j < 16 + n \/ j = 32) : B <= g j /\ g j < w.heap.size := by
 rcases hj with hj | hj | rfl
 · exact ⟨(h.lo j (.inl hj)).1, lt_of_heap (h.lo j (.inl hj)).2⟩
 · exact ⟨(h.lo j (.inr hj)).1, lt_of_heap (h.lo j (.inr hj)).2⟩
 · exact ⟨h.hi.1, lt_of_heap h.hi.2⟩
theorem Lens.frame {own : Nat -> Prop} {w w' : World} {B n : Nat} {A : Array Value} {g : Nat -> Nat} (h : Lens w B n A g) (hf : Frame own w w') (hn : ∀ j, (j < n \/ 16 <= j /\ j < 16 + n \/ j = 32) -> ¬ own (g j)) : Lens w' B n A g :=
 ⟨h.size, h.one, h.near, h.mid, h.far, fun j hj => ⟨(h.lo j hj).1, (hf.block _ (lt_of_heap (h.lo j hj).2) (hn j (by omega))).trans (h.lo j hj).2⟩, ⟨h.hi.1, (hf.block _ (lt_of_heap h.hi.2) (hn 32 (by omega))).trans h.hi.2⟩, h.inj⟩
theorem Lens.more {w w' : World} {B n b1 b2 : Nat} {A : Array Value} {g : Nat -> Nat} (h : Lens w B n A g) (hn : n < 16) (hb : Below w.heap.size w w') (h1 : B <= b1 /\ w.heap.size <= b1 /\ w'.heap[b1]? = some (tre 8)) (h2 : b1 < b2 /\ w'.heap[b2]? = some (tre 8)) :
  Lens w' B (n + 1) ((A.setIfInBounds (2 + n) (.slice (some ⟨b1, 0, none⟩) 8 8)).setIfInBounds (18 + n) (.slice (some ⟨b2, 0, none⟩) 8 8)) (fun j => if j = n then b1 else if j = 16 + n then b2 else g j) := by
 obtain ⟨h3, h4, h5⟩ := h1
 obtain ⟨h6, h7⟩ := h2
 have hs := h.size
 have hd : ∀ j, (j < n \/ 16 <= j /\ j < 16 + n \/ j = 32) -> g j < b1 := fun j hj => by have := (h.lt j hj).2; omega
 have hg : ∀ i v, i < 35 -> i ≠ 2 + n -> i ≠ 18 + n -> A[i]? = some v -> ((A.setIfInBounds (2 + n) (.slice (some ⟨b1, 0, none⟩) 8 8)).setIfInBounds (18 + n) (.slice (some ⟨b2, 0, none⟩) 8 8))[i]? = some v := fun i v hi e1 e2 hv => by
  rw [Array.getElem?_setIfInBounds_ne (Ne.symm e2), Array.getElem?_setIfInBounds_ne (Ne.symm e1)]; exact hv
 refine ⟨by simp [hs], ⟨hg 0 _ (by omega) (by omega) (by omega) h.one.1, hg 1 _ (by omega) (by omega) (by omega) h.one.2⟩, fun j hj => ?_, fun j hj => ?_, ?_, fun j hj => ?_, ?_, fun i j hi hj e => ?_⟩
 · by_cases e : j = n
   · subst e
     rw [Array.getElem?_setIfInBounds_ne (by omega), Array.getElem?_setIfInBounds_self_of_lt (by omega)]
     simp
   · rw [if_neg e, if_neg (by omega)]
     exact hg _ _ (by omega) (by omega) (by omega) (h.near j (by omega))
 · by_cases e : j = n
   · subst e
     rw [Array.getElem?_setIfInBounds_self_of_lt (by simp [hs]; omega)]
     simp
   · rw [if_neg (by omega), if_neg (by omega)]
     exact hg _ _ (by omega) (by omega) (by omega) (h.mid j (by omega))
 · rw [if_neg (by omega), if_neg (by omega)]
   exact hg _ _ (by omega) (by omega) (by omega) h.far
 · by_cases e : j = n
   · rw [if_pos e]; exact ⟨h3, h5⟩
   · rw [if_neg e]
     by_cases e2 : j = 16 + n
     · rw [if_pos e2]; exact ⟨by omega, h7⟩
     · rw [if_neg e2]
       obtain ⟨k1, k2⟩ := h.lo j (by omega)
       exact ⟨k1, (hb.block _ (lt_of_heap k2)).trans k2⟩
 · rw [if_neg (by omega), if_neg (by omega)]
   exact ⟨h.hi.1, (hb.block _ (lt_of_heap h.hi.2)).trans h.hi.2⟩
 · have k1 := hd i
   have k2 := hd j
   have k3 := h.inj i j
   (try simp only at e)
   split at e <;> split at e <;> (try split at e) <;> (try split at e) <;> first | omega | exact k3 (by omega) (by omega) e
theorem Lens.one_cell {w : World} {B : Nat} {A : Array Value} {g : Nat -> Nat} (h : Lens w B 16 A g) : A.all (·.oneCell') = true := by
 rw [Array.all_eq_true]
 intro i hi
 have hs := h.size
 have key : ∀ v, A[i]? = some v -> v.oneCell' = true -> (A[i].oneCell') = true := fun v hv ho => by
  rw [Array.getElem?_eq_getElem hi] at hv
  cases hv; exact ho
 rcases (show i = 0 \/ i = 1 \/ (∃ j, j < 16 /\ i = 2 + j) \/ (∃ j, j < 16 /\ i = 18 + j) \/ i = 34 from by
  by_cases h1 : i < 2
  · omega
  · by_cases h2 : i < 18
    · exact .inr (.inr (.inl ⟨i - 2, by omega, by omega⟩))
    · by_cases h3 : i < 34
      · exact .inr (.inr (.inr (.inl ⟨i - 18, by omega, by omega⟩)))
      · omega) with rfl | rfl | ⟨j, hj, rfl⟩ | ⟨j, hj, rfl⟩ | rfl
 · exact key _ h.one.1 rfl
 · exact key _ h.one.2 rfl
 · exact key _ (h.near j hj) rfl
 · exact key _ (h.mid j hj) rfl
 · exact key _ h.far rfl
def lens0 (g : Nat) : Array Value := #[.int .u16 1024, .int .u16 1024] ++ Array.replicate 32 (.slice none 0 0) ++ #[.slice (some ⟨g, 0, none⟩) 256 256]
theorem lens0_built (g : Nat) : Tryz.prog.built 138 [(0, .int .u16 1024), (1, .int .u16 1024), (4, .slice (some ⟨g, 0, none⟩) 256 256)] = some (lens0 g) := by
 kernel_rfl
theorem below_drewN_from {w w' : World} (h : Below w.drew.heap.size w.drew w') : Below w.heap.size w w' := (Frame.of_below_size (own := fun _ => False) h).from_drewN (n := 1) |>.below (Nat.le_refl _) (fun _ _ => id)
theorem tree_new3 (w : World) : Calls Tryz.prog 70 #[.int .i64 3] w fun x w' => x = .returned (.slice (some ⟨w.heap.size, 0, none⟩) 8 8) /\ Below w.heap.size w w' /\ w'.heap[w.heap.size]? = some (tre 8) := tree_new 3 (by omega) w
theorem lengths_new (w : World) : Calls Tryz.prog 67 #[] w fun x w' => ∃ A g, x = .returned (.agg A) /\ Below w.heap.size w w' /\ Lens w' w.heap.size 16 A g := by
 go_enter Tryz.func67, Tryz.ntmps67
 go_wp2_with fail
 have hz := heap_alloc_new w (.cells #[.int .u16 0, .int .u16 0, .slice none 0 0, .slice none 0 0, .slice none 0 0, .slice none 0 0, .slice none 0 0, .slice none 0 0, .slice none 0 0, .slice none 0 0, .slice none 0 0, .slice none 0 0, .slice none 0 0, .slice none 0 0, .slice none 0 0, .slice none 0 0, .slice none 0 0, .slice none 0 0, .slice none 0 0, .slice none 0 0, .slice none 0 0, .slice none 0 0, .slice none 0 0, .slice none 0 0, .slice none 0 0, .slice none 0 0, .slice none 0 0, .slice none 0 0, .slice none 0 0, .slice none 0 0, .slice none 0 0, .slice none 0 0, .slice none 0 0, .slice none 0 0, .slice none 0 0] 138)
 have hb1 : Below w.heap.size w (w.alloc (.cells #[.int .u16 0, .int .u16 0, .slice none 0 0, .slice none 0 0, .slice none 0 0, .slice none 0 0, .slice none 0 0, .slice none 0 0, .slice none 0 0, .slice none 0 0, .slice none 0 0, .slice none 0 0, .slice none 0 0, .slice none 0 0, .slice none 0 0, .slice none 0 0, .slice none 0 0, .slice none 0 0, .slice none 0 0, .slice none 0 0, .slice none 0 0, .slice none 0 0, .slice none 0 0, .slice none 0 0, .slice none 0 0, .slice none 0 0, .slice none 0 0, .slice none 0 0, .slice none 0 0, .slice none 0 0, .slice none 0 0, .slice none 0 0, .slice none 0 0, .slice none 0 0, .slice none 0 0] 138)) := (Below.refl _ _).alloc (Nat.le_refl _) _
 generalize hcs : (#[.int .u16 0, .int .u16 0, .slice none 0 0, .slice none 0 0, .slice none 0 0, .slice none 0 0, .slice none 0 0, .slice none 0 0, .slice none 0 0, .slice none 0 0, .slice none 0 0, .slice none 0 0, .slice none 0 0, .slice none 0 0, .slice none 0 0, .slice none 0 0, .slice none 0 0, .slice none 0 0, .slice none 0 0, .slice none 0 0, .slice none 0 0, .slice none 0 0, .slice none 0 0, .slice none 0 0, .slice none 0 0, .slice none 0 0, .slice none 0 0, .slice none 0 0, .slice none 0 0, .slice none 0 0, .slice none 0 0, .slice none 0 0, .slice none 0 0, .slice none 0 0, .slice none 0 0] : Array Value) = z0 at *
 have HZS := hid (show z0.size = 35 from by subst hcs; kernel_rfl)
 clear hcs
 generalize hW : w.alloc (.cells z0 138) = W1 at *
 have hsz : W1.heap.size = w.heap.size + 1 := by rw [<- hW, World.size_alloc]
 have HSZ := hid hsz
 have HB1 := hid hb1
 have HZ := hid hz
 clear hW hsz hb1 hz
 refine (tree_new 8 (by omega) W1).mono ?_
 rintro x w2 ⟨rfl, hb2, ht2⟩
 rw [show (2 : Nat) ^ 8 = 256 from rfl, HSZ.out] at ht2
 rw [show (2 : Nat) ^ 8 = 256 from rfl, HSZ.out]
 have HB2 := hid (HB1.out.trans (hb2.mono HB1.out.size))
 have HT2 := hid ht2
 have HZ2 := hid ((hb2.block w.heap.size (by rw [HSZ.out]; omega)).trans HZ.out)
 have HL := hid (lens0_built (w.heap.size + 1))
 clear hb2 ht2 HZ HB1
 generalize hP : w.heap.size = P at *
 go_upto_region 2 with (first | (refine wpList_build_some rfl 138 _ rfl (lens0 (P + 1)) (by exact HL.out) ?_) | (refine wpList_store_row rfl 138 _ _ rfl w2.heap.size (lens0 (P + 1)) rfl rfl 138 _ (heap_alloc_new w2 _) (by kernel_rfl) (by kernel_rfl) (by kernel_rfl) ?_) | fail)
 have hPX : P + 1 < w2.heap.size := lt_of_heap HT2.out
 have hX := setRow_heap (w2.alloc (.cells #[.int .u16 0, .int .u16 0, .slice none 0 0, .slice none 0 0, .slice none 0 0, .slice none 0 0, .slice none 0 0, .slice none 0 0, .slice none 0 0, .slice none 0 0, .slice none 0 0, .slice none 0 0, .slice none 0 0, .slice none 0 0, .slice none 0 0, .slice none 0 0, .slice none 0 0, .slice none 0 0, .slice none 0 0, .slice none 0 0, .slice none 0 0, .slice none 0 0, .slice none 0 0, .slice none 0 0, .slice none 0 0, .slice none 0 0, .slice none 0 0, .slice none 0 0, .slice none 0 0, .slice none 0 0, .slice none 0 0, .slice none 0 0, .slice none 0 0, .slice none 0 0, .slice none 0 0] 138)) w2.heap.size _ (lens0 (P + 1)) _ _ (heap_alloc_new w2 _)
 have hF : Frame (fun _ => False) w2 ((w2.alloc (.cells #[.int .u16 0, .int .u16 0, .slice none 0 0, .slice none 0 0, .slice none 0 0, .slice none 0 0, .slice none 0 0, .slice none 0 0, .slice none 0 0, .slice none 0 0, .slice none 0 0, .slice none 0 0, .slice none 0 0, .slice none 0 0, .slice none 0 0, .slice none 0 0, .slice none 0 0, .slice none 0 0, .slice none 0 0, .slice none 0 0, .slice none 0 0, .slice none 0 0, .slice none 0 0, .slice none 0 0, .slice none 0 0, .slice none 0 0, .slice none 0 0, .slice none 0 0, .slice none 0 0, .slice none 0 0, .slice none 0 0, .slice none 0 0, .slice none 0 0, .slice none 0 0, .slice none 0 0] 138)).setRow w2.heap.size (lens0 (P + 1))) := frame_setRow ((Frame.refl _ w2).alloc _) (.inr (Nat.le_refl _)) _
 generalize (w2.alloc (.cells #[.int .u16 0, .int .u16 0, .slice none 0 0, .slice none 0 0, .slice none 0 0, .slice none 0 0, .slice none 0 0, .slice none 0 0, .slice none 0 0, .slice none 0 0, .slice none 0 0, .slice none 0 0, .slice none 0 0, .slice none 0 0, .slice none 0 0, .slice none 0 0, .slice none 0 0, .slice none 0 0, .slice none 0 0, .slice none 0 0, .slice none 0 0, .slice none 0 0, .slice none 0 0, .slice none 0 0, .slice none 0 0, .slice none 0 0, .slice none 0 0, .slice none 0 0, .slice none 0 0, .slice none 0 0, .slice none 0 0, .slice none 0 0, .slice none 0 0, .slice none 0 0, .slice none 0 0] 138)).setRow w2.heap.size (lens0 (P + 1)) = W3 at *
 have HF := hid hF
 have hB3 := below_frame HB2.out (by omega) hF (fun _ h => h.elim)
 have hz3 := (hF.block P (by omega) (fun h => h)).trans HZ2.out
 have ht3 := (hF.block (P + 1) hPX (fun h => h)).trans HT2.out
 have H0 : Hid (Lens W3 (P + 1) 0 (lens0 (P + 1)) (fun _ => P + 1)) := hid ⟨by kernel_rfl, ⟨by kernel_rfl, by kernel_rfl⟩, fun j hj => by omega, fun j hj => by omega, by kernel_rfl, fun j hj => by omega, ⟨Nat.le_refl _, ht3⟩, fun i j hi hj _ => by omega⟩
 have HX := hid hX
 have HB3 := hid hB3
 have HZ3 := hid hz3
 generalize hXe : w2.heap.size = X at *
 clear hF hX hB3 hz3 ht3 HL HF HT2 HB2 HZ2 hXe
 go_wp2_with fail
 go_loopw [2, 5] (fun _ i wr => ∃ (k : Nat) (A : Array Value) (g : Nat -> Nat), k <= 16 /\ i = .int .i64 k /\ wr.heap[X]? = some (.cells A 138 (0, 0)) /\ wr.heap[P]? = some (.cells z0 138 (0, 0)) /\ Lens wr (P + 1) k A g /\ Below P w wr /\ ∀ j, (j < k \/ 16 <= j /\ j < 16 + k \/ j = 32) -> g j ≠ X) (fun _ i _ => 16 - (intOf i).toNat)
 case atStart => exact ⟨0, _, _, by omega, rfl, HX.out, HZ3.out, H0.out, HB3.out, fun _ _ => by omega⟩
 case round =>
  clear HX HZ3 H0 HB3
  obtain ⟨k, A, g, hk, rfl, hX, hz, hl, hb, hne⟩ := hrel
  have HX := hid hX
  have HZ := hid hz
  have HLE := hid hl
  have HB := hid hb
  have HNE := hid hne
  have hXl := lt_of_heap hX
  have hPs := lt_of_heap hz
  clear hX hz hl hb hne
  by_cases hlt : k < 16
  · obtain ⟨y1, a1⟩ : ∃ y, A[2 + k]? = some y := ⟨_, Array.getElem?_eq_getElem (by rw [HLE.out.size]; omega)⟩
    obtain ⟨y2, a2⟩ : ∃ y, A[18 + k]? = some y := ⟨_, Array.getElem?_eq_getElem (by rw [HLE.out.size]; omega)⟩
    have hX : wr.drew.heap[X]? = some (.cells A 138 (0, 0)) := HX.out
    go_upto_region 5 with (fail)
    go_region_held3 (fun _ => True) (first | exact trivial | go_keep) (first | (go_at_call 70; (with_reducible refine (tree_new3 wr.drew).mono ?_); rintro x wa ⟨rfl, hba, hta⟩; have hXa := (hba.block X hXl).trans hX) | (go_at_call 70; (with_reducible refine (tree_new3 _).mono ?_); rintro x wb ⟨rfl, hbb, htb⟩; have hXb := (hbb.block X (lt_of_heap hXa)).trans hXa; have c1 := cell_of_row wb X (2 + k) _ _ _ hXb; have c2 := cell_of_row wb X (18 + k) _ _ _ hXb; have f1 := frozen_of_row wb X (2 + k) _ _ hXb; have f2 := frozen_of_row wb X (18 + k) _ _ hXb; rw [a1] at c1; rw [a2] at c2; have c3 := World.cell?_setCell_other wb ⟨X, 2 + k, none⟩ ⟨X, 18 + k, none⟩))
    all_goals
     have hsa : wr.heap.size <= wa.heap.size := hba.size
     have hta1 : wr.heap.size < wa.heap.size := lt_of_heap hta
     have hba' : Below wr.heap.size wr wa := below_drewN_from hba
     have hM := HLE.out.more hlt (hba'.trans (hbb.mono hsa)) (b1 := wr.heap.size) (b2 := wa.heap.size) ⟨by omega, Nat.le_refl _, (hbb.block _ hta1).trans hta⟩ ⟨hta1, htb⟩
     have hfr : Frame (fun j => j = X) wb ((wb.setCell ⟨X, 2 + k, none⟩ (.slice (some ⟨wr.heap.size, 0, none⟩) 8 8)).setCell ⟨X, 18 + k, none⟩ (.slice (some ⟨wa.heap.size, 0, none⟩) 8 8)) := ((Frame.refl (fun j => j = X) wb).setCell (p := ⟨X, 2 + k, none⟩) (.inl rfl) _).setCell (p := ⟨X, 18 + k, none⟩) (.inl rfl) _
     have hne : ∀ j, (j < k + 1 \/ 16 <= j /\ j < 16 + (k + 1) \/ j = 32) -> (if j = k then wr.heap.size else if j = 16 + k then wa.heap.size else g j) ≠ X := fun j hj => by
      split
      · omega
      · split
        · omega
        · exact HNE.out j (by omega)
     have HM := hid (hM.frame hfr hne)
     have HNE1 := hid hne
     have HX1 := hid (heap_setCell_same _ _ (18 + k) _ _ (.slice (some ⟨wa.heap.size, 0, none⟩) 8 8) (heap_setCell_same wb X (2 + k) _ _ (.slice (some ⟨wr.heap.size, 0, none⟩) 8 8) hXb))
     have hbw := HB.out.trans ((hba'.trans (hbb.mono hsa)).mono (by omega))
     have HB1 := hid (below_frame hbw (by have := hbb.size; omega) hfr (fun _ e => by omega))
     have HZ1 := hid ((hfr.block P (by have := hbb.size; omega) (by omega)).trans ((hbb.block P (by omega)).trans ((hba'.block P hPs).trans HZ.out)))
     clear hba hta hba' hbb htb hXa hXb c1 c2 c3 f1 f2 hM hfr hne hbw hX a1 a2 HX HZ HLE HB HNE
     generalize (wb.setCell ⟨X, 2 + k, none⟩ (.slice (some ⟨wr.heap.size, 0, none⟩) 8 8)).setCell ⟨X, 18 + k, none⟩ (.slice (some ⟨wa.heap.size, 0, none⟩) 8 8) = W4 at *
     go_wp2_with fail
     go_roundw
     case rel => exact ⟨k + 1, _, _, by omega, by go_num, HX1.out, HZ1.out, HM.out, HB1.out, HNE1.out⟩
     case measure => simp [intOf]; omega
  · obtain rfl : k = 16 := by omega
    go_upto_region 7 with (fail)
    go_wp2_with (first | (refine wpList_load_row rfl 138 _ rfl X rfl 138 A _ _ HX.out rfl rfl (by rw [HLE.out.size]; rfl) ?_) | (refine wpList_store_row rfl 138 _ _ rfl P A rfl rfl 138 z0 HZ.out (by rw [HLE.out.size]; rfl) (by rw [HLE.out.size]; exact HZS.out) HLE.out.one_cell ?_))
    have hG := setRow_heap wr P z0 A _ _ HZ.out
    have hfr : Frame (fun j => j = P) wr (wr.setRow P A) := frame_setRow (Frame.refl (fun j => j = P) wr) (g := P) (.inl rfl) A
    have hL := HLE.out.frame hfr (fun j hj e => by have := (HLE.out.lt j hj).1; omega)
    have hBB := below_frame HB.out (by omega) hfr (fun _ e => by omega)
    refine bodyPost_ret (v := .agg A) (results_cell_row rfl _ _ P 138 A _ _ rfl hG rfl rfl (by rw [HLE.out.size]; rfl)) rfl ?_
    rw [hP]
    exact ⟨A, g, rfl, hBB, ⟨hL.size, hL.one, hL.near, hL.mid, hL.far, fun j hj => ⟨by have := (hL.lo j hj).1; omega, (hL.lo j hj).2⟩, ⟨by have := hL.hi.1; omega, hL.hi.2⟩, hL.inj⟩⟩
end Go.Proofs.YtfpoabeihpfeiaaGreat.Mo
end
section
namespace Go.Proofs.YtfpoabeihpfeiaaGreat.Mo
open Go.RowKit
open Rc
def dw (j : Nat) : Nat := if j < 4 then 6 else if j < 18 then St.more (j - 4) else 4
theorem dw_le (j : Nat) : dw j <= 6 := by unfold dw St.more; (repeat' split) <;> omega
structure Dists (w : World) (B n : Nat) (A : Array Value) (g : Nat -> Nat) : Prop where
 size : A.size = 19
 part : ∀ j, (j < n \/ j = 18) -> A[j]? = some (.slice (some ⟨g j, 0, none⟩) (2 ^ dw j) (2 ^ dw j)) /\ B <= g j /\ w.heap[g j]? = some (tre (2 ^ dw j))
 inj : ∀ i j, (i < n \/ i = 18) -> (j < n \/ j = 18) -> g i = g j -> i = j
theorem Dists.lt {w : World} {B n : Nat} {A : Array Value} {g : Nat -> Nat} (h : Dists w B n A g) (j : Nat) (hj : j < n \/ j = 18) : B <= g j /\ g j < w.heap.size := ⟨(h.part j hj).2.1, lt_of_heap (h.part j hj).2.2⟩
theorem Dists.frame {own : Nat -> Prop} {w w' : World} {B n : Nat} {A : Array Value} {g : Nat -> Nat} (h : Dists w B n A g) (hf : Frame own w w') (hn : ∀ j, (j < n \/ j = 18) -> ¬ own (g j)) : Dists w' B n A g :=
 ⟨h.size, fun j hj => ⟨(h.part j hj).1, (h.part j hj).2.1, (hf.block _ (lt_of_heap (h.part j hj).2.2) (hn j hj)).trans (h.part j hj).2.2⟩, h.inj⟩
theorem Dists.more {w w' : World} {B n b : Nat} {A : Array Value} {g : Nat -> Nat} (h : Dists w B n A g) (hn : n < 18) (hb : Below w.heap.size w w') (h1 : B <= b /\ w.heap.size <= b /\ w'.heap[b]? = some (tre (2 ^ dw n))) :
  Dists w' B (n + 1) (A.setIfInBounds n (.slice (some ⟨b, 0, none⟩) (2 ^ dw n) (2 ^ dw n))) (fun j => if j = n then b else g j) := by
 obtain ⟨h3, h4, h5⟩ := h1
 have hs := h.size
 have hd : ∀ j, (j < n \/ j = 18) -> g j < b := fun j hj => by have := (h.lt j hj).2; omega
 refine ⟨by simp [hs], fun j hj => ?_, fun i j hi hj e => ?_⟩
 · by_cases e : j = n
   · subst e
     simp only [if_true]
     exact ⟨Array.getElem?_setIfInBounds_self_of_lt (by omega), h3, h5⟩
   · rw [if_neg e, Array.getElem?_setIfInBounds_ne (Ne.symm e)]
     obtain ⟨k0, k1, k2⟩ := h.part j (by omega)
     exact ⟨k0, k1, (hb.block _ (lt_of_heap k2)).trans k2⟩
 · have k1 := hd i
   have k2 := hd j
   have k3 := h.inj i j
   (try simp only at e)
   split at e <;> split at e <;> first | omega | exact k3 (by omega) (by omega) e
theorem Dists.one_cell {w : World} {B : Nat} {A : Array Value} {g : Nat -> Nat} (h : Dists w B 18 A g) : A.all (·.oneCell') = true := by
 rw [Array.all_eq_true]
 intro i hi
 have hs := h.size
 have hv := (h.part i (by omega)).1
 rw [Array.getElem?_eq_getElem hi] at hv
 injection hv with hv
 rw [hv]
 rfl
def dists0 (g : Nat) : Array Value := Array.replicate 18 (.slice none 0 0) ++ #[.slice (some ⟨g, 0, none⟩) 16 16]
theorem dists0_built (g : Nat) : Tryz.prog.built 143 [(2, .slice (some ⟨g, 0, none⟩) 16 16)] = some (dists0 g) := by
 kernel_rfl
theorem tree_new4 (w : World) : Calls Tryz.prog 70 #[.int .i64 4] w fun x w' => x = .returned (.slice (some ⟨w.heap.size, 0, none⟩) 16 16) /\ Below w.heap.size w w' /\ w'.heap[w.heap.size]? = some (tre 16) := tree_new 4 (by omega) w
theorem tree_new6 (w : World) : Calls Tryz.prog 70 #[.int .i64 6] w fun x w' => x = .returned (.slice (some ⟨w.heap.size, 0, none⟩) 64 64) /\ Below w.heap.size w w' /\ w'.heap[w.heap.size]? = some (tre 64) := tree_new 6 (by omega) w
theorem Dists.round {w wr wa : World} {P X n : Nat} {A z0 : Array Value} {g : Nat -> Nat} (hD : Dists wr (P + 1) n A g) (hX : wr.heap[X]? = some (.cells A 143 (0, 0))) (hz : wr.heap[P]? = some (.cells z0 143 (0, 0))) (hb : Below P w wr) (hne : ∀ j, (j < n \/ j = 18) -> g j ≠ X) (hn : n < 18) (hXP : P < X)
  (hba : Below wr.heap.size wr wa) (hta : wa.heap[wr.heap.size]? = some (tre (2 ^ dw n))) :
  ∃ W, wa.setCell ⟨X, n, none⟩ (.slice (some ⟨wr.heap.size, 0, none⟩) (2 ^ dw n) (2 ^ dw n)) = W /\ ∃ A' g', W.heap[X]? = some (.cells A' 143 (0, 0)) /\ W.heap[P]? = some (.cells z0 143 (0, 0)) /\ Dists W (P + 1) (n + 1) A' g' /\ Below P w W /\ ∀ j, (j < n + 1 \/ j = 18) -> g' j ≠ X := by
 have hXl := lt_of_heap hX
 have hPs := lt_of_heap hz
 have hXa := (hba.block X hXl).trans hX
 have hfr : Frame (fun j => j = X) wa (wa.setCell ⟨X, n, none⟩ (.slice (some ⟨wr.heap.size, 0, none⟩) (2 ^ dw n) (2 ^ dw n))) := (Frame.refl (fun j => j = X) wa).setCell (p := ⟨X, n, none⟩) (.inl rfl) _
 have hM := hD.more hn hba (b := wr.heap.size) ⟨by omega, Nat.le_refl _, hta⟩
 have hne' : ∀ j, (j < n + 1 \/ j = 18) -> (if j = n then wr.heap.size else g j) ≠ X := fun j hj => by
  split
  · omega
  · exact hne j (by omega)
 exact ⟨_, rfl, _, _, heap_setCell_same _ _ n _ _ _ hXa, (hfr.block P (by have := hba.size; omega) (by omega)).trans ((hba.block P hPs).trans hz), hM.frame hfr hne', below_frame (hb.trans (hba.mono (by omega))) (by have := hba.size; omega) hfr (fun _ e => by omega), hne'⟩
theorem distances_new (w : World) : Calls Tryz.prog 68 #[] w fun x w' => ∃ A g, x = .returned (.agg A) /\ Below w.heap.size w w' /\ Dists w' w.heap.size 18 A g := by
 go_enter Tryz.func68, Tryz.ntmps68
 go_wp2_with fail
 have hz := heap_alloc_new w (.cells #[.slice none 0 0, .slice none 0 0, .slice none 0 0, .slice none 0 0, .slice none 0 0, .slice none 0 0, .slice none 0 0, .slice none 0 0, .slice none 0 0, .slice none 0 0, .slice none 0 0, .slice none 0 0, .slice none 0 0, .slice none 0 0, .slice none 0 0, .slice none 0 0, .slice none 0 0, .slice none 0 0, .slice none 0 0] 143)
 have hb1 : Below w.heap.size w (w.alloc (.cells #[.slice none 0 0, .slice none 0 0, .slice none 0 0, .slice none 0 0, .slice none 0 0, .slice none 0 0, .slice none 0 0, .slice none 0 0, .slice none 0 0, .slice none 0 0, .slice none 0 0, .slice none 0 0, .slice none 0 0, .slice none 0 0, .slice none 0 0, .slice none 0 0, .slice none 0 0, .slice none 0 0, .slice none 0 0] 143)) := (Below.refl _ _).alloc (Nat.le_refl _) _
 generalize hcs : (#[.slice none 0 0, .slice none 0 0, .slice none 0 0, .slice none 0 0, .slice none 0 0, .slice none 0 0, .slice none 0 0, .slice none 0 0, .slice none 0 0, .slice none 0 0, .slice none 0 0, .slice none 0 0, .slice none 0 0, .slice none 0 0, .slice none 0 0, .slice none 0 0, .slice none 0 0, .slice none 0 0, .slice none 0 0] : Array Value) = z0 at *
 have HZS := hid (show z0.size = 19 from by subst hcs; kernel_rfl)
 clear hcs
 generalize hW : w.alloc (.cells z0 143) = W1 at *
 have hsz : W1.heap.size = w.heap.size + 1 := by rw [<- hW, World.size_alloc]
 have HSZ := hid hsz
 have HB1 := hid hb1
 have HZ := hid hz
 clear hW hsz hb1 hz
 refine (tree_new4 W1).mono ?_
 rintro x w2 ⟨rfl, hb2, ht2⟩
 rw [HSZ.out] at ht2
 rw [HSZ.out]
 have HB2 := hid (HB1.out.trans (hb2.mono HB1.out.size))
 have HT2 := hid ht2
 have HZ2 := hid ((hb2.block w.heap.size (by rw [HSZ.out]; omega)).trans HZ.out)
 have HL := hid (dists0_built (w.heap.size + 1))
 clear hb2 ht2 HZ HB1
 generalize hP : w.heap.size = P at *
 go_upto_region 2 with (first | (refine wpList_build_some rfl 143 _ rfl (dists0 (P + 1)) (by exact HL.out) ?_) | (refine wpList_store_row rfl 143 _ _ rfl w2.heap.size (dists0 (P + 1)) rfl rfl 143 _ (heap_alloc_new w2 _) (by kernel_rfl) (by kernel_rfl) (by kernel_rfl) ?_) | fail)
 have hPX : P + 1 < w2.heap.size := lt_of_heap HT2.out
 have hX := setRow_heap (w2.alloc (.cells #[.slice none 0 0, .slice none 0 0, .slice none 0 0, .slice none 0 0, .slice none 0 0, .slice none 0 0, .slice none 0 0, .slice none 0 0, .slice none 0 0, .slice none 0 0, .slice none 0 0, .slice none 0 0, .slice none 0 0, .slice none 0 0, .slice none 0 0, .slice none 0 0, .slice none 0 0, .slice none 0 0, .slice none 0 0] 143)) w2.heap.size _ (dists0 (P + 1)) _ _ (heap_alloc_new w2 _)
 have hF : Frame (fun _ => False) w2 ((w2.alloc (.cells #[.slice none 0 0, .slice none 0 0, .slice none 0 0, .slice none 0 0, .slice none 0 0, .slice none 0 0, .slice none 0 0, .slice none 0 0, .slice none 0 0, .slice none 0 0, .slice none 0 0, .slice none 0 0, .slice none 0 0, .slice none 0 0, .slice none 0 0, .slice none 0 0, .slice none 0 0, .slice none 0 0, .slice none 0 0] 143)).setRow w2.heap.size (dists0 (P + 1))) := frame_setRow ((Frame.refl _ w2).alloc _) (.inr (Nat.le_refl _)) _
 generalize (w2.alloc (.cells #[.slice none 0 0, .slice none 0 0, .slice none 0 0, .slice none 0 0, .slice none 0 0, .slice none 0 0, .slice none 0 0, .slice none 0 0, .slice none 0 0, .slice none 0 0, .slice none 0 0, .slice none 0 0, .slice none 0 0, .slice none 0 0, .slice none 0 0, .slice none 0 0, .slice none 0 0, .slice none 0 0, .slice none 0 0] 143)).setRow w2.heap.size (dists0 (P + 1)) = W3 at *
 have HF := hid hF
 have hB3 := below_frame HB2.out (by omega) hF (fun _ h => h.elim)
 have hz3 := (hF.block P (by omega) (fun h => h)).trans HZ2.out
 have ht3 := (hF.block (P + 1) hPX (fun h => h)).trans HT2.out
 have H0 : Hid (Dists W3 (P + 1) 0 (dists0 (P + 1)) (fun _ => P + 1)) := hid ⟨by kernel_rfl, fun j hj => by
  obtain rfl : j = 18 := by omega
  exact ⟨by kernel_rfl, Nat.le_refl _, ht3⟩, fun i j hi hj _ => by omega⟩
 have HX := hid hX
 have HB3 := hid hB3
 have HZ3 := hid hz3
 generalize hXe : w2.heap.size = X at *
 clear hF hX hB3 hz3 ht3 HL HF HT2 HB2 HZ2 hXe
 go_wp2_with fail
 go_loopw [2, 8] (fun _ i wr => ∃ (k : Nat) (A : Array Value) (g : Nat -> Nat), k <= 4 /\ i = .int .i64 k /\ wr.heap[X]? = some (.cells A 143 (0, 0)) /\ wr.heap[P]? = some (.cells z0 143 (0, 0)) /\ Dists wr (P + 1) k A g /\ Below P w wr /\ ∀ j, (j < k \/ j = 18) -> g j ≠ X) (fun _ i _ => 4 - (intOf i).toNat)
 case atStart => exact ⟨0, _, _, by omega, rfl, HX.out, HZ3.out, H0.out, HB3.out, fun _ _ => by omega⟩
 case round =>
  clear HX HZ3 H0 HB3
  obtain ⟨k, A, g, hk, rfl, hX, hz, hl, hb, hne⟩ := hrel
  have HX := hid hX
  have HZ := hid hz
  have HLE := hid hl
  have HB := hid hb
  have HNE := hid hne
  have hXl := lt_of_heap hX
  clear hX hz hl hb hne
  by_cases hlt : k < 4
  · go_wp2_with fail
    refine (tree_new6 _).mono ?_
    rintro x wa ⟨rfl, hba, hta⟩
    obtain ⟨y1, a1⟩ : ∃ y, A[k]? = some y := ⟨_, Array.getElem?_eq_getElem (by rw [HLE.out.size]; omega)⟩
    have hXa := (hba.block X hXl).trans HX.out
    have c1 := cell_of_row wa X k _ _ _ hXa
    have f1 := frozen_of_row wa X k _ _ hXa
    rw [a1] at c1
    have hdw : (2 : Nat) ^ dw k = 64 := by unfold dw; rw [if_pos hlt]
    obtain ⟨W, hW, A', g', r1, r2, r3, r4, r5⟩ := HLE.out.round HX.out HZ.out HB.out HNE.out (by omega) (by omega) hba (by rw [hdw]; exact hta)
    rw [hdw] at hW
    have R1 := hid r1
    have R2 := hid r2
    have R3 := hid r3
    have R4 := hid r4
    have R5 := hid r5
    have HW := hid hW
    clear hW r1 r2 r3 r4 r5 hba hta hXa a1 HX HZ HLE HB HNE hdw
    go_wp2_with fail
    rw [HW.out]
    clear HW c1 f1
    go_wp2_with fail
    go_roundw
    case rel => exact ⟨k + 1, _, _, by omega, by go_num, R1.out, R2.out, R3.out, R4.out, R5.out⟩
    case measure => simp [intOf]; omega
  · obtain rfl : k = 4 := by omega
    go_wp2_with fail
    rw [show ((4 : Nat) : Int) = 4 from rfl]
    go_loopw [3, 4, 5, 16] (fun _ _ _ i wr => ∃ (k : Nat) (A : Array Value) (g : Nat -> Nat), k <= 14 /\ i = .int .i64 k /\ wr.heap[X]? = some (.cells A 143 (0, 0)) /\ wr.heap[P]? = some (.cells z0 143 (0, 0)) /\ Dists wr (P + 1) (4 + k) A g /\ Below P w wr /\ ∀ j, (j < 4 + k \/ j = 18) -> g j ≠ X) (fun _ _ _ i _ => 14 - (intOf i).toNat)
    case atStart => exact ⟨0, _, _, by omega, rfl, HX.out, HZ.out, HLE.out, HB.out, HNE.out⟩
    case round =>
     clear HX HZ HLE HB HNE hXl
     obtain ⟨k, A, g, hk, rfl, hX, hz, hl, hb, hne⟩ := hrel
     have HX := hid hX
     have HZ := hid hz
     have HLE := hid hl
     have HB := hid hb
     have HNE := hid hne
     have hXl := lt_of_heap hX
     clear hX hz hl hb hne
     by_cases hlt : k < 14
     · go_wp2_with fail
       refine (St.base_any (k : Int) (by omega) (by omega) _).mono ?_
       rintro x wx ⟨rfl, rfl⟩
       go_wp2_with fail
       have hdw : dw (4 + k) = St.more k := by
        unfold dw
        rw [if_neg (by omega), if_pos (by omega), Nat.add_sub_cancel_left]
       refine (tree_new (St.more k) (by have := dw_le (4 + k); omega) wr).mono ?_
       rintro x wa ⟨rfl, hba, hta⟩
       obtain ⟨y1, a1⟩ : ∃ y, A[4 + k]? = some y := ⟨_, Array.getElem?_eq_getElem (by rw [HLE.out.size]; omega)⟩
       have hXa := (hba.block X hXl).trans HX.out
       have c1 := cell_of_row wa X (4 + k) _ _ _ hXa
       have f1 := frozen_of_row wa X (4 + k) _ _ hXa
       rw [a1] at c1
       obtain ⟨W, hW, A', g', r1, r2, r3, r4, r5⟩ := HLE.out.round HX.out HZ.out HB.out HNE.out (by omega) (by omega) hba (by rw [hdw]; exact hta)
       rw [hdw] at hW
       have R1 := hid r1
       have R2 := hid r2
       have R3 := hid r3
       have R4 := hid r4
       have R5 := hid r5
       have HW := hid hW
       clear hW r1 r2 r3 r4 r5 hba hta hXa a1 HX HZ HLE HB HNE hdw
       go_wp2_with fail
       rw [HW.out]
       clear HW c1 f1
       go_wp2_with fail
       go_roundw
       case rel => exact ⟨k + 1, A', g', by omega, by go_num, R1.out, R2.out, R3.out, R4.out, R5.out⟩
       case measure => simp [intOf]; omega
     · obtain rfl : k = 14 := by omega
       go_upto_region 13 with (fail)
       go_wp2_with (first | (refine wpList_load_row rfl 143 _ rfl X rfl 143 A _ _ HX.out rfl rfl (by rw [HLE.out.size]; rfl) ?_) | (refine wpList_store_row rfl 143 _ _ rfl P A rfl rfl 143 z0 HZ.out (by rw [HLE.out.size]; rfl) (by rw [HLE.out.size]; exact HZS.out) HLE.out.one_cell ?_))
       have hG := setRow_heap wr P z0 A _ _ HZ.out
       have hfr : Frame (fun j => j = P) wr (wr.setRow P A) := frame_setRow (Frame.refl (fun j => j = P) wr) (g := P) (.inl rfl) A
       have hL := HLE.out.frame hfr (fun j hj e => by have := (HLE.out.lt j hj).1; omega)
       have hBB := below_frame HB.out (by omega) hfr (fun _ e => by omega)
       refine bodyPost_ret (v := .agg A) (results_cell_row rfl _ _ P 143 A _ _ rfl hG rfl rfl (by rw [HLE.out.size]; rfl)) rfl ?_
       rw [hP]
       exact ⟨A, g, rfl, hBB, ⟨hL.size, fun j hj => ⟨(hL.part j hj).1, by have := (hL.part j hj).2.1; omega, (hL.part j hj).2.2⟩, hL.inj⟩⟩
end Go.Proofs.YtfpoabeihpfeiaaGreat.Mo
end
section
namespace Go.Proofs.YtfpoabeihpfeiaaGreat.Mo
open Go.RowKit
open Rc
def laid (z : Array Value) (off : Nat) (v : Array Value) : Array Value := v.zipIdx.foldl (fun cs (c, j) => cs.setIfInBounds (off + j) c) z
theorem laidL (off : Nat) : ∀ (l : List Value) (k : Nat) (z : Array Value),
  ((l.zipIdx k).foldl (fun (cs : Array Value) (x : Value × Nat) => cs.setIfInBounds (off + x.2) x.1) z).size = z.size /\
  ∀ i, ((l.zipIdx k).foldl (fun (cs : Array Value) (x : Value × Nat) => cs.setIfInBounds (off + x.2) x.1) z)[i]? = if off + k <= i /\ i < off + k + l.length /\ i < z.size then l[i - (off + k)]? else z[i]?
 | [], k, z => ⟨rfl, fun i => by
  have e : ¬ (off + k <= i /\ i < off + k + ([] : List Value).length /\ i < z.size) := by simp; omega
  rw [if_neg e]; rfl⟩
 | c :: l, k, z => by
  obtain ⟨h1, h2⟩ := laidL off l (k + 1) (z.setIfInBounds (off + k) c)
  refine ⟨by rw [List.zipIdx_cons, List.foldl_cons, h1]; simp, fun i => ?_⟩
  rw [List.zipIdx_cons, List.foldl_cons, h2]
  simp only [Array.size_setIfInBounds, List.length_cons]
  by_cases e : i = off + k
  · subst e
    rw [if_neg (by omega)]
    by_cases hz : off + k < z.size
    · rw [if_pos ⟨by omega, by omega, hz⟩, Array.getElem?_setIfInBounds_self_of_lt hz, Nat.sub_self]
      rfl
    · rw [if_neg (by omega), Array.getElem?_eq_none (by simp; omega), Array.getElem?_eq_none (by omega)]
  · by_cases hc : off + (k + 1) <= i /\ i < off + (k + 1) + l.length /\ i < z.size
    · rw [if_pos hc, if_pos ⟨by omega, by omega, hc.2.2⟩, show i - (off + k) = (i - (off + (k + 1))) + 1 by omega, List.getElem?_cons_succ]
    · rw [if_neg hc, if_neg (by omega), Array.getElem?_setIfInBounds_ne (by omega)]
theorem laid_size (z : Array Value) (off : Nat) (v : Array Value) : (laid z off v).size = z.size := by
 unfold laid
 rw [<- Array.foldl_toList, Array.toList_zipIdx]
 exact (laidL off v.toList 0 z).1
theorem laid_in {z : Array Value} {off : Nat} {v : Array Value} (h : off + v.size <= z.size) {i : Nat} (hi : i < v.size) : (laid z off v)[off + i]? = v[i]? := by
 unfold laid
 rw [<- Array.foldl_toList, Array.toList_zipIdx]
 rw [show (fun (cs : Array Value) (x : Value × Nat) => match x with | (c, j) => cs.setIfInBounds (off + j) c) = fun cs x => cs.setIfInBounds (off + x.2) x.1 from rfl, (laidL off v.toList 0 z).2, if_pos (by simp; omega)]
 simp
theorem laid_out {z : Array Value} {off : Nat} {v : Array Value} {i : Nat} (hi : i < off \/ off + v.size <= i) : (laid z off v)[i]? = z[i]? := by
 unfold laid
 rw [<- Array.foldl_toList, Array.toList_zipIdx]
 rw [show (fun (cs : Array Value) (x : Value × Nat) => match x with | (c, j) => cs.setIfInBounds (off + j) c) = fun cs x => cs.setIfInBounds (off + x.2) x.1 from rfl, (laidL off v.toList 0 z).2, if_neg (by simp; omega)]
theorem fill_step {place : Nat -> Option (Nat × Nat)} {cells v : Array Value} {i off size : Nat} {rest : List (Nat × Value)} (h : place i = some (off, size)) (h1 : v.size = size) (h2 : off + size <= cells.size) :
  Instr.fill place cells ((i, .agg v) :: rest) = Instr.fill place (laid cells off v) rest := by
 subst h1
 simp only [Instr.fill, h]
 refine (if_neg ?_).trans rfl
 simp [Value.cells]
 omega
theorem built_fill {P : Program} {t : TypeId} {z : Value} {ps : List (Nat × Nat)} (hz : (P.info? t).bind (·.zero) = some z)
  (hp : (match P.underlying t with | some (.struct fields) => fields.toList.mapM (fun f => (P.info? f.type).map fun i => (f.offset, i.size)) | _ => none) = some ps) (parts : List (Nat × Value)) :
  P.built t parts = Instr.fill (ps.toArray[·]?) z.cells parts := by
 unfold Program.built
 cases hi : P.info? t with
 | none => rw [hi] at hz; cases hz
 | some it =>
  rw [hi] at hz
  simp only [Option.bind_some] at hz
  cases hu : P.underlying t with
  | none => rw [hu] at hp; cases hp
  | some d =>
   rw [hu] at hp
   cases d <;> first | (cases hp; done) | skip
   simp only at hp
   simp only [hz, hp]
def likeZ : Array Value := Array.replicate 432 (.int .u16 0) ++ #[.slice none 0 0] ++ (#[.int .u16 0, .int .u16 0] ++ Array.replicate 33 (.slice none 0 0)) ++ (#[.int .u16 0, .int .u16 0] ++ Array.replicate 33 (.slice none 0 0)) ++ Array.replicate 19 (.slice none 0 0)
theorem likeZ_zero : (Tryz.prog.info? 150).bind (·.zero) = some (.agg likeZ) := by
 kernel_rfl
theorem likeZ_size : likeZ.size = 522 := by simp [likeZ]
theorem likeZ_low {i : Nat} (h : i < 432) : likeZ[i]? = some (.int .u16 0) := by
 unfold likeZ
 rw [Array.getElem?_append_left (by simp; omega), Array.getElem?_append_left (by simp; omega), Array.getElem?_append_left (by simp; omega), Array.getElem?_append_left (by simp; omega)]
 simp [h]
theorem likeZ_list : likeZ[432]? = some (.slice none 0 0) := by
 kernel_rfl
theorem likely_places : (match Tryz.prog.underlying 150 with | some (.struct fields) => fields.toList.mapM (fun f => (Tryz.prog.info? f.type).map fun i => (f.offset, i.size)) | _ => none) = some [(0, 192), (192, 12), (204, 12), (216, 12), (228, 12), (240, 192), (432, 1), (433, 35), (468, 35), (503, 19)] := by
 kernel_rfl
structure LikeL (L A1 A2 A3 : Array Value) : Prop where
 size : L.size = 522
 low : ∀ i, i < 432 -> L[i]? = some (.int .u16 0)
 list : L[432]? = some (.slice none 0 0)
 p1 : ∀ i, i < 35 -> L[433 + i]? = A1[i]?
 p2 : ∀ i, i < 35 -> L[468 + i]? = A2[i]?
 p3 : ∀ i, i < 19 -> L[503 + i]? = A3[i]?
theorem likely_built {A1 A2 A3 : Array Value} (h1 : A1.size = 35) (h2 : A2.size = 35) (h3 : A3.size = 19) :
  ∃ L, Tryz.prog.built 150 [(7, .agg A1), (8, .agg A2), (9, .agg A3)] = some L /\ LikeL L A1 A2 A3 := by
 have s0 := likeZ_size
 have s1 := laid_size likeZ 433 A1
 have s2 := laid_size (laid likeZ 433 A1) 468 A2
 have s3 := laid_size (laid (laid likeZ 433 A1) 468 A2) 503 A3
 refine ⟨laid (laid (laid likeZ 433 A1) 468 A2) 503 A3, ?_, by omega, fun i hi => ?_, ?_, fun i hi => ?_, fun i hi => ?_, fun i hi => ?_⟩
 · rw [built_fill likeZ_zero likely_places]
   rw [fill_step (off := 433) (size := 35) rfl h1 (by show 433 + 35 <= likeZ.size; omega)]
   rw [fill_step (off := 468) (size := 35) rfl h2 (by show 468 + 35 <= (laid likeZ 433 A1).size; omega)]
   rw [fill_step (off := 503) (size := 19) rfl h3 (by show 503 + 19 <= (laid (laid likeZ 433 A1) 468 A2).size; omega)]
   rfl
 · rw [laid_out (by omega), laid_out (by omega), laid_out (by omega)]
   exact likeZ_low hi
 · rw [laid_out (by omega), laid_out (by omega), laid_out (by omega)]
   exact likeZ_list
 · rw [laid_out (by omega), laid_out (by omega), laid_in (by omega) (by omega)]
 · rw [laid_out (by omega), laid_in (by omega) (by omega)]
 · rw [laid_in (by omega) (by omega)]
structure Up (w0 w : World) (K : Nat) (S : Nat -> Prop) : Prop where
 frame : Frame (fun j => j = K) w0 w
 here : ∀ i, i < 432 -> (w.cell? ⟨K, i, none⟩).isSome = true
 froz : ∀ i, w.frozen? ⟨K, i, none⟩ = false
 hi : ∀ i, 432 <= i -> w.cell? ⟨K, i, none⟩ = w0.cell? ⟨K, i, none⟩
 done : ∀ i, S i -> i < 432 /\ w.cell? ⟨K, i, none⟩ = some (.int .u16 1024)
theorem Up.start {w0 w : World} {K : Nat} {S : Nat -> Prop} (h : Up w0 w K S) (off n cap : Nat) (hn : off + n <= 432) :
  Calls Tryz.prog 69 #[.slice (some ⟨K, off, none⟩) n cap] w fun x w' => x = .returned (.tuple #[]) /\ Up w0 w' K (fun i => S i \/ (off <= i /\ i < off + n)) := by
 refine (start_any w K off n cap (by omega) (fun j hj => ⟨h.here _ (by omega), h.froz _⟩)).mono ?_
 rintro x w' ⟨rfl, rfl⟩
 have hin : ∀ i, off <= i -> i < off + n -> (starts w K off n).cell? ⟨K, i, none⟩ = some (.int .u16 1024) := fun i h1 h2 => by
  have := starts_in (w := w) (k := K) (off := off) n (i - off) (by omega) (h.here _ (by omega))
  rwa [show off + (i - off) = i by omega] at this
 refine ⟨rfl, h.frame.trans (starts_frame w K off n) (fun _ _ e => e), fun i hi => ?_, fun i => ?_, fun i hi => ?_, fun i hi => ?_⟩
 · by_cases hc : off <= i /\ i < off + n
   · rw [hin i hc.1 hc.2]; rfl
   · rw [starts_out n (by omega)]; exact h.here i hi
 · rw [starts_frozen]; exact h.froz i
 · rw [starts_out n (by omega)]; exact h.hi i hi
 · by_cases hc : off <= i /\ i < off + n
   · exact ⟨by omega, hin i hc.1 hc.2⟩
   · rw [starts_out n (by omega)]
     rcases hi with hi | hi
     · exact h.done i hi
     · exact absurd hi hc
theorem Up.mono {w0 w : World} {K : Nat} {S S' : Nat -> Prop} (h : Up w0 w K S) (hs : ∀ i, S' i -> S i) : Up w0 w K S' := ⟨h.frame, h.here, h.froz, h.hi, fun i hi => h.done i (hs i hi)⟩
theorem Up.new {w : World} {K : Nat} {L A1 A2 A3 : Array Value} (hL : LikeL L A1 A2 A3) (h : w.heap[K]? = some (.cells L 150 (0, 0))) : Up w w K (fun _ => False) :=
 ⟨Frame.refl _ _, fun i hi => by rw [cell_of_row w K i _ _ _ h, hL.low i hi]; rfl, fun i => frozen_of_row w K i _ _ h, fun _ _ => rfl, fun _ h => h.elim⟩
structure Parts (w : World) (P P2 P3 K : Nat) (A1 A2 A3 : Array Value) (g1 g2 g3 : Nat -> Nat) : Prop where
 l1 : Lens w P 16 A1 g1
 u1 : ∀ j, (j < 16 \/ 16 <= j /\ j < 16 + 16 \/ j = 32) -> g1 j < P2
 l2 : Lens w P2 16 A2 g2
 u2 : ∀ j, (j < 16 \/ 16 <= j /\ j < 16 + 16 \/ j = 32) -> g2 j < P3
 l3 : Dists w P3 18 A3 g3
 u3 : ∀ j, (j < 18 \/ j = 18) -> g3 j < K
 ord : P <= P2 /\ P2 <= P3 /\ P3 <= K
theorem Parts.frame {w w' : World} {own : Nat -> Prop} {P P2 P3 K : Nat} {A1 A2 A3 : Array Value} {g1 g2 g3 : Nat -> Nat} (h : Parts w P P2 P3 K A1 A2 A3 g1 g2 g3) (hf : Frame own w w') (hn : ∀ k, k < K -> ¬ own k) : Parts w' P P2 P3 K A1 A2 A3 g1 g2 g3 := by
 obtain ⟨o1, o2, o3⟩ := h.ord
 exact ⟨h.l1.frame hf (fun j hj => hn _ (by have := h.u1 j hj; omega)), h.u1, h.l2.frame hf (fun j hj => hn _ (by have := h.u2 j hj; omega)), h.u2, h.l3.frame hf (fun j hj => hn _ (h.u3 j hj)), h.u3, h.ord⟩
structure Grow (w5 wr : World) (K t : Nat) (v : Value) (tb : Nat -> Nat) : Prop where
 frame : Frame (fun j => j = K) w5 wr
 ones : ∀ i, i < 432 -> wr.cell? ⟨K, i, none⟩ = some (.int .u16 1024)
 froz : ∀ i, wr.frozen? ⟨K, i, none⟩ = false
 list : wr.cell? ⟨K, 432, none⟩ = some v
 hi : ∀ i, 433 <= i -> wr.cell? ⟨K, i, none⟩ = w5.cell? ⟨K, i, none⟩
 own : wr.ownsRow 0 135 1 v t ((List.range t).map fun j => .slice (some ⟨tb j, 0, none⟩) 768 1024)
 vnew : ∀ k, v.ownBlock = some k -> w5.heap.size <= k
 tree : ∀ j, j < t -> w5.heap.size <= tb j /\ wr.heap[tb j]? = some (tre 1024)
 inj : ∀ i j, i < t -> j < t -> tb i = tb j -> i = j
theorem Grow.new {w5 w : World} {K : Nat} {S : Nat -> Prop} (h : Up w5 w K S) (hs : ∀ i, i < 432 -> S i) (hl : w5.cell? ⟨K, 432, none⟩ = some (.slice none 0 0)) : Grow w5 w K 0 (.slice none 0 0) (fun _ => 0) :=
 ⟨h.frame, fun i hi => (h.done i (hs i hi)).2, h.froz, (h.hi 432 (Nat.le_refl _)).trans hl, fun i hi => h.hi i (by omega), World.ownsRow_nil _ _ _ _, fun k hk => by simp [Value.ownBlock] at hk, fun j hj => by omega, fun i j hi => by omega⟩
theorem own_no_tree {w : World} {v : Value} {n X N : Nat} {xs : List Value} (h : w.ownsRow 0 135 1 v n xs) (hc : w.heap[X]? = some (tre N)) : v.ownBlock ≠ some X := by
 intro hk
 rcases h.2 with ⟨e1, _⟩ | ⟨g', cap', cur, e1, _, hg, _⟩
 · rw [e1] at hk; simp [Value.ownBlock] at hk
 · rw [e1] at hk
   simp [Value.ownBlock] at hk
   subst hk
   rw [hc] at hg
   unfold tre at hg
   simp only [Option.some.injEq, Obj.cells.injEq] at hg
   exact absurd hg.2.1 (by decide)
theorem Grow.round {w5 wr wa wb : World} {K t : Nat} {v v' : Value} {tb : Nat -> Nat} {o : Obj} (h : Grow w5 wr K t v tb) (hK : K < w5.heap.size) (hba : Below wr.heap.size wr wa) (hta : wa.heap[wr.heap.size]? = some (tre 1024))
  (hown : wb.ownsRow 0 135 1 v' (t + 1) (((List.range t).map fun j => .slice (some ⟨tb j, 0, none⟩) 768 1024) ++ [.slice (some ⟨wr.heap.size, 0, none⟩) 768 1024])) (hg : (wa.alloc o).grownBy wb v.ownBlock) (hm : Moved (wa.alloc o) v v') :
  ∃ W, wb.setCell ⟨K, 432, none⟩ v' = W /\ Grow w5 W K (t + 1) v' (fun j => if j = t then wr.heap.size else tb j) := by
 have hsr := h.frame.size
 have hsa := hba.size
 have hta1 := lt_of_heap hta
 have hvw : ∀ k, v.ownBlock = some k -> k ≠ K := fun k hk e => by have := h.vnew k hk; omega
 have hfa : Frame (fun _ => False) wr (wa.alloc o) := (Frame.of_below_size hba).alloc o
 have hsz2 : (wa.alloc o).heap.size = wa.heap.size + 1 := by simp
 have hfb : Frame (fun j => v.ownBlock = some j) wr wb := (hfa.mono (fun _ _ h => h.elim)).grown hg (fun k hk => .inl hk)
 have hv' : ∀ k, v'.ownBlock = some k -> w5.heap.size <= k := fun k hk => by
  rcases hm with e | e
  · rw [e] at hk; exact h.vnew k hk
  · have := e k hk; omega
 have hfw : Frame (fun j => j = K) wb (wb.setCell ⟨K, 432, none⟩ v') := (Frame.refl (fun j => j = K) wb).setCell (p := ⟨K, 432, none⟩) (.inl rfl) _
 have hKr : K < wr.heap.size := by omega
 have hKv : ¬ v.ownBlock = some K := fun e => hvw K e rfl
 have cK : ∀ i, wb.cell? ⟨K, i, none⟩ = wr.cell? ⟨K, i, none⟩ := fun i => hfb.cell (p := ⟨K, i, none⟩) hKr hKv
 have fK : ∀ i, wb.frozen? ⟨K, i, none⟩ = wr.frozen? ⟨K, i, none⟩ := fun i => World.frozen?_of_block (hfb.block K hKr hKv)
 have co : ∀ i, i ≠ 432 -> (wb.setCell ⟨K, 432, none⟩ v').cell? ⟨K, i, none⟩ = wr.cell? ⟨K, i, none⟩ := fun i hi => (World.cell?_setCell_other _ _ _ _ (by intro e; injection e with _ e2 _; exact hi e2.symm)).trans (cK i)
 have htr : ∀ j, j < t -> (wb.setCell ⟨K, 432, none⟩ v').heap[tb j]? = some (tre 1024) := fun j hj => by
  obtain ⟨h1, h2⟩ := h.tree j hj
  have hl := lt_of_heap h2
  exact (hfw.block _ (by have := hfb.size; omega) (by omega)).trans ((hfb.block _ hl (own_no_tree h.own h2)).trans h2)
 refine ⟨_, rfl, ⟨?_, fun i hi => (co i (by omega)).trans (h.ones i hi), fun i => ?_, ?_, fun i hi => (co i (by omega)).trans (h.hi i hi), ?_, hv', fun j hj => ?_, fun i j hi hj e => ?_⟩⟩
 · have h1 : Frame (fun j => j = K) w5 wb := ((h.frame.trans (Frame.of_below_size (own := fun j => j = K) hba) (fun _ _ e => e)).alloc o).grown hg (fun k hk => .inr (h.vnew k hk))
   exact h1.trans hfw (fun _ _ e => e)
 · rw [World.frozen?_setCell, fK]; exact h.froz i
 · exact World.cell?_setCell_same _ _ _ ((cK 432).trans h.list)
 · have e : ((List.range (t + 1)).map fun j => Value.slice (some ⟨if j = t then wr.heap.size else tb j, 0, none⟩) 768 1024) = ((List.range t).map fun j => .slice (some ⟨tb j, 0, none⟩) 768 1024) ++ [.slice (some ⟨wr.heap.size, 0, none⟩) 768 1024] := by
    rw [List.range_succ, List.map_append]
    congr 1
    · apply List.map_congr_left
      intro j hj
      rw [if_neg (by have := List.mem_range.1 hj; omega)]
    · simp
   rw [e]
   exact ownsRow_frame hown hfw (fun k hk e => by have := hv' k hk; omega)
 · by_cases e : j = t
   · subst e
     simp only [if_true]
     refine ⟨by omega, (hfw.block _ (by have := hg.size; omega) (by omega)).trans ((hg.block _ (by omega) (fun e => ?_)).trans ((Below.heap_alloc wa o _ hta1).trans hta))⟩
     have := ownsRow_lt h.own _ e.symm
     omega
   · rw [if_neg e]
     exact ⟨(h.tree j (by omega)).1, htr j (by omega)⟩
 · have k1 : ∀ j, j < t -> tb j < wr.heap.size := fun j hj => lt_of_heap (h.tree j hj).2
   (try simp only at e)
   split at e <;> split at e
   · omega
   · have := k1 j (by omega); omega
   · have := k1 i (by omega); omega
   · exact h.inj i j (by omega) (by omega) e
theorem step_append_sep {P : Program} (w : World) {ops : Array Oper} {o : Oper} {a : Act} {K : Act -> World -> Prop} {Q : Exit -> Act -> World -> Prop} {E : Prop} (hgd : o.guard = none) (s x : Operand) (t : TypeId)
  (ho : o.op = .call { callee := .builtin .append, args := #[s, x], argTypes := #[t, t] })
  (e : TypeId) (i : TypeInfo) (z : Value) (size bytes : Nat) (ht : P.underlying t = some (.slice e)) (hi : P.info? e = some i) (hz : i.zero = some z)
  (hsize : i.size = size) (hby : i.bytes = bytes) (hzs : z.cells.size = size) (hsz : 0 < size)
  (v : Value) (n : Nat) (xs : List Value) (hs : a.eval s = v) (hown : w.ownsRow 0 e size v n xs)
  (ad : Addr) (m c : Nat) (hm : 0 < m) (news : List Value) (hx : a.eval x = .slice (some ad) m c) (hl : news.length = m * size) (hnews : ∀ j u, news[j]? = some u -> w.cell? (ad.add j) = some u) (h1 : ∀ u ∈ news, u.oneCell' = true)
  (h63 : n + m <= maxLen) (hbytes : (n + m) * bytes <= 140737488355328)
  (h : ∀ g cap w', w'.ownsRow 0 e size (.slice (some ⟨g, 0, none⟩) (n + m) cap) (n + m) (xs ++ news) -> w.grownBy w' v.ownBlock -> Moved w v (.slice (some ⟨g, 0, none⟩) (n + m) cap) -> K (a.put o.dst (.slice (some ⟨g, 0, none⟩) (n + m) cap)) w') :
  if Region.wanted o (yielded ops a.tmps) = true then Oper.wp P o a w K Q else E := by
 have hw : Region.wanted o (yielded ops a.tmps) = true := by simp [Region.wanted, hgd]
 rw [if_pos hw]
 refine wp_append_sep w s x t ho e i z size bytes ht hi hz hsize hby hzs hsz v n xs hs hown ad m c news hx hl hnews h1 h63 hbytes ?_
 intro v' w' h2 h3 h4
 obtain ⟨g, cap, rfl⟩ := own_form h2 (by omega)
 exact h g cap w' h2 h3 h4
theorem new_here {w : World} {u : Value} {t : TypeId} : ∀ j x, [u][j]? = some x -> (w.alloc (.cells #[u] t)).cell? ((⟨w.heap.size, 0, none⟩ : Addr).add j) = some x := fun j x hj => by
 match j, hj with
 | 0, hj =>
  simp at hj
  subst hj
  exact (cell_of_row (w.alloc (.cells #[u] t)) w.heap.size (0 + 0) _ _ _ (heap_alloc_new w _)).trans rfl
theorem infoT : (Tryz.prog.info? 135).map (fun i => (i.zero, i.size, i.bytes)) = some (some (.slice none 0 0), 1, 24) := by
 kernel_rfl
theorem likely_raw (lc lp pb : Nat) (hl : lc + lp <= 4) (w : World) : Calls Tryz.prog 52 #[.agg #[.int .i64 lc, .int .i64 lp, .int .i64 pb]] w fun x w' =>
  ∃ K P P2 P3 A1 A2 A3 g1 g2 g3 w5 v tb, x = .returned (.pointer (some ⟨K, 0, none⟩)) /\ Below w.heap.size w w5 /\ w.heap.size <= P /\ K < w5.heap.size /\ Parts w5 P P2 P3 K A1 A2 A3 g1 g2 g3 /\
  (∃ L, LikeL L A1 A2 A3 /\ w5.heap[K]? = some (.cells L 150 (0, 0))) /\ Grow w5 w' K (2 ^ (lc + lp)) v tb := by
 go_enter Tryz.func52, Tryz.ntmps52
 go_wp2_with fail
 have hz := heap_alloc_new w (.cells #[.int .i64 lc, .int .i64 lp, .int .i64 pb] 26)
 have hb1 : Below w.heap.size w (w.alloc (.cells #[.int .i64 lc, .int .i64 lp, .int .i64 pb] 26)) := (Below.refl _ _).alloc (Nat.le_refl _) _
 have hsz : (w.alloc (.cells #[.int .i64 lc, .int .i64 lp, .int .i64 pb] 26)).heap.size = w.heap.size + 1 := World.size_alloc _ _
 generalize w.alloc (.cells #[.int .i64 lc, .int .i64 lp, .int .i64 pb] 26) = W1 at *
 have HB1 := hid hb1
 have HZ := hid hz
 clear hb1 hz
 refine (lengths_new W1).mono ?_
 rintro x w2 ⟨A1, g1, rfl, hb2, hl1⟩
 have HB2 := hid hb2
 have HL1 := hid hl1
 have hs2 := hb2.size
 clear hb2 hl1
 go_wp2_with fail
 refine (lengths_new w2).mono ?_
 rintro x w3 ⟨A2, g2, rfl, hb3, hl2⟩
 have HB3 := hid hb3
 have HL2 := hid hl2
 have hs3 := hb3.size
 clear hb3 hl2
 go_wp2_with fail
 refine (distances_new w3).mono ?_
 rintro x w4 ⟨A3, g3, rfl, hb4, hl3⟩
 have HB4 := hid hb4
 have HL3 := hid hl3
 have hs4 := hb4.size
 obtain ⟨L, hL, hLL⟩ := likely_built HL1.out.size HL2.out.size hl3.size
 have HLB := hid hL
 have HLL := hid hLL
 clear hb4 hl3 hL hLL
 go_upto_region 2 with (first | (refine wpList_build_some rfl 150 _ rfl L ?hx ?_; (case hx => simp only [List.map_toArray, List.map_cons, List.map_nil]; refine Eq.trans (congrArg _ ?_) HLB.out; rfl)) | fail)
 have hz5 := heap_alloc_new w4 (.cells L 150)
 have hfr : Frame (fun _ => False) w4 (w4.alloc (.cells L 150)) := (Frame.refl _ w4).alloc _
 have hs5 : (w4.alloc (.cells L 150)).heap.size = w4.heap.size + 1 := World.size_alloc _ _
 generalize w4.alloc (.cells L 150) = w5 at *
 have hF3 : Frame (fun _ => False) w3 w5 := (Frame.of_below_size HB4.out).trans hfr (fun _ _ e => e)
 have hF2 : Frame (fun _ => False) w2 w5 := (Frame.of_below_size HB3.out).trans hF3 (fun _ _ e => e)
 have hF1 : Frame (fun _ => False) W1 w5 := (Frame.of_below_size HB2.out).trans hF2 (fun _ _ e => e)
 have HPA : Hid (Parts w5 W1.heap.size w2.heap.size w3.heap.size w4.heap.size A1 A2 A3 g1 g2 g3) := hid ⟨HL1.out.frame hF2 (fun _ _ e => e), fun j hj => (HL1.out.lt j hj).2, HL2.out.frame hF3 (fun _ _ e => e), fun j hj => (HL2.out.lt j hj).2, HL3.out.frame hfr (fun _ _ e => e), fun j hj => (HL3.out.lt j hj).2, hs2, hs3, hs4⟩
 have HB5 : Hid (Below w.heap.size w w5) := hid (below_frame HB1.out (by omega) hF1 (fun _ e => e.elim))
 have hpar := (hF1.block w.heap.size (by omega) (fun e => e)).trans HZ.out
 have HPR := hid hpar
 have HU := hid (Up.new HLL.out hz5)
 have HZ5 := hid hz5
 have HPP : Hid (w.heap.size <= W1.heap.size) := hid (by omega)
 have hK5 : w4.heap.size < w5.heap.size := by omega
 have hKw : w.heap.size < w4.heap.size := by omega
 generalize hKe : w4.heap.size = K at *
 generalize W1.heap.size = P1 at *
 generalize w2.heap.size = P2 at *
 generalize w3.heap.size = P3 at *
 clear hfr hF1 hF2 hF3 hpar HL1 HL2 HL3 HB1 HB2 HB3 HB4 HZ HLB hz5 hKe hsz hs2 hs3 hs4 hs5
 generalize hPe : w.heap.size = P at *
 go_wp2_with fail
 go_loopw [4, 10] (fun _ i wr => ∃ s : Nat, s <= 12 /\ i = .int .i64 s /\ Up w5 wr K (fun i => i < 16 * s \/ (240 <= i /\ i < 240 + 16 * s))) (fun _ i _ => 12 - (intOf i).toNat)
 case atStart => exact ⟨0, by omega, rfl, HU.out.mono (fun i h => by omega)⟩
 case round =>
  obtain ⟨s, hs, rfl, hu⟩ := hrel
  have HUP := hid hu
  clear hu HU
  by_cases hlt : s < 12
  · go_wp2_with fail
    refine (HUP.out.start (s * 16) 16 16 (by omega)).mono ?_
    rintro x wa ⟨rfl, hu1⟩
    have HU1 := hid hu1
    clear HUP hu1
    go_wp2_with fail
    refine (HU1.out.start (240 + s * 16) 16 16 (by omega)).mono ?_
    rintro x wb ⟨rfl, hu2⟩
    have HU2 := hid (hu2.mono (S' := fun i => i < 16 * (s + 1) \/ (240 <= i /\ i < 240 + 16 * (s + 1))) (fun i h => by omega))
    clear HU1 hu2
    go_wp2_with fail
    go_roundw
    case rel => exact ⟨s + 1, by omega, by go_num, HU2.out⟩
    case measure => simp [intOf]; omega
  · obtain rfl : s = 12 := by omega
    rw [show ((12 : Nat) : Int) = 12 from rfl]
    go_wp2_with fail
    refine (HUP.out.start 192 12 12 (by omega)).mono ?_
    rintro x wa ⟨rfl, hu1⟩
    have HU1 := hid hu1
    clear HUP hu1
    go_wp2_with fail
    refine (HU1.out.start 204 12 12 (by omega)).mono ?_
    rintro x wb ⟨rfl, hu1⟩
    have HU2 := hid hu1
    clear HU1 hu1
    go_wp2_with fail
    refine (HU2.out.start 216 12 12 (by omega)).mono ?_
    rintro x wc ⟨rfl, hu1⟩
    have HU3 := hid hu1
    clear HU2 hu1
    go_wp2_with fail
    refine (HU3.out.start 228 12 12 (by omega)).mono ?_
    rintro x wd ⟨rfl, hu1⟩
    have hg := Grow.new hu1 (fun i hi => by omega) ((cell_of_row w5 K 432 _ _ _ HZ5.out).trans HLL.out.list)
    have hp3 := (hg.frame.block P (by omega) (by omega)).trans HPR.out
    have p0 : wd.cell? ⟨P, 0, none⟩ = some (.int .i64 lc) := by simp [World.cell?, hp3]
    have p1 : wd.cell? ⟨P, 1, none⟩ = some (.int .i64 lp) := by simp [World.cell?, hp3]
    have HG := hid hg
    clear HU3 hu1 hg hp3
    go_wp2_with fail
    obtain ⟨N, hN, hN16, hN2⟩ : ∃ N : Nat, 2 ^ (lc + lp) = N /\ N <= 16 /\ wrap64 ((2 : Int) ^ (lc + lp)) = (N : Int) := by
     generalize lc + lp = m at hl
     match m, hl with
     | 0, _ => exact ⟨1, rfl, by omega, by first | rfl | (unfold wrap64; rfl) | (simp [wrap64]) | kernel_rfl⟩
     | 1, _ => exact ⟨2, rfl, by omega, by first | rfl | (unfold wrap64; rfl) | (simp [wrap64]) | kernel_rfl⟩
     | 2, _ => exact ⟨4, rfl, by omega, by first | rfl | (unfold wrap64; rfl) | (simp [wrap64]) | kernel_rfl⟩
     | 3, _ => exact ⟨8, rfl, by omega, by first | rfl | (unfold wrap64; rfl) | (simp [wrap64]) | kernel_rfl⟩
     | 4, _ => exact ⟨16, rfl, by omega, by first | rfl | (unfold wrap64; rfl) | (simp [wrap64]) | kernel_rfl⟩
    rw [hN2]
    have HN := hid hN
    clear hN2 hN p0 p1
    go_loopw [54] (fun i wr => ∃ (t : Nat) (v : Value) (tb : Nat -> Nat), t <= N /\ i = .int .i64 t /\ Grow w5 wr K t v tb) (fun i _ => N - (intOf i).toNat)
    case atStart => exact ⟨0, _, _, by omega, rfl, HG.out⟩
    case round =>
     clear HG
     obtain ⟨t, v, tb, ht, rfl, hg⟩ := hrel
     have HG := hid hg
     have c0 : wr.cell? ⟨K, 432, none⟩ = some v := hg.list
     have f0 : wr.frozen? ⟨K, 432, none⟩ = false := hg.froz 432
     have hKr : K < wr.heap.size := by have := hg.frame.size; omega
     clear hg
     by_cases hlt : t < N
     · obtain ⟨i0, hi, hz0, hz1, hz2⟩ := info_parts infoT
       have hsz1 : Tryz.prog.underlying 148 = some (.slice 135) := Tryz.underlying148
       have HT : ∀ W : World, Calls Tryz.prog 70 #[.int .i64 10] W fun x w' => x = .returned (.slice (some ⟨W.heap.size, 0, none⟩) 1024 1024) /\ Below W.heap.size W w' /\ w'.heap[W.heap.size]? = some (tre 1024) := fun W => tree_new 10 (by omega) W
       have hlen : t + 1 <= maxLen := by unfold maxLen; omega
       have hbts : (t + 1) * 24 <= 140737488355328 := by omega
       have HOW : Hid (∀ W : World, Below wr.heap.size wr W -> ∀ o, (W.alloc o).ownsRow 0 135 1 v t ((List.range t).map fun j => .slice (some ⟨tb j, 0, none⟩) 768 1024)) := hid fun W hb o => (ownsRow_frame HG.out.own (Frame.of_below_size (own := fun _ => False) hb) (fun _ _ e => e)).alloc o
       go_upto_region 14 with (fail)
       go_region_law (first | (go_simp; go_at_call 70; (with_reducible refine (HT wr.drew).mono ?_); rintro x wa ⟨rfl, hba0, hta⟩; have hba := below_drewN_from hba0; have ca : wa.cell? ⟨K, 432, none⟩ = some v := (hba.cell (p := ⟨K, 432, none⟩) hKr).trans c0; have fa : wa.frozen? ⟨K, 432, none⟩ = false := (hba.frozen (p := ⟨K, 432, none⟩) hKr).trans f0; have hKa : K < wa.heap.size := (by have := hba.size; omega); have caa : ∀ o, (wa.alloc o).cell? ⟨K, 432, none⟩ = some v := fun o => (World.cell?_of_block (Below.heap_alloc wa o K hKa)).trans ca; have faa : ∀ o, (wa.alloc o).frozen? ⟨K, 432, none⟩ = false := fun o => (World.frozen?_of_block (Below.heap_alloc wa o K hKa)).trans fa) | (refine step_append_sep _ rfl (.tmp 60) (.tmp 63) 148 rfl 135 i0 (.slice none 0 0) 1 24 hsz1 hi hz0 hz1 hz2 rfl (by decide) v t _ rfl (HOW.out wa hba _) ⟨wa.heap.size, 0, none⟩ 1 1 (by decide) _ rfl rfl new_here (by simp [Value.oneCell']) hlen hbts ?_; intro g cap wb hown hgr hmv; have hbk := hgr.block K (by rw [World.size_alloc]; omega) (fun e => by have := HG.out.vnew K e.symm; omega); have cb : wb.cell? ⟨K, 432, none⟩ = some v := (World.cell?_of_block hbk).trans (caa _); have fb : wb.frozen? ⟨K, 432, none⟩ = false := (World.frozen?_of_block hbk).trans (faa _); clear hbk))
       all_goals
        obtain ⟨W, hW, hG2⟩ := HG.out.round hK5 hba hta hown hgr hmv
        have HG2 := hid hG2
        rw [hW]
        clear hW hG2 hba hta hown hgr hmv hba0 ca caa cb fb fa faa HOW c0 f0 hKa
        go_wp2_with fail
        go_roundw
        case rel => exact ⟨t + 1, _, _, by omega, by go_num, HG2.out⟩
        case measure => simp [intOf]; omega
     · obtain rfl : t = N := by omega
       go_wp2_with fail
       go_ret
       rw [HN.out, hPe]
       exact ⟨K, P1, P2, P3, A1, A2, A3, g1, g2, g3, w5, v, tb, rfl, HB5.out, HPP.out, hK5, HPA.out, ⟨L, HLL.out, HZ5.out⟩, HG.out⟩
def loc (a b : Nat) : Nat × Nat :=
 if a = 100 then (0, b) else if a = 210 then (1, b) else if a = 220 then (1, 16 + b) else if a = 230 then (1, 32) else if a = 211 then (2, b) else if a = 221 then (2, 16 + b)
 else if a = 231 then (2, 32) else if a = 300 then (3, b) else if a = 310 then (3, 4 + b) else (3, 18)
def vloc (t r i : Nat) : Prop := (r = 0 /\ i < t) \/ ((r = 1 \/ r = 2) /\ (i < 16 \/ 16 <= i /\ i < 16 + 16 \/ i = 32)) \/ (r = 3 /\ (i < 18 \/ i = 18))
theorem loc_ok {t a b : Nat} (h : isTree t a b) : vloc t (loc a b).1 (loc a b).2 := by
 unfold isTree at h
 unfold vloc loc
 rcases h with ⟨rfl, h⟩ | ⟨rfl | rfl | rfl | rfl, h⟩ | ⟨rfl | rfl | rfl, h⟩ | ⟨rfl, h⟩ | ⟨rfl, h⟩ <;> simp <;> omega
theorem loc_inj {t a b a' b' : Nat} (h : isTree t a b) (h' : isTree t a' b') (e : loc a b = loc a' b') : a' = a /\ b' = b := by
 unfold isTree at h h'
 unfold loc at e
 rcases h with ⟨rfl, h⟩ | ⟨rfl | rfl | rfl | rfl, h⟩ | ⟨rfl | rfl | rfl, h⟩ | ⟨rfl, h⟩ | ⟨rfl, h⟩ <;>
  rcases h' with ⟨rfl, h'⟩ | ⟨rfl | rfl | rfl | rfl, h'⟩ | ⟨rfl | rfl | rfl, h'⟩ | ⟨rfl, h'⟩ | ⟨rfl, h'⟩ <;> simp at e <;> omega
def gat (tb g1 g2 g3 : Nat -> Nat) (r i : Nat) : Nat := if r = 0 then tb i else if r = 1 then g1 i else if r = 2 then g2 i else g3 i
def tbs (tb g1 g2 g3 : Nat -> Nat) (a b : Nat) : Nat := gat tb g1 g2 g3 (loc a b).1 (loc a b).2
theorem tl_const (a b n : Nat) : tl (fun _ _ _ => 1024) a b n = List.replicate n 1024 := by
 unfold tl
 simp [List.map_const']
section
variable {w w5 w' : World} {O' : Paint} {cm K P P2 P3 t gb cap : Nat} {A1 A2 A3 L : Array Value} {g1 g2 g3 tb : Nat -> Nat}
theorem gat_rng (hp : Parts w5 P P2 P3 K A1 A2 A3 g1 g2 g3) (hg : Grow w5 w' K t (.slice (some ⟨gb, 0, none⟩) t cap) tb) {r i : Nat} (h : vloc t r i) :
  (r = 0 /\ w5.heap.size <= gat tb g1 g2 g3 r i /\ gat tb g1 g2 g3 r i ≠ gb) \/ (r = 1 /\ P <= gat tb g1 g2 g3 r i /\ gat tb g1 g2 g3 r i < P2) \/ (r = 2 /\ P2 <= gat tb g1 g2 g3 r i /\ gat tb g1 g2 g3 r i < P3) \/ (r = 3 /\ P3 <= gat tb g1 g2 g3 r i /\ gat tb g1 g2 g3 r i < K) := by
 rcases h with ⟨rfl, h⟩ | ⟨rfl | rfl, h⟩ | ⟨rfl, h⟩
 · exact .inl ⟨rfl, (hg.tree i h).1, fun e => own_no_tree hg.own (hg.tree i h).2 (by rw [show tb i = gb from e]; rfl)⟩
 · exact .inr (.inl ⟨rfl, (hp.l1.lt i h).1, hp.u1 i h⟩)
 · exact .inr (.inr (.inl ⟨rfl, (hp.l2.lt i h).1, hp.u2 i h⟩))
 · exact .inr (.inr (.inr ⟨rfl, (hp.l3.lt i h).1, hp.u3 i h⟩))
theorem gat_inj (hK : K < w5.heap.size) (hp : Parts w5 P P2 P3 K A1 A2 A3 g1 g2 g3) (hg : Grow w5 w' K t (.slice (some ⟨gb, 0, none⟩) t cap) tb) {r i r' i' : Nat} (h : vloc t r i) (h' : vloc t r' i') (e : gat tb g1 g2 g3 r i = gat tb g1 g2 g3 r' i') : r = r' /\ i = i' := by
 have k := gat_rng hp hg h
 have k' := gat_rng hp hg h'
 have ho := hp.ord
 have er : r = r' := by omega
 subst er
 refine ⟨rfl, ?_⟩
 rcases h with ⟨rfl, h⟩ | ⟨rfl | rfl, h⟩ | ⟨rfl, h⟩
 · exact hg.inj _ _ h (by unfold vloc at h'; omega) e
 · exact hp.l1.inj _ _ h (by unfold vloc at h'; omega) e
 · exact hp.l2.inj _ _ h (by unfold vloc at h'; omega) e
 · exact hp.l3.inj _ _ h (by unfold vloc at h'; omega) e
theorem lik_new (hP : w.heap.size <= P) (hK : K < w5.heap.size) (hp : Parts w5 P P2 P3 K A1 A2 A3 g1 g2 g3) (hL : LikeL L A1 A2 A3) (hz : w5.heap[K]? = some (.cells L 150 (0, 0)))
  (hg : Grow w5 w' K t (.slice (some ⟨gb, 0, none⟩) t cap) tb) (hO : ∀ k, w.heap.size <= k -> O' k = cm) : LikAt w' O' cm K gb cap t (tbs tb g1 g2 g3) (fun _ _ _ => 1024) := by
 have ho := hp.ord
 have hp' := hp.frame hg.frame (fun k hk e => by omega)
 have hs := hg.frame.size
 have hgb := hg.vnew gb rfl
 have hgl := ownsRow_lt hg.own gb rfl
 have c5 : ∀ i, w5.cell? ⟨K, i, none⟩ = L[i]? := fun i => cell_of_row w5 K i _ _ _ hz
 have q1 : ∀ i, i < 35 -> w'.cell? ⟨K, 433 + i, none⟩ = A1[i]? := fun i hi => (hg.hi _ (by omega)).trans ((c5 _).trans (hL.p1 i hi))
 have q2 : ∀ i, i < 35 -> w'.cell? ⟨K, 468 + i, none⟩ = A2[i]? := fun i hi => (hg.hi _ (by omega)).trans ((c5 _).trans (hL.p2 i hi))
 have q3 : ∀ i, i < 19 -> w'.cell? ⟨K, 503 + i, none⟩ = A3[i]? := fun i hi => (hg.hi _ (by omega)).trans ((c5 _).trans (hL.p3 i hi))
 have hcol : ∀ r i, vloc t r i -> O' (gat tb g1 g2 g3 r i) = cm := fun r i h => hO _ (by have := gat_rng hp hg h; omega)
 refine ⟨⟨hO _ (by omega), by omega⟩, ⟨hO _ (by omega), hgl⟩, by omega, fun a b c h => ⟨?_, hg.froz _⟩, hg.list, fun b hb => ?_, fun a b h h1 => ?_, fun a b h => ?_, fun a b a' b' h h' e => ?_, fun a b h => ?_⟩
 · unfold isOne at h
   unfold off
   rcases h with ⟨rfl, _, _⟩ | ⟨rfl, _, _⟩ | ⟨rfl | rfl | rfl | rfl, _, _⟩ | ⟨rfl | rfl, hb, _⟩
   all_goals first | (exact hg.ones _ (by simp; omega)) | skip
   · have : b = 0 \/ b = 1 := by omega
     rcases this with rfl | rfl
     · exact (q1 0 (by omega)).trans hp'.l1.one.1
     · exact (q1 1 (by omega)).trans hp'.l1.one.2
   · have : b = 0 \/ b = 1 := by omega
     rcases this with rfl | rfl
     · exact (q2 0 (by omega)).trans hp'.l2.one.1
     · exact (q2 1 (by omega)).trans hp'.l2.one.2
 · have := hg.own.cells rfl b (.slice (some ⟨tb b, 0, none⟩) 768 1024) (by simp [hb])
   rw [show ((⟨gb, 0, none⟩ : Addr).add b) = ⟨gb, b, none⟩ by cases b <;> simp [Addr.add]] at this
   exact this
 · unfold isTree at h
   rcases h with ⟨rfl, h⟩ | ⟨rfl | rfl | rfl | rfl, h⟩ | ⟨rfl | rfl | rfl, h⟩ | ⟨rfl, h⟩ | ⟨rfl, h⟩
   · exact absurd rfl h1
   · have := (q1 (2 + b) (by omega)).trans (hp'.l1.near b h)
     rwa [show 433 + (2 + b) = 435 + b by omega] at this
   · have := (q2 (2 + b) (by omega)).trans (hp'.l2.near b h)
     rwa [show 468 + (2 + b) = 470 + b by omega] at this
   · have := (q1 (18 + b) (by omega)).trans (hp'.l1.mid b h)
     rwa [show 433 + (18 + b) = 451 + b by omega] at this
   · have := (q2 (18 + b) (by omega)).trans (hp'.l2.mid b h)
     rwa [show 468 + (18 + b) = 486 + b by omega] at this
   · exact (q1 34 (by omega)).trans hp'.l1.far
   · exact (q2 34 (by omega)).trans hp'.l2.far
   · exact (q3 18 (by omega)).trans (hp'.l3.part 18 (.inr rfl)).1
   · have := (q3 b (by omega)).trans (hp'.l3.part b (.inl (by omega))).1
     unfold dw at this
     rw [if_pos h] at this
     exact this
   · have := (q3 (4 + b) (by omega)).trans (hp'.l3.part (4 + b) (.inl (by omega))).1
     unfold dw at this
     rw [if_neg (by omega), if_pos (by omega), Nat.add_sub_cancel_left, show 503 + (4 + b) = 507 + b by omega] at this
     exact this
 · rw [tl_const]
   have hc := hcol _ _ (loc_ok h)
   unfold isTree at h
   have hm : ∀ b, b < 14 -> 2 ^ St.more b <= 65536 := fun b hb => by
    have h1 := dw_le (4 + b)
    unfold dw at h1
    rw [if_neg (by omega), if_pos (by omega), Nat.add_sub_cancel_left] at h1
    exact Nat.le_trans (Nat.pow_le_pow_right (by omega) h1) (by omega)
   rcases h with ⟨rfl, h⟩ | ⟨rfl | rfl | rfl | rfl, h⟩ | ⟨rfl | rfl | rfl, h⟩ | ⟨rfl, h⟩ | ⟨rfl, h⟩
   · exact tree_at (hg.tree b h).2 hc (by show 768 <= 1024; omega) (by show 1024 <= 65536; omega)
   · exact tree_at (hp'.l1.lo b (.inl h)).2 hc (Nat.le_refl 8) (by show 8 <= 65536; omega)
   · exact tree_at (hp'.l2.lo b (.inl h)).2 hc (Nat.le_refl 8) (by show 8 <= 65536; omega)
   · exact tree_at (hp'.l1.lo (16 + b) (.inr (by omega))).2 hc (Nat.le_refl 8) (by show 8 <= 65536; omega)
   · exact tree_at (hp'.l2.lo (16 + b) (.inr (by omega))).2 hc (Nat.le_refl 8) (by show 8 <= 65536; omega)
   · exact tree_at hp'.l1.hi.2 hc (Nat.le_refl 256) (by show 256 <= 65536; omega)
   · exact tree_at hp'.l2.hi.2 hc (Nat.le_refl 256) (by show 256 <= 65536; omega)
   · exact tree_at (hp'.l3.part 18 (.inr rfl)).2.2 hc (Nat.le_refl 16) (by show 16 <= 65536; omega)
   · have := (hp'.l3.part b (.inl (by omega))).2.2
     unfold dw at this
     rw [if_pos h] at this
     exact tree_at this hc (Nat.le_refl 64) (by show 64 <= 65536; omega)
   · have := (hp'.l3.part (4 + b) (.inl (by omega))).2.2
     unfold dw at this
     rw [if_neg (by omega), if_pos (by omega), Nat.add_sub_cancel_left] at this
     exact tree_at this hc (Nat.le_refl (2 ^ St.more b)) (hm b h)
 · obtain ⟨e1, e2⟩ := gat_inj hK hp hg (loc_ok h) (loc_ok h') e
   exact loc_inj h h' (Prod.ext e1 e2)
 · have k := gat_rng hp hg (loc_ok h)
   exact ⟨fun e => by have e' : gat tb g1 g2 g3 (loc a b).1 (loc a b).2 = K := e; omega, fun e => by have e' : gat tb g1 g2 g3 (loc a b).1 (loc a b).2 = gb := e; omega⟩
end
theorem likely_new (lc lp pb : Nat) (hl : lc + lp <= 4) (w : World) : Calls Tryz.prog 52 #[.agg #[.int .i64 lc, .int .i64 lp, .int .i64 pb]] w fun x w' =>
  ∃ K gb cap tbs, x = .returned (.pointer (some ⟨K, 0, none⟩)) /\ Below w.heap.size w w' /\ w.heap.size <= K /\ ∀ O' cm, (∀ k, w.heap.size <= k -> O' k = cm) -> LikAt w' O' cm K gb cap (2 ^ (lc + lp)) tbs (fun _ _ _ => 1024) := by
 refine (likely_raw lc lp pb hl w).mono ?_
 rintro x w' ⟨K, P, P2, P3, A1, A2, A3, g1, g2, g3, w5, v, tb, rfl, hb, hP, hK, hp, ⟨L, hL, hz⟩, hg⟩
 obtain ⟨gb, cap, rfl⟩ := own_form hg.own (Nat.two_pow_pos _)
 have ho := hp.ord
 exact ⟨K, gb, cap, _, rfl, below_frame hb hb.size hg.frame (fun k e => by omega), by omega, fun O' cm hO => lik_new hP hK hp hL hz hg hO⟩
end Go.Proofs.YtfpoabeihpfeiaaGreat.Mo
end
