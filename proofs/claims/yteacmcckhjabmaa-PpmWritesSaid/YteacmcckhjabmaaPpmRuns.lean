/-
  Package ppm, mathematics: a text is put, and got; with a byte more, or one less, it isn't.
-/
import Derived.Test.YteacmcckhjabmaaPpmMath
import Derived.Test.YteacmcckhjabmaaCtxSpeaks
set_option linter.unusedVariables false
namespace Go.Proofs.Yteacmcckhjabmaa.Pp
open Fq Cx
open Rc (Enc Dec Ahead Follows Fine be)
def stepP (z : Rw × Enc) (s : Nat) : Rw × Enc := (z.1.learn s (putP z.1 s z.1.pth.length noN z.2).2, (putP z.1 s z.1.pth.length noN z.2).1)
def runP (z : Rw × Enc) (l : List Nat) : Rw × Enc := l.foldl stepP z
def encV (l : List Nat) (o c : Int) : List UInt8 := (runP (Rw.new o c, Enc.start) l).2.bytes
/-- So many signs are got. -/
def decP : Nat → Rw → Dec → List Nat → Option (Rw × Dec × List Nat)
  | 0, r, d, l => some (r, d, l)
  | n + 1, r, d, l => if (getP r r.pth.length noN d).ok = false ∨ (getP r r.pth.length noN d).d.bad = true then none
    else decP n (r.learn (getP r r.pth.length noN d).s (getP r r.pth.length noN d).k) (getP r r.pth.length noN d).d (l ++ [(getP r r.pth.length noN d).s])
def endV (x : Option (Rw × Dec × List Nat)) : Option (List Nat) := match x with
  | none => none
  | some y => if y.2.1.done = true ∧ y.2.1.bad = false then some y.2.2 else none
def decV (b : List UInt8) (o c : Int) (n : Nat) : Option (List Nat) := endV (decP n (Rw.new o c) (Dec.read b) [])
theorem runP_ok : ∀ (l : List Nat) (z : Rw × Enc), (∀ s ∈ l, s < 256) → z.1.Ok → Fine z.2 → (runP z l).1.Ok ∧ Fine (runP z l).2 ∧ (runP z l).2.turns ≤ z.2.turns + 60 * l.length
  | [], z, _, h1, h2 => ⟨h1, h2, by show z.2.turns ≤ _; omega⟩
  | s :: l, z, hl, h1, h2 => by
    have hs := hl s List.mem_cons_self
    obtain ⟨f1, f2⟩ := putP_fine h1 hs z.1.pth.length noN z.2 rfl h2
    have hk := h1.len
    have hk2 := h1.hist.1
    have hk3 := h1.order
    obtain ⟨g1, g2, g3⟩ := runP_ok l (stepP z s) (fun t ht => hl t (List.mem_cons_of_mem _ ht)) (Rw.learn_ok h1 hs _) f1
    refine ⟨g1, g2, ?_⟩
    show (runP (stepP z s) l).2.turns ≤ _
    have : (stepP z s).2.turns ≤ z.2.turns + 60 := by
      show (putP z.1 s z.1.pth.length noN z.2).1.turns ≤ _
      omega
    simp only [List.length_cons]
    omega
theorem ahead_run {F T : Nat} : ∀ (l : List Nat) (z : Rw × Enc), (∀ s ∈ l, s < 256) → z.1.Ok → Fine z.2 → Ahead (runP z l).2 F T → Ahead z.2 F T
  | [], z, _, h1, h2, ha => ha
  | s :: l, z, hl, h1, h2, ha => by
    have hs := hl s List.mem_cons_self
    have hf := (putP_fine h1 hs z.1.pth.length noN z.2 rfl h2).1
    exact ahead_putP h1 hs _ _ _ rfl (ahead_run l (stepP z s) (fun t ht => hl t (List.mem_cons_of_mem _ ht)) (Rw.learn_ok h1 hs _) hf ha)
theorem decP_back {F T : Nat} {more : List UInt8} : ∀ (l : List Nat) (z : Rw × Enc) (d : Dec) (acc : List Nat), (∀ s ∈ l, s < 256) → z.1.Ok → Fine z.2 → Follows d z.2 F T more → Ahead (runP z l).2 F T →
    ∃ d', decP l.length z.1 d acc = some ((runP z l).1, d', acc ++ l) ∧ Follows d' (runP z l).2 F T more
  | [], z, d, acc, _, _, _, hf, _ => ⟨d, by simp [decP, runP], hf⟩
  | s :: l, z, d, acc, hl, h1, h2, hf, ha => by
    have hs := hl s List.mem_cons_self
    have hl' : ∀ t ∈ l, t < 256 := fun t ht => hl t (List.mem_cons_of_mem _ ht)
    have hfi := (putP_fine h1 hs z.1.pth.length noN z.2 rfl h2).1
    have hok := Rw.learn_ok h1 hs (putP z.1 s z.1.pth.length noN z.2).2
    have hah := ahead_run l (stepP z s) hl' hok hfi ha
    obtain ⟨g1, g2, g3, g4⟩ := getP_back h1 hs z.1.pth.length noN z.2 d rfl h2 hf hah
    obtain ⟨d', e1, e2⟩ := decP_back l (stepP z s) (getP z.1 z.1.pth.length noN d).d (acc ++ [s]) hl' hok hfi g4 ha
    refine ⟨d', ?_, e2⟩
    show decP (l.length + 1) z.1 d acc = _
    unfold decP
    rw [if_neg (by rw [g3, g4.1]; simp), g1, g2]
    rw [show (stepP z s).1 = z.1.learn s (putP z.1 s z.1.pth.length noN z.2).2 from rfl] at e1
    rw [e1]
    simp [runP]
theorem bytes_start (e : Enc) : e.bytes = 0 :: be (e.turns + 4) e.low := rfl
/-- The text comes back; with a byte more it doesn't. -/
theorem decV_back (l : List Nat) (hl : ∀ s ∈ l, s < 256) (o c : Int) (more : List UInt8) : decV (encV l o c ++ more) o c l.length = if more = [] then some l else none := by
  obtain ⟨k1, k2, k3⟩ := runP_ok l (Rw.new o c, Enc.start) hl (Rw.new_ok o c) Rc.fine_start
  have ha : Ahead (runP (Rw.new o c, Enc.start) l).2 (runP (Rw.new o c, Enc.start) l).2.low (runP (Rw.new o c, Enc.start) l).2.turns := Rc.ahead_self (by have := k2.1; omega)
  have h0 := ahead_run l (Rw.new o c, Enc.start) hl (Rw.new_ok o c) Rc.fine_start ha
  have hf := Rc.follows_start (more := more) h0
  obtain ⟨d', e1, e2⟩ := decP_back l (Rw.new o c, Enc.start) _ [] hl (Rw.new_ok o c) Rc.fine_start hf ha
  unfold decV encV
  rw [bytes_start, e1]
  obtain ⟨f1, f2, f3⟩ := Rc.follows_end e2
  unfold endV
  dsimp only
  have hd : d'.done = more.isEmpty := by unfold Rc.Dec.done; rw [f1, f2]; simp
  rw [hd, f3]
  by_cases hm : more = []
  · subst hm; simp
  · rw [if_neg hm, if_neg (by simp [hm])]
/-- One byte less: the decoder, and the one that has it. -/
def Short (d d' : Dec) (x : UInt8) : Prop := d.rest = d'.rest ++ [x] ∧ d'.code = d.code ∧ d'.size = d.size ∧ d'.bad = d.bad
theorem next_bad {d : Dec} (h : d.bad = true) : d.next.bad = true := by
  unfold Rc.Dec.next
  split
  · rfl
  · exact h
theorem turnD_bad {d : Dec} (h : d.bad = true) : (Rc.turnD d).bad = true := by
  unfold Rc.turnD
  split
  · exact next_bad h
  · exact h
theorem wide_bad {d : Dec} (h : d.bad = true) : (Rc.wide d).bad = true := turnD_bad (turnD_bad (turnD_bad h))
theorem take_bad {d : Dec} (h : d.bad = true) (a b c : Nat) : (d.take a b c).bad = true := wide_bad h
theorem short_turn {d d' : Dec} {x : UInt8} (h : Short d d' x) : Short (Rc.turnD d) (Rc.turnD d') x ∨ (Rc.turnD d').bad = true := by
  obtain ⟨rest, code, size, bad⟩ := d
  obtain ⟨rest', code', size', bad'⟩ := d'
  obtain ⟨h1, h2, h3, h4⟩ := h
  dsimp only at h1 h2 h3 h4
  subst h2 h3 h4
  unfold Rc.turnD
  dsimp only
  by_cases hs : size' < 16777216
  · rw [if_pos hs, if_pos hs]
    cases rest' with
    | nil => exact .inr rfl
    | cons y t =>
      left
      subst h1
      exact ⟨rfl, rfl, rfl, rfl⟩
  · rw [if_neg hs, if_neg hs]
    exact .inl ⟨h1, rfl, rfl, rfl⟩
theorem short_wide {d d' : Dec} {x : UInt8} (h : Short d d' x) : Short (Rc.wide d) (Rc.wide d') x ∨ (Rc.wide d').bad = true := by
  rcases short_turn h with h1 | h1
  · rcases short_turn h1 with h2 | h2
    · exact short_turn h2
    · exact .inr (turnD_bad h2)
  · exact .inr (turnD_bad (turnD_bad h1))
theorem short_take {d d' : Dec} {x : UInt8} (h : Short d d' x) (a b c : Nat) : Short (d.take a b c) (d'.take a b c) x ∨ (d'.take a b c).bad = true := by
  obtain ⟨h1, h2, h3, h4⟩ := h
  unfold Dec.take
  refine short_wide ⟨h1, ?_, ?_, h4⟩
  · rw [h2, h3]
  · rw [h3]
theorem getD_bad {d : Dec} (h : d.bad = true) (l : Tl) (N : Nat → Bool) : (getD d l N).1.bad = true := by
  unfold getD
  split <;> exact take_bad h _ _ _
theorem getP_bad {r : Rw} : ∀ (k : Nat) (N : Nat → Bool) (d : Dec), d.bad = true → (getP r k N d).d.bad = true
  | 0, N, d, h => take_bad h _ _ _
  | k + 1, N, d, h => by
    unfold getP
    split
    · exact getD_bad h _ _
    · split
      · exact getD_bad h _ _
      · exact getP_bad k _ _ (getD_bad h _ _)
theorem where_short {d d' : Dec} {x : UInt8} (h : Short d d' x) (t : Nat) : d'.whereIn t = d.whereIn t := by
  unfold Dec.whereIn
  rw [h.2.1, h.2.2.1]
theorem getD_short {d d' : Dec} {x : UInt8} (h : Short d d' x) (l : Tl) (N : Nat → Bool) : (getD d' l N).2 = (getD d l N).2 ∧ (Short (getD d l N).1 (getD d' l N).1 x ∨ (getD d' l N).1.bad = true) := by
  unfold getD
  rw [where_short h]
  split <;> exact ⟨rfl, short_take h _ _ _⟩
theorem getP_short {r : Rw} {x : UInt8} : ∀ (k : Nat) (N : Nat → Bool) (d d' : Dec), Short d d' x →
    ((getP r k N d').s = (getP r k N d).s ∧ (getP r k N d').k = (getP r k N d).k ∧ (getP r k N d').ok = (getP r k N d).ok ∧ Short (getP r k N d).d (getP r k N d').d x) ∨ (getP r k N d').d.bad = true
  | 0, N, d, d', h => by
    unfold getP
    rw [where_short h]
    rcases short_take h (free N (otherOf N (d.whereIn (free N 256)))) 1 (free N 256) with h1 | h1
    · exact .inl ⟨rfl, rfl, rfl, h1⟩
    · exact .inr h1
  | k + 1, N, d, d', h => by
    obtain ⟨h1, h2⟩ := getD_short h (tabK r k) N
    rcases h2 with h2 | h2
    · unfold getP
      rw [h1]
      split
      · exact .inl ⟨rfl, rfl, rfl, h2⟩
      · split
        · exact .inl ⟨rfl, rfl, rfl, h2⟩
        · exact getP_short k _ _ _ h2
    · right
      unfold getP
      split
      · exact h2
      · split
        · exact h2
        · exact getP_bad k _ _ h2
theorem decP_short {x : UInt8} : ∀ (n : Nat) (r : Rw) (d d' : Dec) (l : List Nat) (y : Rw × Dec × List Nat), Short d d' x → decP n r d l = some y →
    decP n r d' l = none ∨ ∃ d2, decP n r d' l = some (y.1, d2, y.2.2) ∧ Short y.2.1 d2 x
  | 0, r, d, d', l, y, h, hy => by
    simp only [decP, Option.some.injEq] at hy
    subst hy
    exact .inr ⟨d', rfl, h⟩
  | n + 1, r, d, d', l, y, h, hy => by
    unfold decP at hy ⊢
    rcases getP_short (r := r) r.pth.length noN d d' h with ⟨g1, g2, g3, g4⟩ | hb
    · rw [g1, g2, g3]
      have hbb := g4.2.2.2
      rw [hbb]
      split at hy
      · cases hy
      · rename_i hn
        rw [if_neg hn]
        exact decP_short n _ _ _ _ y g4 hy
    · left
      rw [if_pos (.inr hb)]
theorem readN_bad : ∀ (n : Nat) (d : Dec), d.bad = true → (Rc.readN n d).bad = true
  | 0, _, h => h
  | n + 1, d, h => next_bad (readN_bad n d h)
theorem short_step {d d' : Dec} {x : UInt8} (h : Short d d' x) : Short (Rc.stepD d) (Rc.stepD d') x ∨ (Rc.stepD d').bad = true := by
  obtain ⟨rest, code, size, bad⟩ := d
  obtain ⟨rest', code', size', bad'⟩ := d'
  obtain ⟨h1, h2, h3, h4⟩ := h
  dsimp only at h1 h2 h3 h4
  subst h2 h3 h4
  unfold Rc.stepD
  cases rest' with
  | nil => exact .inr rfl
  | cons y t =>
    left
    subst h1
    exact ⟨rfl, rfl, rfl, rfl⟩
theorem short_readN {x : UInt8} : ∀ (n : Nat) (d d' : Dec), Short d d' x → Short (Rc.readN n d) (Rc.readN n d') x ∨ (Rc.readN n d').bad = true
  | 0, _, _, h => .inl h
  | n + 1, d, d', h => by
    rcases short_readN n d d' h with h1 | h1
    · exact short_step h1
    · exact .inr (next_bad h1)
theorem short_read (t : List UInt8) (x : UInt8) : Short (Dec.read (0 :: (t ++ [x]))) (Dec.read (0 :: t)) x ∨ (Dec.read (0 :: t)).bad = true := by
  have h := short_readN 4 (Rc.Dec.fresh (0 :: (t ++ [x]))).next (Rc.Dec.fresh (0 :: t)).next (x := x) ⟨rfl, rfl, rfl, rfl⟩
  have e1 : (Rc.Dec.fresh (0 :: (t ++ [x]))).byte = 0 := rfl
  have e2 : (Rc.Dec.fresh (0 :: t)).byte = 0 := rfl
  unfold Dec.read
  rw [if_pos e1, if_pos e2]
  exact h
theorem decP_bad : ∀ (n : Nat) (r : Rw) (d : Dec) (l : List Nat), d.bad = true → endV (decP n r d l) = none
  | 0, r, d, l, h => by unfold decP endV; dsimp only; rw [if_neg (by rw [h]; simp)]
  | n + 1, r, d, l, h => by
    unfold decP
    rw [if_pos (.inr (getP_bad _ _ _ h))]
    rfl
/-- With a byte less it doesn't come back. -/
theorem decV_less (l : List Nat) (hl : ∀ s ∈ l, s < 256) (o c : Int) : decV (encV l o c).dropLast o c l.length = none := by
  obtain ⟨k1, k2, k3⟩ := runP_ok l (Rw.new o c, Enc.start) hl (Rw.new_ok o c) Rc.fine_start
  have ha : Ahead (runP (Rw.new o c, Enc.start) l).2 (runP (Rw.new o c, Enc.start) l).2.low (runP (Rw.new o c, Enc.start) l).2.turns := Rc.ahead_self (by have := k2.1; omega)
  have h0 := ahead_run l (Rw.new o c, Enc.start) hl (Rw.new_ok o c) Rc.fine_start ha
  have hf := Rc.follows_start (more := []) h0
  obtain ⟨d1, e1, e2⟩ := decP_back l (Rw.new o c, Enc.start) _ [] hl (Rw.new_ok o c) Rc.fine_start hf ha
  obtain ⟨f1, f2, f3⟩ := Rc.follows_end e2
  rw [List.append_nil] at e1
  unfold decV encV
  rw [bytes_start]
  have hne : be ((runP (Rw.new o c, Enc.start) l).2.turns + 4) (runP (Rw.new o c, Enc.start) l).2.low ≠ [] := fun h => by
    have := Rc.be_length ((runP (Rw.new o c, Enc.start) l).2.turns + 4) (runP (Rw.new o c, Enc.start) l).2.low
    rw [h] at this
    simp at this
  rw [List.dropLast_cons_of_ne_nil hne]
  obtain ⟨t, x, htx⟩ : ∃ t x, be ((runP (Rw.new o c, Enc.start) l).2.turns + 4) (runP (Rw.new o c, Enc.start) l).2.low = t ++ [x] := ⟨_, _, (List.dropLast_concat_getLast hne).symm⟩
  rw [htx] at e1 ⊢
  rw [List.dropLast_concat]
  rcases short_read t x with hsh | hb
  · rcases decP_short _ _ _ _ _ _ hsh e1 with h1 | ⟨d2, h1, h2⟩
    · rw [h1]; rfl
    · exfalso
      have := h2.1
      rw [f1] at this
      simp at this
  · exact decP_bad _ _ _ _ hb
end Go.Proofs.Yteacmcckhjabmaa.Pp
