/-
  Package ppm, mathematics: a sign is put, and got, behind the tables of the last bytes; what was put is got again; with a byte more, or one less, it isn't.
-/
import Derived.Test.YteacmcckhjabmaaCtxOk
import Derived.Test.YteacmcckhjabmaaFreqGot
import Derived.Test.YteacmcckhjabmaaFreqSet
set_option linter.unusedVariables false
namespace Go.Proofs.Yteacmcckhjabmaa.Pp
open Fq Cx
open Rc (Enc Dec Ahead Follows Fine be)
def tabK (r : Rw) (k : Nat) : Tl := match r.pth[k]? with
  | none => []
  | some i => (r.K i).getD []
def ruleN (N : Nat → Bool) (l : Tl) : Nat → Bool := fun s => N s || decide (s ∈ l.map (·.1))
def noN : Nat → Bool := fun _ => false
/-- A sign is put behind so many tables: the encoder, and behind how many bytes it was found. -/
def putP (r : Rw) (s : Nat) : Nat → (Nat → Bool) → Enc → Enc × Int
  | 0, N, e => (e.part (free N s) 1 (free N 256), -1)
  | k + 1, N, e => if (putE e (tabK r k) N s).2 = true then ((putE e (tabK r k) N s).1, (k : Int)) else putP r s k (ruleN N (tabK r k)) (putE e (tabK r k) N s).1
/-- The sign below which so many are. -/
def otherOf (N : Nat → Bool) (v : Nat) : Nat := ((List.range 256).find? fun s => !N s && decide (free N s = v)).getD 0
structure Got where
  d : Dec
  s : Nat
  k : Int
  ok : Bool
def getP (r : Rw) : Nat → (Nat → Bool) → Dec → Got
  | 0, N, d => ⟨d.take (free N (otherOf N (d.whereIn (free N 256)))) 1 (free N 256), otherOf N (d.whereIn (free N 256)), -1, true⟩
  | k + 1, N, d => if (getD d (tabK r k) N).2.2 = true then ⟨(getD d (tabK r k) N).1, (getD d (tabK r k) N).2.1, (k : Int), true⟩
    else if cnt (ruleN N (tabK r k)) 256 = 256 then ⟨(getD d (tabK r k) N).1, 0, 0, false⟩ else getP r k (ruleN N (tabK r k)) (getD d (tabK r k) N).1
theorem tabK_ok {r : Rw} (h : r.Ok) (k : Nat) : TOk (tabK r k) := by
  unfold tabK
  split
  · exact tok_nil
  · rename_i i hi
    cases hl : r.K i with
    | none => exact tok_nil
    | some l => exact (h.tab i l hl).2.2
theorem tabK_at {r : Rw} {k i : Nat} {l : Tl} (h1 : r.pth[k]? = some i) (h2 : r.K i = some l) : tabK r k = l := by
  unfold tabK
  rw [h1]
  dsimp only
  rw [h2]
  rfl
theorem all_tok {l : Tl} (h : TOk l) (N : Nat → Bool) : allOf N l ≤ 65536 := all_le N h.1 (by have := tok_len h; omega)
theorem other_ex {N : Nat → Bool} {v : Nat} : ∀ k, v < free N k → ∃ s, s < k ∧ N s = false ∧ free N s = v
  | 0, h => by simp [free] at h
  | k + 1, h => by
    by_cases hv : v < free N k
    · obtain ⟨s, h1, h2⟩ := other_ex k hv
      exact ⟨s, by omega, h2⟩
    · simp only [free] at h
      split at h
      · exact absurd h hv
      · rename_i hn
        exact ⟨k, by omega, by simpa using hn, by omega⟩
theorem other_spec {N : Nat → Bool} {v : Nat} (h : v < free N 256) : otherOf N v < 256 ∧ N (otherOf N v) = false ∧ free N (otherOf N v) = v := by
  obtain ⟨s, h1, h2, h3⟩ := other_ex 256 h
  unfold otherOf
  cases hf : (List.range 256).find? fun s => !N s && decide (free N s = v) with
  | none =>
    have := List.find?_eq_none.1 hf s (List.mem_range.2 h1)
    simp [h2, h3] at this
  | some t =>
    have ht := List.find?_some hf
    have hm := List.mem_range.1 (List.mem_of_find?_eq_some hf)
    simp only [Bool.and_eq_true, Bool.not_eq_true', decide_eq_true_eq] at ht
    exact ⟨hm, ht.1, ht.2⟩
theorem other_is {N : Nat → Bool} {s : Nat} (hs : s < 256) (hN : N s = false) : otherOf N (free N s) = s := by
  obtain ⟨h1, h2, h3⟩ := other_spec (N := N) (v := free N s) (by have := free_lt hN hs; omega)
  exact free_inj h2 hN h3
theorem part_not {N : Nat → Bool} {s : Nat} (hN : N s = false) : ∀ (l : Tl) (st : Nat), partOf N s l st = none → s ∉ l.map (·.1)
  | [], st, _ => by simp
  | x :: l, st, h => by
    unfold partOf at h
    simp only [List.map_cons, List.mem_cons, not_or]
    by_cases hx : N x.1 = true
    · rw [if_pos hx] at h
      exact ⟨(fun e => by rw [← e, hN] at hx; cases hx), part_not hN l st h⟩
    · rw [if_neg hx] at h
      by_cases hs : x.1 = s
      · rw [if_pos hs] at h; cases h
      · rw [if_neg hs] at h
        exact ⟨fun e => hs e.symm, part_not hN l _ h⟩
theorem rule_not {N : Nat → Bool} {s : Nat} {l : Tl} {e : Enc} (hN : N s = false) (h : (putE e l N s).2 = false) : ruleN N l s = false := by
  unfold putE at h
  cases hp : partOf N s l 0 with
  | none =>
    unfold ruleN
    rw [hN]
    simpa using part_not hN l 0 hp
  | some x =>
    rw [hp] at h
    cases h
/-- What a table puts is a part. -/
theorem putE_part {l : Tl} (h : TOk l) (e : Enc) (N : Nat → Bool) (s : Nat) : ∃ a n c, (putE e l N s).1 = e.part a n c ∧ 1 ≤ n ∧ a + n ≤ c ∧ c ≤ 65536 := by
  have hall := all_tok h N
  have hno : 1 ≤ noneOf N l := by unfold noneOf; omega
  have hae : allOf N l = total (allow N l) + noneOf N l := rfl
  unfold putE
  cases hp : partOf N s l 0 with
  | none => exact ⟨_, _, _, rfl, hno, by omega, hall⟩
  | some x =>
    obtain ⟨a, n⟩ := x
    have hb := part_bound N s l 0 a n h.1 hp
    exact ⟨a, n, _, rfl, hb.2.1, by omega, hall⟩
theorem free_pos {N : Nat → Bool} (h : cnt N 256 ≠ 256) : 1 ≤ free N 256 := by
  have := cnt_free N 256
  omega
theorem free_le (N : Nat → Bool) (k : Nat) : free N k ≤ k := by
  have := cnt_free N k
  omega
theorem where_lt (d : Dec) {t : Nat} (h : 1 ≤ t) : d.whereIn t < t := by
  unfold Dec.whereIn
  omega
theorem putP_fine {r : Rw} (h : r.Ok) {s : Nat} (hs : s < 256) : ∀ (k : Nat) (N : Nat → Bool) (e : Enc), N s = false → Fine e → Fine (putP r s k N e).1 ∧ (putP r s k N e).1.turns ≤ e.turns + 3 * (k + 1)
  | 0, N, e, hN, hf => by
    have h1 := free_lt hN hs
    have h2 := free_le N 256
    unfold putP
    exact ⟨Rc.fine_part hf (Nat.le_refl _) h1 (by omega), by have := Rc.part_turns e (free N s) 1 (free N 256); show (e.part _ _ _).turns ≤ _; omega⟩
  | k + 1, N, e, hN, hf => by
    obtain ⟨a, n, c, he, h1, h2, h3⟩ := putE_part (tabK_ok h k) e N s
    have hf1 : Fine (putE e (tabK r k) N s).1 := by rw [he]; exact Rc.fine_part hf h1 h2 h3
    have ht1 : (putE e (tabK r k) N s).1.turns ≤ e.turns + 3 := by rw [he]; exact Rc.part_turns _ _ _ _
    unfold putP
    by_cases hb : (putE e (tabK r k) N s).2 = true
    · rw [if_pos hb]
      exact ⟨hf1, by show (putE e (tabK r k) N s).1.turns ≤ _; omega⟩
    · rw [if_neg hb]
      obtain ⟨g1, g2⟩ := putP_fine h hs k (ruleN N (tabK r k)) (putE e (tabK r k) N s).1 (rule_not hN (by simpa using hb)) hf1
      exact ⟨g1, by omega⟩
theorem ahead_putP {r : Rw} (h : r.Ok) {s : Nat} (hs : s < 256) {F T : Nat} : ∀ (k : Nat) (N : Nat → Bool) (e : Enc), N s = false → Ahead (putP r s k N e).1 F T → Ahead e F T
  | 0, N, e, hN, ha => Rc.ahead_part (free_lt hN hs) ha
  | k + 1, N, e, hN, ha => by
    obtain ⟨a, n, c, he, h1, h2, h3⟩ := putE_part (tabK_ok h k) e N s
    have key : Ahead (putE e (tabK r k) N s).1 F T := by
      unfold putP at ha
      by_cases hb : (putE e (tabK r k) N s).2 = true
      · rw [if_pos hb] at ha; exact ha
      · rw [if_neg hb] at ha
        exact ahead_putP h hs k _ _ (rule_not hN (by simpa using hb)) ha
    rw [he] at key
    exact Rc.ahead_part h2 key
/-- What was put is got. -/
theorem getP_back {r : Rw} (h : r.Ok) {s : Nat} (hs : s < 256) {F T : Nat} {more : List UInt8} : ∀ (k : Nat) (N : Nat → Bool) (e : Enc) (d : Dec), N s = false → Fine e → Follows d e F T more → Ahead (putP r s k N e).1 F T →
    (getP r k N d).s = s ∧ (getP r k N d).k = (putP r s k N e).2 ∧ (getP r k N d).ok = true ∧ Follows (getP r k N d).d (putP r s k N e).1 F T more
  | 0, N, e, d, hN, hfi, hf, ha => by
    have h1 := free_lt hN hs
    have h2 := free_le N 256
    unfold putP at ha ⊢
    obtain ⟨g1, g2, g3⟩ := Rc.follows_part hfi (Nat.le_refl 1) h1 (by omega) hf ha
    have hw : d.whereIn (free N 256) = free N s := by omega
    unfold getP
    rw [hw, other_is hs hN]
    exact ⟨rfl, rfl, rfl, g3⟩
  | k + 1, N, e, d, hN, hfi, hf, ha => by
    have hok := tabK_ok h k
    obtain ⟨a, n, c, he, h1, h2, h3⟩ := putE_part hok e N s
    have hf1 : Fine (putE e (tabK r k) N s).1 := by rw [he]; exact Rc.fine_part hfi h1 h2 h3
    have key : Ahead (putE e (tabK r k) N s).1 F T := by
      unfold putP at ha
      by_cases hb : (putE e (tabK r k) N s).2 = true
      · rw [if_pos hb] at ha; exact ha
      · rw [if_neg hb] at ha
        exact ahead_putP h hs k _ _ (rule_not hN (by simpa using hb)) ha
    obtain ⟨g1, g2⟩ := getD_back hfi hok.1 (all_tok hok N) hf key
    unfold putP at ha ⊢
    unfold getP
    rw [g1]
    by_cases hb : (putE e (tabK r k) N s).2 = true
    · rw [if_pos hb] at ha
      rw [if_pos hb, if_pos hb, if_pos hb]
      exact ⟨rfl, rfl, rfl, g2⟩
    · rw [if_neg hb] at ha
      have hr := rule_not (e := e) hN (by simpa using hb)
      have hc : cnt (ruleN N (tabK r k)) 256 ≠ 256 := by
        have := free_lt hr hs
        have := cnt_free (ruleN N (tabK r k)) 256
        omega
      rw [if_neg hb, if_neg hb, if_neg hc]
      exact getP_back h hs k _ _ _ hr hf1 g2 ha
end Go.Proofs.Yteacmcckhjabmaa.Pp
