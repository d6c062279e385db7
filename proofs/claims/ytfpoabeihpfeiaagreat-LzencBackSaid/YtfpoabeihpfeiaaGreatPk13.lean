/-
  Layer 9 in plain numbers: the state behind a packet, a number's slot, a slot's base.
  Plain mathematics of layer 10: probabilities by their names; what coding does to them, and to a coder.
  Package model: what its probabilities are in memory ('LikAt').
  Package model: what bits go to, and come from: contracts of the ten methods of encoding and decoding.
  Package model: lengths as bits: contracts of lengths.code, for both kinds of coders.
-/
import Derived.Test.YtfpoabeihpfeiaaGreatPk01
import Derived.Test.YtfpoabeihpfeiaaGreatPk12
import Derived.Deep.RegionHeld3
import Derived.BigRegion
import Derived.StillTailTactics
set_option maxRecDepth 100000
set_option maxHeartbeats 16000000
set_option linter.unusedVariables false
set_option linter.unusedSimpArgs false
open Go.Lib (hid)
section
namespace Go.Proofs.YtfpoabeihpfeiaaGreat.St
def nxt (s k : Int) : Int :=
 if k = 1 then (if s < 4 then 0 else if s < 10 then s - 3 else s - 6)
 else if k = 2 then (if s < 7 then 7 else 10)
 else if k = 3 then (if s < 7 then 8 else 11)
 else if k = 4 then (if s < 7 then 9 else 11) else s
theorem nxt_in {s k : Int} (h0 : 0 <= s) (h1 : s <= 11) : 0 <= nxt s k /\ nxt s k <= 11 := by
 unfold nxt
 repeat' split
 all_goals omega
def slot (d : Nat) : Nat := if d < 4 then d else if d < 2 ^ d.log2 + 2 ^ (d.log2 - 1) then 2 * d.log2 else 2 * d.log2 + 1
def base (k : Nat) : Nat := if k < 4 then k else (2 + k % 2) * 2 ^ (k / 2 - 1)
def more (k : Nat) : Nat := if k < 4 then 0 else k / 2 - 1
theorem pow_split {n : Nat} (h : 1 <= n) : 2 ^ n = 2 * 2 ^ (n - 1) := by
 obtain ⟨m, rfl⟩ : ∃ m, n = m + 1 := ⟨n - 1, by omega⟩
 rw [Nat.add_sub_cancel, Nat.pow_succ, Nat.mul_comm]
theorem log_spec {d : Nat} (h : 4 <= d) : 2 ^ d.log2 <= d /\ d < 2 * 2 ^ d.log2 /\ 2 <= d.log2 := by
 have h0 : d ≠ 0 := by omega
 refine ⟨Nat.log2_self_le h0, ?_, (Nat.le_log2 h0).2 (by omega)⟩
 have := Nat.lt_log2_self (n := d)
 rw [Nat.pow_succ] at this
 omega
theorem log_uniq {d n : Nat} (h1 : 2 ^ n <= d) (h2 : d < 2 * 2 ^ n) : d.log2 = n := by
 have h0 : d ≠ 0 := by have := Nat.two_pow_pos n; omega
 have a := (Nat.le_log2 h0).2 h1
 have b : d.log2 < n + 1 := (Nat.log2_lt h0).2 (by rw [Nat.pow_succ]; omega)
 omega
theorem slot_bit {d : Nat} (h : 4 <= d) : slot d = 2 * d.log2 + d / 2 ^ (d.log2 - 1) % 2 := by
 obtain ⟨h1, h2, h3⟩ := log_spec h
 have hp := pow_split (n := d.log2) (by omega)
 have hq := Nat.two_pow_pos (d.log2 - 1)
 unfold slot
 rw [if_neg (by omega)]
 generalize 2 ^ (d.log2 - 1) = q at *
 by_cases hs : d < 2 ^ d.log2 + q
 · rw [if_pos hs]
   have : d / q = 2 := Nat.div_eq_of_lt_le (by omega) (by omega)
   rw [this]; omega
 · rw [if_neg hs]
   have : d / q = 3 := Nat.div_eq_of_lt_le (by omega) (by omega)
   rw [this]
theorem slot_lt {d : Nat} (h : d < 4294967296) : slot d < 64 := by
 by_cases h4 : d < 4
 · unfold slot; rw [if_pos h4]; omega
 · rw [slot_bit (by omega)]
   have : d.log2 < 32 := (Nat.log2_lt (by omega)).2 (by omega)
   omega
theorem base_slot (d : Nat) : base (slot d) <= d /\ d - base (slot d) < 2 ^ more (slot d) := by
 by_cases h4 : d < 4
 · have e : slot d = d := by unfold slot; rw [if_pos h4]
   rw [e]; unfold base more; rw [if_pos h4, if_pos h4]; omega
 · obtain ⟨h1, h2, h3⟩ := log_spec (d := d) (by omega)
   have hp := pow_split (n := d.log2) (by omega)
   have hq := Nat.two_pow_pos (d.log2 - 1)
   have h5 : 4 <= slot d := by rw [slot_bit (by omega)]; omega
   unfold base more
   rw [if_neg (by omega), if_neg (by omega)]
   unfold slot
   rw [if_neg (by omega)]
   by_cases hs : d < 2 ^ d.log2 + 2 ^ (d.log2 - 1)
   · rw [if_pos hs, show 2 * d.log2 / 2 - 1 = d.log2 - 1 by omega, show 2 * d.log2 % 2 = 0 by omega]
     generalize 2 ^ (d.log2 - 1) = q at *
     omega
   · rw [if_neg hs, show (2 * d.log2 + 1) / 2 - 1 = d.log2 - 1 by omega, show (2 * d.log2 + 1) % 2 = 1 by omega]
     generalize 2 ^ (d.log2 - 1) = q at *
     omega
theorem base_lt {k : Nat} (h : k < 64) : base k < 4294967296 := by
 unfold base
 split
 · omega
 · have : 2 ^ (k / 2 - 1) <= 2 ^ 30 := Nat.pow_le_pow_right (by omega) (by omega)
   have h3 : (2 + k % 2) * 2 ^ (k / 2 - 1) <= 3 * 2 ^ 30 := Nat.mul_le_mul (by omega) this
   omega
def blen (d : Nat) : Nat := if d = 0 then 0 else d.log2 + 1
theorem blen_shift {d : Nat} (n : Nat) (h : 2 ^ n <= d) : blen d = n + blen (d / 2 ^ n) := by
 have hq := Nat.two_pow_pos n
 have h1 : 0 < d / 2 ^ n := Nat.div_pos h hq
 unfold blen
 rw [if_neg (by omega), if_neg (by omega)]
 have e : (d / 2 ^ n).log2 = d.log2 - n := by
  apply log_uniq
  · have := Nat.log2_self_le (n := d) (by omega)
    have hn : n <= d.log2 := (Nat.le_log2 (by omega)).2 h
    rw [Nat.le_div_iff_mul_le hq, <- Nat.pow_add, Nat.sub_add_cancel hn]
    exact this
  · have := Nat.lt_log2_self (n := d)
    have hn : n <= d.log2 := (Nat.le_log2 (by omega)).2 h
    rw [Nat.div_lt_iff_lt_mul hq, Nat.mul_comm 2, <- Nat.pow_succ, <- Nat.pow_add, show d.log2 - n + 1 + n = d.log2 + 1 by omega]
    exact this
 have hn : n <= d.log2 := (Nat.le_log2 (by omega)).2 h
 omega
end Go.Proofs.YtfpoabeihpfeiaaGreat.St
end
section
namespace Go.Proofs.YtfpoabeihpfeiaaGreat.Mo
open Rc
abbrev Qs := Nat -> Nat -> Nat -> Nat
def qone (Q : Qs) (a b c x : Nat) : Qs := fun a' b' c' => if a' = a /\ b' = b /\ c' = c then x else Q a' b' c'
def qset (Q : Qs) (a b : Nat) (l : List Nat) : Qs := fun a' b' j => if a' = a /\ b' = b /\ j < l.length then l.getD j 0 else Q a' b' j
def tl (Q : Qs) (a b n : Nat) : List Nat := (List.range n).map (Q a b)
theorem tl_length (Q : Qs) (a b n : Nat) : (tl Q a b n).length = n := by simp [tl]
theorem tl_qset (Q : Qs) (a b : Nat) (l : List Nat) : tl (qset Q a b l) a b l.length = l := by
 apply List.ext_getElem
 · simp [tl]
 · intro i h1 h2
   simp [tl, qset, h2]
theorem tl_other {Q : Qs} {a b a' b' n : Nat} (l : List Nat) (h : ¬ (a' = a /\ b' = b)) : tl (qset Q a b l) a' b' n = tl Q a' b' n := by
 unfold tl
 apply List.map_congr_left
 intro j _
 unfold qset
 rw [if_neg (fun e => h ⟨e.1, e.2.1⟩)]
theorem tl_one {Q : Qs} {a b c a' b' n x : Nat} (h : ¬ (a' = a /\ b' = b)) : tl (qone Q a b c x) a' b' n = tl Q a' b' n := by
 unfold tl
 apply List.map_congr_left
 intro j _
 unfold qone
 rw [if_neg (fun e => h ⟨e.1, e.2.1⟩)]
def QOk (Q : Qs) : Prop := ∀ a b c, 31 <= Q a b c /\ Q a b c <= 2017
theorem QOk.tl {Q : Qs} (h : QOk Q) (a b n : Nat) : Probs (tl Q a b n) := by
 intro x hx
 obtain ⟨j, _, rfl⟩ := List.mem_map.1 hx
 exact h a b j
theorem QOk.one {Q : Qs} (h : QOk Q) (a b c : Nat) {x : Nat} (hx : 31 <= x /\ x <= 2017) : QOk (qone Q a b c x) := by
 intro a' b' c'
 unfold qone
 split
 · exact hx
 · exact h a' b' c'
theorem QOk.set {Q : Qs} (h : QOk Q) (a b : Nat) {l : List Nat} (hl : Probs l) : QOk (qset Q a b l) := by
 intro a' b' c'
 unfold qset
 split
 · rename_i e
   exact probs_get hl e.2.2
 · exact h a' b' c'
structure Es where
 e : Enc
 q : Qs
def Es.one (s : Es) (a b c v : Nat) : Es := ⟨s.e.bit (s.q a b c) v, qone s.q a b c (learn (s.q a b c) v)⟩
def Es.t0 (s : Es) (a b len : Nat) : Tr := ⟨s.e, tl s.q a b len, 1⟩
def Es.tr (s : Es) (back : Bool) (a b len n v : Nat) : Es := ⟨(putN back n v (s.t0 a b len) n).e, qset s.q a b (putN back n v (s.t0 a b len) n).l⟩
def Es.like (s : Es) (a b v o : Nat) : Es := ⟨(likeN v o (s.t0 a b 768) 8).1.e, qset s.q a b (likeN v o (s.t0 a b 768) 8).1.l⟩
def Es.dir (s : Es) (v n : Nat) : Es := ⟨directN v n s.e n, s.q⟩
structure Es.Ok (s : Es) : Prop where
 fine : Fine s.e
 q : QOk s.q
theorem Es.Ok.t0 {s : Es} (h : s.Ok) (a b len : Nat) : (s.t0 a b len).Ok len 0 := ⟨h.fine, h.q.tl a b len, tl_length _ _ _ _, by show 1 < 2 ^ (0 + 1); omega⟩
theorem Es.Ok.one {s : Es} (h : s.Ok) (a b c v : Nat) : (s.one a b c v).Ok := by
 have hp := h.q a b c
 exact ⟨fine_bit h.fine (by omega) (by omega), h.q.one a b c (learn_in hp.1 hp.2)⟩
theorem Es.Ok.tr {s : Es} (h : s.Ok) (back : Bool) (a b : Nat) {len n : Nat} (v : Nat) (hn : 2 ^ n <= len) : (s.tr back a b len n v).Ok := by
 have hk := putN_okM back n v (h.t0 a b len) hn n (Nat.le_refl _)
 exact ⟨hk.1, h.q.set a b hk.2.1⟩
theorem Es.one_turns (s : Es) (a b c v : Nat) : (s.one a b c v).e.turns <= s.e.turns + 3 := at_turns ⟨s.e, [s.q a b c], 0⟩ 0 v
theorem Es.tr_turns (s : Es) (back : Bool) (a b len n v : Nat) : (s.tr back a b len n v).e.turns <= s.e.turns + 3 * n := putN_turns back n v _ n
structure Ds where
 d : Dec
 q : Qs
def Ds.bit (s : Ds) (a b c : Nat) : Nat := s.d.bitOf (s.q a b c)
def Ds.one (s : Ds) (a b c : Nat) : Ds := ⟨s.d.getBit (s.q a b c), qone s.q a b c (learn (s.q a b c) (s.bit a b c))⟩
def Ds.t0 (s : Ds) (a b len : Nat) : Td := ⟨s.d, tl s.q a b len, 1, 0⟩
def Ds.trV (s : Ds) (back : Bool) (a b len n : Nat) : Nat := (getN back (s.t0 a b len) n).v
def Ds.tr (s : Ds) (back : Bool) (a b len n : Nat) : Ds := ⟨(getN back (s.t0 a b len) n).d, qset s.q a b (getN back (s.t0 a b len) n).l⟩
def Ds.likeV (s : Ds) (a b o : Nat) : Nat := (gotLike o (s.t0 a b 768) 8).1.m % 256
def Ds.like (s : Ds) (a b o : Nat) : Ds := ⟨(gotLike o (s.t0 a b 768) 8).1.d, qset s.q a b (gotLike o (s.t0 a b 768) 8).1.l⟩
def Ds.dirV (s : Ds) (n : Nat) : Nat := (gotN s.d n).2
def Ds.dir (s : Ds) (n : Nat) : Ds := ⟨(gotN s.d n).1, s.q⟩
structure Ds.Ok (s : Ds) : Prop where
 fine : FineD s.d
 q : QOk s.q
theorem Ds.Ok.t0 {s : Ds} (h : s.Ok) (a b len : Nat) : (s.t0 a b len).Ok len 0 := ⟨h.fine, h.q.tl a b len, tl_length _ _ _ _, by show 1 < 2 ^ (0 + 1); omega, by show 0 < 2 ^ 0; omega⟩
theorem Ds.bit_le (s : Ds) (a b c : Nat) : s.bit a b c <= 1 := bitOf_le _ _
theorem Ds.Ok.one {s : Ds} (h : s.Ok) (a b c : Nat) : (s.one a b c).Ok := by
 have hp := h.q a b c
 exact ⟨fine_getBit h.fine (by omega) (by omega), h.q.one a b c (learn_in hp.1 hp.2)⟩
theorem Ds.Ok.tr {s : Ds} (h : s.Ok) (back : Bool) (a b : Nat) {len n : Nat} (hn : 2 ^ n <= len) : (s.tr back a b len n).Ok /\ s.trV back a b len n < 2 ^ n := by
 have hk := getN_okM back n (h.t0 a b len) hn n (Nat.le_refl _)
 exact ⟨⟨hk.1, h.q.set a b hk.2.1⟩, hk.2.2.2.2⟩
def isOne (a b c : Nat) : Prop := (a = 1 /\ b < 12 /\ c < 16) \/ (a = 4 /\ b < 12 /\ c < 16) \/ ((a = 2 \/ a = 3 \/ a = 5 \/ a = 6) /\ b < 12 /\ c = 0) \/ ((a = 200 \/ a = 201) /\ b < 2 /\ c = 0)
def off (a b c : Nat) : Nat :=
 if a = 1 then 16 * b + c else if a = 2 then 192 + b else if a = 3 then 204 + b else if a = 5 then 216 + b else if a = 6 then 228 + b
 else if a = 4 then 240 + (16 * b + c) else if a = 200 then 433 + b else 468 + b
def isTree (nb a b : Nat) : Prop := (a = 100 /\ b < nb) \/ ((a = 210 \/ a = 211 \/ a = 220 \/ a = 221) /\ b < 16) \/ ((a = 230 \/ a = 231 \/ a = 320) /\ b = 0) \/ (a = 300 /\ b < 4) \/ (a = 310 /\ b < 14)
def tlen (a b : Nat) : Nat :=
 if a = 100 then 768 else if a = 230 \/ a = 231 then 256 else if a = 300 then 64 else if a = 310 then 2 ^ St.more b else if a = 320 then 16 else 8
def tcap (a b : Nat) : Nat := if a = 100 then 1024 else tlen a b
def toff (a b : Nat) : Nat :=
 if a = 210 then 435 + b else if a = 220 then 451 + b else if a = 230 then 467 else if a = 211 then 470 + b else if a = 221 then 486 + b else if a = 231 then 502
 else if a = 300 then 503 + b else if a = 310 then 507 + b else 521
theorem off_inj {a b c a' b' c' : Nat} (h : isOne a b c) (h' : isOne a' b' c') (e : off a b c = off a' b' c') : a' = a /\ b' = b /\ c' = c := by
 unfold isOne at h h'
 unfold off at e
 rcases h with ⟨rfl, _, _⟩ | ⟨rfl, _, _⟩ | ⟨rfl | rfl | rfl | rfl, _, _⟩ | ⟨rfl | rfl, _, _⟩ <;>
  rcases h' with ⟨rfl, _, _⟩ | ⟨rfl, _, _⟩ | ⟨rfl | rfl | rfl | rfl, _, _⟩ | ⟨rfl | rfl, _, _⟩ <;> simp at e <;> omega
theorem off_toff {nb a b c a' b' : Nat} (h : isOne a b c) (h' : isTree nb a' b') (h100 : a' ≠ 100) : off a b c ≠ toff a' b' := by
 unfold isOne at h
 unfold isTree at h'
 unfold off toff
 rcases h with ⟨rfl, _, _⟩ | ⟨rfl, _, _⟩ | ⟨rfl | rfl | rfl | rfl, _, _⟩ | ⟨rfl | rfl, _, _⟩ <;>
  rcases h' with ⟨rfl, _⟩ | ⟨rfl | rfl | rfl | rfl, _⟩ | ⟨rfl | rfl | rfl, _⟩ | ⟨rfl, _⟩ | ⟨rfl, _⟩ <;> simp <;> omega
theorem one_tree {nb a b c a' b' : Nat} (h : isOne a b c) (h' : isTree nb a' b') : a' ≠ a := by
 unfold isOne at h
 unfold isTree at h'
 omega
end Go.Proofs.YtfpoabeihpfeiaaGreat.Mo
end
section
namespace Go.Proofs.YtfpoabeihpfeiaaGreat.Mo
open Go.RowKit
open Rc
def re (O : Paint) (g f : Nat) : Paint := fun k => if k = g then f else O k
theorem re_same (O : Paint) (g f : Nat) : re O g f g = f := by unfold re; rw [if_pos rfl]
theorem re_other {O : Paint} {g f k : Nat} (h : k ≠ g) : re O g f k = O k := by unfold re; rw [if_neg h]
theorem Blk_re {w : World} {O : Paint} {c k g f : Nat} {o : Obj} (h : Blk w O c k o) (hg : O g ≠ c) : Blk w (re O g f) c k o := ⟨h.1, by rw [re_other (by rintro rfl; exact hg h.2)]; exact h.2⟩
theorem Held_re {w : World} {O : Paint} {c g f : Nat} {e : TypeId} {v : Value} {xs : List Value} (h : Held w O c e v xs) (hg : O g ≠ c) : Held w (re O g f) c e v xs := ⟨h.row, fun k hk => by rw [re_other (by rintro rfl; exact hg (h.paint _ hk))]; exact h.paint k hk⟩
theorem Held_re_own {w : World} {O : Paint} {c g f n cap : Nat} {e : TypeId} {xs : List Value} (h : Held w O c e (.slice (some ⟨g, 0, none⟩) n cap) xs) : Held w (re O g f) f e (.slice (some ⟨g, 0, none⟩) n cap) xs :=
 ⟨h.row, fun k hk => by simp [Value.ownBlock] at hk; subst hk; exact re_same _ _ _⟩
theorem EncAt_re {w : World} {O : Paint} {c a g f : Nat} {e : Enc} (h : EncAt w O c a e) (hg : O g ≠ c) : EncAt w (re O g f) c a e := by
 obtain ⟨⟨g', cap, h1, h2⟩, h3⟩ := h
 exact ⟨⟨g', cap, Blk_re h1 hg, Held_re h2 hg⟩, h3⟩
theorem DecAt_re {w : World} {O : Paint} {c a tot g f : Nat} {d : Dec} (h : DecAt w O c a d tot) (hg : O g ≠ c) : DecAt w (re O g f) c a d tot := by
 obtain ⟨⟨s, r, h1, h2⟩, h3⟩ := h
 exact ⟨⟨s, r, Blk_re h1 hg, h2⟩, h3⟩
theorem fresh (O : Paint) (n c d : Nat) : ∃ f, f ≠ c /\ f ≠ d /\ ∀ k, k < n -> O k ≠ f := by
 have : ∃ B, ∀ k, k < n -> O k < B := by
  induction n with
  | zero => exact ⟨0, fun k h => by omega⟩
  | succ n ih =>
   obtain ⟨B, hB⟩ := ih
   refine ⟨B + O n + 1, fun k hk => ?_⟩
   by_cases e : k = n
   · subst e; omega
   · have := hB k (by omega); omega
 obtain ⟨B, hB⟩ := this
 exact ⟨B + c + d + 1, by omega, by omega, fun k hk => by have := hB k hk; omega⟩
theorem step_back {w w' : World} {O O1 : Paint} {c cm g f : Nat} (hs : Step [c, f] w (re O g f) w' O1) (hg : O g = cm) (hf : ∀ k, k < w.heap.size -> O k ≠ f) : Step [c, cm] w O w' (re O1 g cm) := by
 refine ⟨⟨hs.frame.os, hs.frame.tape, hs.frame.output, hs.size, fun k hk hn => hs.block hk (fun hm => ?_)⟩, fun k hk => ?_⟩
 · have hkg : k ≠ g := by rintro rfl; exact hn (by simp [hg])
   rw [re_other hkg] at hm
   rcases List.mem_cons.1 hm with h | h
   · exact hn (by simp [h])
   · exact hf k hk (by simpa using h)
 · by_cases e : k = g
   · subst e; rw [re_same, hg]
   · rw [re_other e, hs.ext k hk, re_other e]
structure LikAt (w : World) (O : Paint) (cm k gb cap nb : Nat) (tb : Nat -> Nat -> Nat) (Q : Qs) : Prop where
 kO : O k = cm /\ k < w.heap.size
 gO : O gb = cm /\ gb < w.heap.size
 kg : k ≠ gb
 one : ∀ a b c, isOne a b c -> w.cell? ⟨k, off a b c, none⟩ = some (.int .u16 ((Q a b c : Nat) : Int)) /\ w.frozen? ⟨k, off a b c, none⟩ = false
 list : w.cell? ⟨k, 432, none⟩ = some (.slice (some ⟨gb, 0, none⟩) nb cap)
 byte : ∀ b, b < nb -> w.cell? ⟨gb, b, none⟩ = some (.slice (some ⟨tb 100 b, 0, none⟩) 768 1024)
 tree : ∀ a b, isTree nb a b -> a ≠ 100 -> w.cell? ⟨k, toff a b, none⟩ = some (.slice (some ⟨tb a b, 0, none⟩) (tlen a b) (tcap a b))
 held : ∀ a b, isTree nb a b -> TreeAt w O cm (.slice (some ⟨tb a b, 0, none⟩) (tlen a b) (tcap a b)) (tl Q a b (tlen a b))
 inj : ∀ a b a' b', isTree nb a b -> isTree nb a' b' -> tb a b = tb a' b' -> a' = a /\ b' = b
 apart : ∀ a b, isTree nb a b -> tb a b ≠ k /\ tb a b ≠ gb
section
variable {cs : List Nat} {w w' : World} {O O' : Paint} {cm k gb cap nb : Nat} {tb : Nat -> Nat -> Nat} {Q : Qs}
theorem LikAt.step (h : LikAt w O cm k gb cap nb tb Q) (hs : Step cs w O w' O') (hc : cm ∉ cs) : LikAt w' O' cm k gb cap nb tb Q := by
 obtain ⟨k1, k2⟩ := h.kO
 obtain ⟨g1, g2⟩ := h.gO
 have ck : ∀ i, w'.cell? ⟨k, i, none⟩ = w.cell? ⟨k, i, none⟩ := fun i => hs.cell k2 (by show O k ∉ cs; rw [k1]; exact hc)
 have fk : ∀ i, w'.frozen? ⟨k, i, none⟩ = w.frozen? ⟨k, i, none⟩ := fun i => hs.frozen k2 (by show O k ∉ cs; rw [k1]; exact hc)
 have cg : ∀ i, w'.cell? ⟨gb, i, none⟩ = w.cell? ⟨gb, i, none⟩ := fun i => hs.cell g2 (by show O gb ∉ cs; rw [g1]; exact hc)
 exact ⟨⟨(hs.ext k k2).trans k1, Nat.lt_of_lt_of_le k2 hs.size⟩, ⟨(hs.ext gb g2).trans g1, Nat.lt_of_lt_of_le g2 hs.size⟩, h.kg, fun a b c hi => by rw [ck, fk]; exact h.one a b c hi, by rw [ck]; exact h.list, fun b hb => by rw [cg]; exact h.byte b hb,
  fun a b ht h1 => by rw [ck]; exact h.tree a b ht h1, fun a b ht => (h.held a b ht).step hs hc, h.inj, h.apart⟩
theorem LikAt.set (h : LikAt w O cm k gb cap nb tb Q) {a b c : Nat} (hi : isOne a b c) (x : Nat) : LikAt (w.setCell ⟨k, off a b c, none⟩ (.int .u16 x)) O cm k gb cap nb tb (qone Q a b c x) := by
 obtain ⟨k1, k2⟩ := h.kO
 obtain ⟨g1, g2⟩ := h.gO
 have ck : ∀ i, i ≠ off a b c -> (w.setCell ⟨k, off a b c, none⟩ (.int .u16 x)).cell? ⟨k, i, none⟩ = w.cell? ⟨k, i, none⟩ := fun i hi => World.cell?_setCell_other _ _ _ _ (by intro e; apply hi; injection e with _ e2 _; exact e2.symm)
 have cg : ∀ i, (w.setCell ⟨k, off a b c, none⟩ (.int .u16 x)).cell? ⟨gb, i, none⟩ = w.cell? ⟨gb, i, none⟩ := fun i => World.cell?_setCell_other _ _ _ _ (by intro e; injection e with e1 _ _; exact h.kg e1)
 have sz : (w.setCell ⟨k, off a b c, none⟩ (.int .u16 x)).heap.size = w.heap.size := World.size_setCell _ _ _
 have l432 : (432 : Nat) ≠ off a b c := by
  unfold isOne at hi
  unfold off
  rcases hi with ⟨rfl, _, _⟩ | ⟨rfl, _, _⟩ | ⟨rfl | rfl | rfl | rfl, _, _⟩ | ⟨rfl | rfl, _, _⟩ <;> simp <;> omega
 refine ⟨⟨k1, by rw [sz]; exact k2⟩, ⟨g1, by rw [sz]; exact g2⟩, h.kg, fun a' b' c' hi' => ⟨?_, by rw [World.frozen?_setCell]; exact (h.one a' b' c' hi').2⟩, by rw [ck _ l432]; exact h.list, fun b hb => by rw [cg]; exact h.byte b hb,
  fun a' b' ht h1 => by rw [ck _ (Ne.symm (off_toff hi ht h1))]; exact h.tree a' b' ht h1, fun a' b' ht => ?_, h.inj, h.apart⟩
 · unfold qone
   by_cases e : a' = a /\ b' = b /\ c' = c
   · obtain ⟨rfl, rfl, rfl⟩ := e
     rw [if_pos ⟨rfl, rfl, rfl⟩]
     exact World.cell?_setCell_same _ _ _ (h.one a' b' c' hi').1
   · rw [if_neg e, ck _ (fun he => e (off_inj hi hi' he.symm))]
     exact (h.one a' b' c' hi').1
 · rw [tl_one (fun e => one_tree hi ht e.1)]
   exact Held.setCell_other (h.held a' b' ht) (by simp [Value.ownBlock]; exact (h.apart a' b' ht).1) _
theorem LikAt.tree_set (h : LikAt w O cm k gb cap nb tb Q) {a b f c : Nat} (ht : isTree nb a b) {l : List Nat} (hl : l.length = tlen a b) (hf : f ≠ cm) (hc : c ≠ cm) {O1 : Paint} (hs : Step [c, f] w (re O (tb a b) f) w' O1)
  (hT : TreeAt w' O1 f (.slice (some ⟨tb a b, 0, none⟩) (tlen a b) (tcap a b)) l) : LikAt w' (re O1 (tb a b) cm) cm k gb cap nb tb (qset Q a b l) := by
 obtain ⟨a1, a2⟩ := h.apart a b ht
 obtain ⟨k1, k2⟩ := h.kO
 obtain ⟨g1, g2⟩ := h.gO
 have hcm : cm ∉ [c, f] := by simp; exact ⟨Ne.symm hc, Ne.symm hf⟩
 have rk : re O (tb a b) f k = cm := by rw [re_other (Ne.symm a1)]; exact k1
 have rg : re O (tb a b) f gb = cm := by rw [re_other (Ne.symm a2)]; exact g1
 have ck : ∀ i, w'.cell? ⟨k, i, none⟩ = w.cell? ⟨k, i, none⟩ := fun i => hs.cell k2 (by show re O (tb a b) f k ∉ _; rw [rk]; exact hcm)
 have fk : ∀ i, w'.frozen? ⟨k, i, none⟩ = w.frozen? ⟨k, i, none⟩ := fun i => hs.frozen k2 (by show re O (tb a b) f k ∉ _; rw [rk]; exact hcm)
 have cg : ∀ i, w'.cell? ⟨gb, i, none⟩ = w.cell? ⟨gb, i, none⟩ := fun i => hs.cell g2 (by show re O (tb a b) f gb ∉ _; rw [rg]; exact hcm)
 have hO1 : ∀ j, j ≠ tb a b -> j < w.heap.size -> re O1 (tb a b) cm j = O j := fun j h1 h2 => by rw [re_other h1, hs.ext j h2, re_other h1]
 refine ⟨⟨by rw [hO1 k (Ne.symm a1) k2]; exact k1, Nat.lt_of_lt_of_le k2 hs.size⟩, ⟨by rw [hO1 gb (Ne.symm a2) g2]; exact g1, Nat.lt_of_lt_of_le g2 hs.size⟩, h.kg, fun a' b' c' hi => ?_, by rw [ck]; exact h.list, fun b hb => by rw [cg]; exact h.byte b hb,
  fun a' b' ht' h1 => by rw [ck]; exact h.tree a' b' ht' h1, fun a' b' ht' => ?_, h.inj, h.apart⟩
 · have e : qset Q a b l a' b' c' = Q a' b' c' := by unfold qset; rw [if_neg (fun e => one_tree hi ht e.1.symm)]
   rw [e, ck, fk]
   exact h.one a' b' c' hi
 · by_cases e : a' = a /\ b' = b
   · obtain ⟨rfl, rfl⟩ := e
     rw [<- hl, tl_qset, hl]
     exact Held_re_own hT
   · rw [tl_other l e]
     have hne : tb a' b' ≠ tb a b := fun he => e (h.inj a b a' b' ht ht' he.symm)
     have hh := h.held a' b' ht'
     have h2 : TreeAt w (re O (tb a b) f) cm (.slice (some ⟨tb a' b', 0, none⟩) (tlen a' b') (tcap a' b')) (tl Q a' b' (tlen a' b')) := ⟨hh.row, fun j hj => by
      simp [Value.ownBlock] at hj
      subst hj
      rw [re_other hne]
      exact hh.paint _ (by simp [Value.ownBlock])⟩
     have h3 := h2.step hs hcm
     exact ⟨h3.row, fun j hj => by
      simp [Value.ownBlock] at hj
      subst hj
      rw [re_other hne]
      exact h3.paint _ (by simp [Value.ownBlock])⟩
end
end Go.Proofs.YtfpoabeihpfeiaaGreat.Mo
end
section
namespace Go.Proofs.YtfpoabeihpfeiaaGreat.Mo
open Go.RowKit
open Rc
structure EncS (w : World) (O : Paint) (c cm a k gb cap nb : Nat) (tb : Nat -> Nat -> Nat) (s : Es) : Prop where
 enc : EncAt w O c a s.e
 lik : LikAt w O cm k gb cap nb tb s.q
 ne : c ≠ cm
 ok : QOk s.q
structure DecS (w : World) (O : Paint) (c cm a tot k gb cap nb : Nat) (tb : Nat -> Nat -> Nat) (s : Ds) : Prop where
 dec : DecAt w O c a s.d tot
 lik : LikAt w O cm k gb cap nb tb s.q
 ne : c ≠ cm
 ok : QOk s.q
section
variable {cs : List Nat} {w w' : World} {O O' : Paint} {c cm a tot k gb cap nb : Nat} {tb : Nat -> Nat -> Nat} {s : Es} {d : Ds}
theorem EncS.sok (h : EncS w O c cm a k gb cap nb tb s) : s.Ok := ⟨h.enc.2, h.ok⟩
theorem DecS.sok (h : DecS w O c cm a tot k gb cap nb tb d) : d.Ok := ⟨h.dec.2, h.ok⟩
theorem EncS.step (h : EncS w O c cm a k gb cap nb tb s) (hs : Step cs w O w' O') (h1 : c ∉ cs) (h2 : cm ∉ cs) : EncS w' O' c cm a k gb cap nb tb s := ⟨h.enc.step hs h1, h.lik.step hs h2, h.ne, h.ok⟩
theorem DecS.step (h : DecS w O c cm a tot k gb cap nb tb d) (hs : Step cs w O w' O') (h1 : c ∉ cs) (h2 : cm ∉ cs) : DecS w' O' c cm a tot k gb cap nb tb d := ⟨h.dec.step hs h1, h.lik.step hs h2, h.ne, h.ok⟩
theorem EncS.below (h : EncS w O c cm a k gb cap nb tb s) (hb : Below w.heap.size w w') : EncS w' O c cm a k gb cap nb tb s := h.step (Step.of_below_same hb O) (by simp) (by simp)
theorem DecS.below (h : DecS w O c cm a tot k gb cap nb tb d) (hb : Below w.heap.size w w') : DecS w' O c cm a tot k gb cap nb tb d := h.step (Step.of_below_same hb O) (by simp) (by simp)
def EncTo (w : World) (O : Paint) (c cm a k gb cap nb : Nat) (tb : Nat -> Nat -> Nat) (s : Es) (v : Value) (x : Ending) (w' : World) : Prop := x = .returned v /\ ∃ O', Step [c, cm] w O w' O' /\ EncS w' O' c cm a k gb cap nb tb s
def DecTo (w : World) (O : Paint) (c cm a tot k gb cap nb : Nat) (tb : Nat -> Nat -> Nat) (s : Ds) (v : Value) (x : Ending) (w' : World) : Prop := x = .returned v /\ ∃ O', Step [c, cm] w O w' O' /\ DecS w' O' c cm a tot k gb cap nb tb s
theorem box_below (w : World) (o : Obj) : Below w.heap.size w (w.alloc o) := (Below.refl _ w).alloc (Nat.le_refl _) o
theorem EncS.tree (h : EncS w O c cm a k gb cap nb tb s) {x y : Nat} (ht : isTree nb x y) : ∃ f, f ≠ c /\ EncAt w (re O (tb x y) f) c a s.e /\ TreeAt w (re O (tb x y) f) f (.slice (some ⟨tb x y, 0, none⟩) (tlen x y) (tcap x y)) (tl s.q x y (tlen x y)) /\
  ∀ (w' : World) (O1 : Paint) (e' : Enc) (l : List Nat), Step [c, f] w (re O (tb x y) f) w' O1 -> EncAt w' O1 c a e' -> TreeAt w' O1 f (.slice (some ⟨tb x y, 0, none⟩) (tlen x y) (tcap x y)) l -> l.length = tlen x y -> Probs l ->
   Step [c, cm] w O w' (re O1 (tb x y) cm) /\ EncS w' (re O1 (tb x y) cm) c cm a k gb cap nb tb ⟨e', qset s.q x y l⟩ := by
 have hh := h.lik.held x y ht
 have hO : O (tb x y) = cm := hh.paint _ (by simp [Value.ownBlock])
 have hlt : tb x y < w.heap.size := Held.lt hh (by simp [Value.ownBlock])
 obtain ⟨f, f1, f2, f3⟩ := fresh O w.heap.size c cm
 refine ⟨f, f1, EncAt_re h.enc (by rw [hO]; exact Ne.symm h.ne), Held_re_own hh, fun w' O1 e' l hs he hT hl hp => ⟨step_back hs hO f3, EncAt_re he ?_, h.lik.tree_set ht hl f2 h.ne hs hT, h.ne, h.ok.set x y hp⟩⟩
 rw [hs.ext _ hlt, re_same]
 exact f1
theorem DecS.tree (h : DecS w O c cm a tot k gb cap nb tb d) {x y : Nat} (ht : isTree nb x y) : ∃ f, f ≠ c /\ DecAt w (re O (tb x y) f) c a d.d tot /\ TreeAt w (re O (tb x y) f) f (.slice (some ⟨tb x y, 0, none⟩) (tlen x y) (tcap x y)) (tl d.q x y (tlen x y)) /\
  ∀ (w' : World) (O1 : Paint) (e' : Dec) (l : List Nat), Step [c, f] w (re O (tb x y) f) w' O1 -> DecAt w' O1 c a e' tot -> TreeAt w' O1 f (.slice (some ⟨tb x y, 0, none⟩) (tlen x y) (tcap x y)) l -> l.length = tlen x y -> Probs l ->
   Step [c, cm] w O w' (re O1 (tb x y) cm) /\ DecS w' (re O1 (tb x y) cm) c cm a tot k gb cap nb tb ⟨e', qset d.q x y l⟩ := by
 have hh := h.lik.held x y ht
 have hO : O (tb x y) = cm := hh.paint _ (by simp [Value.ownBlock])
 have hlt : tb x y < w.heap.size := Held.lt hh (by simp [Value.ownBlock])
 obtain ⟨f, f1, f2, f3⟩ := fresh O w.heap.size c cm
 refine ⟨f, f1, DecAt_re h.dec (by rw [hO]; exact Ne.symm h.ne), Held_re_own hh, fun w' O1 e' l hs he hT hl hp => ⟨step_back hs hO f3, DecAt_re he ?_, h.lik.tree_set ht hl f2 h.ne hs hT, h.ne, h.ok.set x y hp⟩⟩
 rw [hs.ext _ hlt, re_same]
 exact f1
theorem enc_one (h : EncS w O c cm a k gb cap nb tb s) (ht : s.e.turns <= 999990) {x y z b : Nat} (hi : isOne x y z) (hb : b <= 1) :
  Calls Tryz.prog 119 #[.agg #[.pointer (some ⟨a, 0, none⟩)], .pointer (some ⟨k, off x y z, none⟩), .int .i64 b] w (EncTo w O c cm a k gb cap nb tb (s.one x y z b) (.int .i64 b)) := by
 have hp := h.ok x y z
 have hbx := box_below w (.cells #[.pointer (some ⟨a, 0, none⟩)] 114)
 have h1 := h.below hbx
 obtain ⟨q1, q2⟩ := h1.lik.one x y z hi
 have hOk : O k ≠ c := by rw [h.lik.kO.1]; exact Ne.symm h.ne
 have HC := hid (encbit h1.enc ht q1 q2 (by exact hOk) (by omega) (by omega) hb)
 have HQ : Hid (EncS ((w.alloc (.cells #[.pointer (some ⟨a, 0, none⟩)] 114)).setCell ⟨k, off x y z, none⟩ (.int .u16 ((learn (s.q x y z) b : Nat) : Int))) O c cm a k gb cap nb tb ⟨s.e, qone s.q x y z (learn (s.q x y z) b)⟩ /\ Step [c, cm] w O ((w.alloc (.cells #[.pointer (some ⟨a, 0, none⟩)] 114)).setCell ⟨k, off x y z, none⟩ (.int .u16 ((learn (s.q x y z) b : Nat) : Int))) O) := hid ⟨⟨h1.enc.step (cs := [cm]) ((Step.refl _ _ O).setCell (.inl (by simp [h.lik.kO.1])) _) (by simp [h.ne]), h1.lik.set hi _, h.ne, h.ok.one x y z (learn_in hp.1 hp.2)⟩,
  (Step.of_below_same hbx O).nil.setCell (.inl (by simp [h.lik.kO.1])) _⟩
 clear h h1 q1 q2 hbx hp
 go_enter Tryz.func119, Tryz.ntmps119
 go_wp2_with fail
 refine HC.out.mono ?_
 rintro x' w2 ⟨rfl, O', hs, he⟩
 go_wp2_with fail
 go_ret
 exact ⟨rfl, O', HQ.out.2.trans (hs.mono (by simp)), he, (HQ.out.1).lik.step hs (by simpa using Ne.symm HQ.out.1.ne), HQ.out.1.ne, HQ.out.1.ok⟩
theorem dec_one (h : DecS w O c cm a tot k gb cap nb tb d) {x y z : Nat} (hi : isOne x y z) (v : Int) :
  Calls Tryz.prog 139 #[.agg #[.pointer (some ⟨a, 0, none⟩)], .pointer (some ⟨k, off x y z, none⟩), .int .i64 v] w (DecTo w O c cm a tot k gb cap nb tb (d.one x y z) (.int .i64 (d.bit x y z : Int))) := by
 have hp := h.ok x y z
 have hbx := box_below w (.cells #[.pointer (some ⟨a, 0, none⟩)] 193)
 have h1 := h.below hbx
 obtain ⟨q1, q2⟩ := h1.lik.one x y z hi
 have hOk : O k ≠ c := by rw [h.lik.kO.1]; exact Ne.symm h.ne
 have HC := hid (decbit h1.dec q1 q2 (by exact hOk) (by omega) (by omega))
 have HQ : Hid (DecS ((w.alloc (.cells #[.pointer (some ⟨a, 0, none⟩)] 193)).setCell ⟨k, off x y z, none⟩ (.int .u16 ((learn (d.q x y z) (d.bit x y z) : Nat) : Int))) O c cm a tot k gb cap nb tb ⟨d.d, qone d.q x y z (learn (d.q x y z) (d.bit x y z))⟩ /\ Step [c, cm] w O ((w.alloc (.cells #[.pointer (some ⟨a, 0, none⟩)] 193)).setCell ⟨k, off x y z, none⟩ (.int .u16 ((learn (d.q x y z) (d.bit x y z) : Nat) : Int))) O) := hid ⟨⟨h1.dec.step (cs := [cm]) ((Step.refl _ _ O).setCell (.inl (by simp [h.lik.kO.1])) _) (by simp [h.ne]), h1.lik.set hi _, h.ne, h.ok.one x y z (learn_in hp.1 hp.2)⟩,
  (Step.of_below_same hbx O).nil.setCell (.inl (by simp [h.lik.kO.1])) _⟩
 clear h h1 q1 q2 hbx hp
 go_enter Tryz.func139, Tryz.ntmps139
 go_wp2_with fail
 refine HC.out.mono ?_
 rintro x' w2 ⟨rfl, hs, he⟩
 go_wp2_with fail
 go_ret
 exact ⟨rfl, O, HQ.out.2.trans (hs.mono (by simp)), he, (HQ.out.1).lik.step hs (by simpa using Ne.symm HQ.out.1.ne), HQ.out.1.ne, HQ.out.1.ok⟩
theorem enc_number (h : EncS w O c cm a k gb cap nb tb s) (ht : s.e.turns <= 900000) {x y n capv : Nat} (hi : isTree nb x y) (hn : 2 ^ n <= tlen x y) (hn16 : n <= 16) (v : Nat) (hv : v < 2 ^ n) :
  Calls Tryz.prog 122 #[.agg #[.pointer (some ⟨a, 0, none⟩)], .slice (some ⟨tb x y, 0, none⟩) (2 ^ n) capv, .int .i64 v] w (EncTo w O c cm a k gb cap nb tb (s.tr false x y (tlen x y) n v) (.int .i64 v)) := by
 have hbx := box_below w (.cells #[.pointer (some ⟨a, 0, none⟩)] 114)
 have HS0 := hid (h.sok.t0 x y (tlen x y))
 obtain ⟨f, f1, he1, hT1, hfin⟩ := (h.below hbx).tree hi
 have HC := hid (tree_put_view (capv := capv) he1 hT1 f1 (s := s.t0 x y (tlen x y)) (HS0.out) hn rfl hn16 (by exact ht) v hv)
 have HK := hid (putN_okM false n v HS0.out hn n (Nat.le_refl _))
 have HF := hid hfin
 have HST : Hid (Step [c, cm] w O (w.alloc (.cells #[.pointer (some ⟨a, 0, none⟩)] 114)) O) := hid (Step.of_below_same hbx O).nil
 clear h hbx he1 hT1 hfin
 go_enter Tryz.func122, Tryz.ntmps122
 go_wp2_with fail
 refine HC.out.mono ?_
 rintro x' w2 ⟨rfl, O1, hs, he, hT⟩
 have hz := HF.out w2 O1 _ _ hs he hT HK.out.2.2.1 HK.out.2.1
 have HZ := hid hz
 clear hz hs he hT HC HF
 go_wp2_with fail
 go_ret
 exact ⟨rfl, _, HST.out.trans HZ.out.1, HZ.out.2⟩
theorem dec_number (h : DecS w O c cm a tot k gb cap nb tb d) {x y n capv : Nat} (hi : isTree nb x y) (hn : 2 ^ n <= tlen x y) (hn16 : n <= 16) (v : Int) :
  Calls Tryz.prog 142 #[.agg #[.pointer (some ⟨a, 0, none⟩)], .slice (some ⟨tb x y, 0, none⟩) (2 ^ n) capv, .int .i64 v] w (DecTo w O c cm a tot k gb cap nb tb (d.tr false x y (tlen x y) n) (.int .i64 (d.trV false x y (tlen x y) n : Int))) := by
 have hbx := box_below w (.cells #[.pointer (some ⟨a, 0, none⟩)] 193)
 have HS0 := hid (h.sok.t0 x y (tlen x y))
 obtain ⟨f, f1, he1, hT1, hfin⟩ := (h.below hbx).tree hi
 have HC := hid (tree_get_view (capv := capv) he1 hT1 f1 (s := d.t0 x y (tlen x y)) (HS0.out) hn rfl hn16)
 have HK := hid (getN_okM false n HS0.out hn n (Nat.le_refl _))
 have HF := hid hfin
 have HST : Hid (Step [c, cm] w O (w.alloc (.cells #[.pointer (some ⟨a, 0, none⟩)] 193)) O) := hid (Step.of_below_same hbx O).nil
 clear h hbx he1 hT1 hfin
 go_enter Tryz.func142, Tryz.ntmps142
 go_wp2_with fail
 refine HC.out.mono ?_
 rintro x' w2 ⟨rfl, hs, he, hT⟩
 have hz := HF.out w2 _ _ _ hs he hT HK.out.2.2.1 HK.out.2.1
 have HZ := hid hz
 clear hz hs he hT HC HF
 go_wp2_with fail
 go_ret
 exact ⟨rfl, _, HST.out.trans HZ.out.1, HZ.out.2⟩
theorem enc_back (h : EncS w O c cm a k gb cap nb tb s) (ht : s.e.turns <= 900000) {x y n : Nat} (hi : isTree nb x y) (hn : tlen x y = 2 ^ n) (hn16 : n <= 16) (v : Nat) (hv : v < 2 ^ n) :
  Calls Tryz.prog 118 #[.agg #[.pointer (some ⟨a, 0, none⟩)], .slice (some ⟨tb x y, 0, none⟩) (tlen x y) (tcap x y), .int .i64 v] w (EncTo w O c cm a k gb cap nb tb (s.tr true x y (tlen x y) n v) (.int .i64 v)) := by
 have hbx := box_below w (.cells #[.pointer (some ⟨a, 0, none⟩)] 114)
 have HS0 := hid (h.sok.t0 x y (tlen x y))
 obtain ⟨f, f1, he1, hT1, hfin⟩ := (h.below hbx).tree hi
 generalize tcap x y = C at *
 generalize tlen x y = L at *
 subst hn
 have HC := hid (tree_putBack he1 hT1 f1 (s := s.t0 x y (2 ^ n)) HS0.out rfl hn16 (by exact ht) v hv)
 have HK := hid (putN_okM true n v HS0.out (Nat.le_refl _) n (Nat.le_refl _))
 have HF := hid hfin
 have HST : Hid (Step [c, cm] w O (w.alloc (.cells #[.pointer (some ⟨a, 0, none⟩)] 114)) O) := hid (Step.of_below_same hbx O).nil
 clear h hbx he1 hT1 hfin
 go_enter Tryz.func118, Tryz.ntmps118
 go_wp2_with fail
 refine HC.out.mono ?_
 rintro x' w2 ⟨rfl, O1, hs, he, hT⟩
 have hz := HF.out w2 O1 _ _ hs he hT HK.out.2.2.1 HK.out.2.1
 have HZ := hid hz
 clear hz hs he hT HC HF
 go_wp2_with fail
 go_ret
 exact ⟨rfl, _, HST.out.trans HZ.out.1, HZ.out.2⟩
theorem dec_back (h : DecS w O c cm a tot k gb cap nb tb d) {x y n : Nat} (hi : isTree nb x y) (hn : tlen x y = 2 ^ n) (hn16 : n <= 16) (v : Int) :
  Calls Tryz.prog 138 #[.agg #[.pointer (some ⟨a, 0, none⟩)], .slice (some ⟨tb x y, 0, none⟩) (tlen x y) (tcap x y), .int .i64 v] w (DecTo w O c cm a tot k gb cap nb tb (d.tr true x y (tlen x y) n) (.int .i64 (d.trV true x y (tlen x y) n : Int))) := by
 have hbx := box_below w (.cells #[.pointer (some ⟨a, 0, none⟩)] 193)
 have HS0 := hid (h.sok.t0 x y (tlen x y))
 obtain ⟨f, f1, he1, hT1, hfin⟩ := (h.below hbx).tree hi
 generalize tcap x y = C at *
 generalize tlen x y = L at *
 subst hn
 have HC := hid (tree_getBack he1 hT1 f1 (s := d.t0 x y (2 ^ n)) HS0.out rfl hn16)
 have HK := hid (getN_okM true n HS0.out (Nat.le_refl _) n (Nat.le_refl _))
 have HF := hid hfin
 have HST : Hid (Step [c, cm] w O (w.alloc (.cells #[.pointer (some ⟨a, 0, none⟩)] 193)) O) := hid (Step.of_below_same hbx O).nil
 clear h hbx he1 hT1 hfin
 go_enter Tryz.func138, Tryz.ntmps138
 go_wp2_with fail
 refine HC.out.mono ?_
 rintro x' w2 ⟨rfl, hs, he, hT⟩
 have hz := HF.out w2 _ _ _ hs he hT HK.out.2.2.1 HK.out.2.1
 have HZ := hid hz
 clear hz hs he hT HC HF
 go_wp2_with fail
 go_ret
 exact ⟨rfl, _, HST.out.trans HZ.out.1, HZ.out.2⟩
theorem enc_like (h : EncS w O c cm a k gb cap nb tb s) (ht : s.e.turns <= 900000) {x y : Nat} (hi : isTree nb x y) (hn : tlen x y = 768) (v o : Nat) (hv : v < 256) (ho : o < 256) :
  Calls Tryz.prog 121 #[.agg #[.pointer (some ⟨a, 0, none⟩)], .slice (some ⟨tb x y, 0, none⟩) (tlen x y) (tcap x y), .int .u8 v, .int .u8 o] w (EncTo w O c cm a k gb cap nb tb (s.like x y v o) (.int .u8 v)) := by
 have hbx := box_below w (.cells #[.pointer (some ⟨a, 0, none⟩)] 114)
 have HS0 := hid (h.sok.t0 x y (tlen x y))
 obtain ⟨f, f1, he1, hT1, hfin⟩ := (h.below hbx).tree hi
 generalize tcap x y = C at *
 generalize tlen x y = L at *
 subst hn
 have HC := hid (tree_putLike he1 hT1 f1 (s := s.t0 x y (768)) (HS0.out) (Nat.le_refl _) (by omega) rfl (by exact ht) v o hv ho)
 have HK := hid (likeN_ok v o (768) (by omega) HS0.out 8 (Nat.le_refl _))
 have HF := hid hfin
 have HST : Hid (Step [c, cm] w O (w.alloc (.cells #[.pointer (some ⟨a, 0, none⟩)] 114)) O) := hid (Step.of_below_same hbx O).nil
 clear h hbx he1 hT1 hfin
 go_enter Tryz.func121, Tryz.ntmps121
 go_wp2_with fail
 refine HC.out.mono ?_
 rintro x' w2 ⟨rfl, O1, hs, he, hT⟩
 have hz := HF.out w2 O1 _ _ hs he hT HK.out.2.2.1 HK.out.2.1
 have HZ := hid hz
 clear hz hs he hT HC HF
 go_wp2_with fail
 go_ret
 exact ⟨rfl, _, HST.out.trans HZ.out.1, HZ.out.2⟩
theorem dec_like (h : DecS w O c cm a tot k gb cap nb tb d) {x y : Nat} (hi : isTree nb x y) (hn : tlen x y = 768) (v : Int) (o : Nat) (ho : o < 256) :
  Calls Tryz.prog 141 #[.agg #[.pointer (some ⟨a, 0, none⟩)], .slice (some ⟨tb x y, 0, none⟩) (tlen x y) (tcap x y), .int .u8 v, .int .u8 o] w (DecTo w O c cm a tot k gb cap nb tb (d.like x y o) (.int .u8 (d.likeV x y o : Int))) := by
 have hbx := box_below w (.cells #[.pointer (some ⟨a, 0, none⟩)] 193)
 have HS0 := hid (h.sok.t0 x y (tlen x y))
 obtain ⟨f, f1, he1, hT1, hfin⟩ := (h.below hbx).tree hi
 generalize tcap x y = C at *
 generalize tlen x y = L at *
 subst hn
 have HC := hid (tree_getLike he1 hT1 f1 (s := d.t0 x y (768)) (HS0.out) (Nat.le_refl _) (by omega) rfl o ho)
 have HK := hid (gotLike_ok o (768) (by omega) HS0.out 8 (Nat.le_refl _))
 have HF := hid hfin
 have HST : Hid (Step [c, cm] w O (w.alloc (.cells #[.pointer (some ⟨a, 0, none⟩)] 193)) O) := hid (Step.of_below_same hbx O).nil
 clear h hbx he1 hT1 hfin
 go_enter Tryz.func141, Tryz.ntmps141
 go_wp2_with fail
 refine HC.out.mono ?_
 rintro x' w2 ⟨rfl, hs, he, hT⟩
 have hz := HF.out w2 _ _ _ hs he hT HK.out.2.2.1 HK.out.2.1
 have HZ := hid hz
 clear hz hs he hT HC HF
 go_wp2_with fail
 go_ret
 exact ⟨rfl, _, HST.out.trans HZ.out.1, HZ.out.2⟩
theorem enc_direct (h : EncS w O c cm a k gb cap nb tb s) (ht : s.e.turns <= 900000) (v n : Nat) (hv : v < 4294967296) (hn : n <= 32) :
  Calls Tryz.prog 120 #[.agg #[.pointer (some ⟨a, 0, none⟩)], .int .u32 v, .int .i64 n] w (EncTo w O c cm a k gb cap nb tb (s.dir v n) (.int .u32 v)) := by
 have hbx := box_below w (.cells #[.pointer (some ⟨a, 0, none⟩)] 114)
 have HC := hid (encdirect (h.below hbx).enc (by omega) v n hv hn)
 have H := hid (h.below hbx)
 have HST : Hid (Step [c, cm] w O (w.alloc (.cells #[.pointer (some ⟨a, 0, none⟩)] 114)) O) := hid (Step.of_below_same hbx O).nil
 clear h hbx hv
 go_enter Tryz.func120, Tryz.ntmps120
 go_wp2_with fail
 refine HC.out.mono ?_
 rintro x' w2 ⟨rfl, O', hs, he⟩
 go_wp2_with fail
 go_ret
 exact ⟨rfl, O', HST.out.trans (hs.mono (by simp)), he, H.out.lik.step hs (by simpa using Ne.symm H.out.ne), H.out.ne, H.out.ok⟩
theorem dec_direct (h : DecS w O c cm a tot k gb cap nb tb d) (v : Int) (n : Nat) (hn : n <= 32) :
  Calls Tryz.prog 140 #[.agg #[.pointer (some ⟨a, 0, none⟩)], .int .u32 v, .int .i64 n] w (DecTo w O c cm a tot k gb cap nb tb (d.dir n) (.int .u32 (d.dirV n : Int))) := by
 have hbx := box_below w (.cells #[.pointer (some ⟨a, 0, none⟩)] 193)
 have HC := hid (decdirect (h.below hbx).dec n hn)
 have H := hid (h.below hbx)
 have HST : Hid (Step [c, cm] w O (w.alloc (.cells #[.pointer (some ⟨a, 0, none⟩)] 193)) O) := hid (Step.of_below_same hbx O).nil
 clear h hbx
 go_enter Tryz.func140, Tryz.ntmps140
 go_wp2_with fail
 refine HC.out.mono ?_
 rintro x' w2 ⟨rfl, hs, he⟩
 go_wp2_with fail
 go_ret
 exact ⟨rfl, O, HST.out.trans (hs.mono (by simp)), he, H.out.lik.step hs (by simpa using Ne.symm H.out.ne), H.out.ne, H.out.ok⟩
end
end Go.Proofs.YtfpoabeihpfeiaaGreat.Mo
end
section
namespace Go.Proofs.YtfpoabeihpfeiaaGreat.Mo
open Go.RowKit
open Rc
theorem ret_i {a b : Int} (h : a = b) : Ending.returned (.int .i64 a) = .returned (.int .i64 b) := by rw [h]
theorem bit_any (b : Bool) (w : World) : Calls Tryz.prog 73 #[.bool b] w fun x w' => x = .returned (.int .i64 (if b then 1 else 0)) /\ w = w' := by
 cases b
 · go_enter Tryz.func73, Tryz.ntmps73
   go_wp2
   go_ret
   exact ⟨rfl, rfl⟩
 · go_enter Tryz.func73, Tryz.ntmps73
   go_wp2
   go_ret
   exact ⟨rfl, rfl⟩
def Es.num (s : Es) (a b n v : Nat) : Es := s.tr false a b (tlen a b) n v
def Es.bk (s : Es) (a b n v : Nat) : Es := s.tr true a b (tlen a b) n v
def Ds.num (s : Ds) (a b n : Nat) : Ds := s.tr false a b (tlen a b) n
def Ds.numV (s : Ds) (a b n : Nat) : Nat := s.trV false a b (tlen a b) n
def Ds.bk (s : Ds) (a b n : Nat) : Ds := s.tr true a b (tlen a b) n
def Ds.bkV (s : Ds) (a b n : Nat) : Nat := s.trV true a b (tlen a b) n
def Es.len (s : Es) (u P n : Nat) : Es :=
 if n < 8 then (s.one (200 + u) 0 0 0).num (210 + u) P 3 n
 else if n < 16 then ((s.one (200 + u) 0 0 1).one (200 + u) 1 0 0).num (220 + u) P 3 (n - 8)
 else ((s.one (200 + u) 0 0 1).one (200 + u) 1 0 1).num (230 + u) 0 8 (n - 16)
def Ds.len (s : Ds) (u P : Nat) : Ds :=
 if s.bit (200 + u) 0 0 = 0 then (s.one (200 + u) 0 0).num (210 + u) P 3
 else if (s.one (200 + u) 0 0).bit (200 + u) 1 0 = 0 then ((s.one (200 + u) 0 0).one (200 + u) 1 0).num (220 + u) P 3
 else ((s.one (200 + u) 0 0).one (200 + u) 1 0).num (230 + u) 0 8
def Ds.lenV (s : Ds) (u P : Nat) : Nat :=
 if s.bit (200 + u) 0 0 = 0 then (s.one (200 + u) 0 0).numV (210 + u) P 3
 else if (s.one (200 + u) 0 0).bit (200 + u) 1 0 = 0 then 8 + ((s.one (200 + u) 0 0).one (200 + u) 1 0).numV (220 + u) P 3
 else 16 + ((s.one (200 + u) 0 0).one (200 + u) 1 0).numV (230 + u) 0 8
section
variable {w : World} {O : Paint} {c cm a tot k gb cap nb : Nat} {tb : Nat -> Nat -> Nat} {s : Es} {d : Ds}
theorem EncS.drew (h : EncS w O c cm a k gb cap nb tb s) : EncS w.drew O c cm a k gb cap nb tb s := h.step (cs := []) ((Step.refl [] w O).drew) (by simp) (by simp)
theorem DecS.drew (h : DecS w O c cm a tot k gb cap nb tb d) : DecS w.drew O c cm a tot k gb cap nb tb d := h.step (cs := []) ((Step.refl [] w O).drew) (by simp) (by simp)
end
end Go.Proofs.YtfpoabeihpfeiaaGreat.Mo
end
