/-
  Two decodings, of which one has a byte more at its end: till the shorter one lacks bytes both tell the same; so at most one of them tells packets. And of a lower limit than the text is long, up to the end: none.
-/
import Derived.Test.YtfpoabeihpfeiaaGreatPk36

set_option linter.unusedVariables false
set_option linter.unusedSimpArgs false
namespace Go.Proofs.YtfpoabeihpfeiaaGreat.Lz
open Go.RowKit
open Rc Mo
open Pk (Rp Pt)
def Short (d d' : Dec) (x : UInt8) : Prop := d.rest = d'.rest ++ [x] ∧ d'.code = d.code ∧ d'.size = d.size ∧ d'.bad = d.bad
theorem next_bad {d : Dec} (h : d.bad = true) : d.next.bad = true := by
 unfold Rc.Dec.next
 split
 · rfl
 · exact h
theorem turnD_bad {d : Dec} (h : d.bad = true) : (Rc.turnD d).bad = true := by
 unfold Rc.turnD
 split
 · exact next_bad h
 · exact h
theorem wide_bad {d : Dec} (h : d.bad = true) : (Rc.wide d).bad = true := turnD_bad (turnD_bad (turnD_bad h))
theorem getBit_bad {d : Dec} (h : d.bad = true) (p : Nat) : (d.getBit p).bad = true := by
 unfold Dec.getBit
 split <;> exact wide_bad h
theorem getDirect_bad {d : Dec} (h : d.bad = true) : d.getDirect.bad = true := by
 unfold Dec.getDirect
 split <;> exact wide_bad h
theorem short_turn {d d' : Dec} {x : UInt8} (h : Short d d' x) : (Rc.turnD d').bad = true ∨ Short (Rc.turnD d) (Rc.turnD d') x := by
 obtain ⟨rest, code, size, bad⟩ := d
 obtain ⟨rest', code', size', bad'⟩ := d'
 obtain ⟨h1, h2, h3, h4⟩ := h
 dsimp only at h1 h2 h3 h4
 subst h2 h3 h4
 unfold Rc.turnD
 dsimp only
 by_cases hs : size' < 16777216
 · rw [if_pos hs, if_pos hs]
   cases rest' with
   | nil => exact .inl rfl
   | cons y t =>
    right
    subst h1
    exact ⟨rfl, rfl, rfl, rfl⟩
 · rw [if_neg hs, if_neg hs]
   exact .inr ⟨h1, rfl, rfl, rfl⟩
theorem short_wide {d d' : Dec} {x : UInt8} (h : Short d d' x) : (Rc.wide d').bad = true ∨ Short (Rc.wide d) (Rc.wide d') x := by
 rcases short_turn h with h1 | h1
 · exact .inl (turnD_bad (turnD_bad h1))
 · rcases short_turn h1 with h2 | h2
   · exact .inl (turnD_bad h2)
   · exact short_turn h2
theorem bitOf_short {d d' : Dec} {x : UInt8} (h : Short d d' x) (p : Nat) : d'.bitOf p = d.bitOf p := by
 unfold Dec.bitOf
 rw [h.2.1, h.2.2.1]
theorem directOf_short {d d' : Dec} {x : UInt8} (h : Short d d' x) : d'.directOf = d.directOf := by
 unfold Dec.directOf
 rw [h.2.1, h.2.2.1]
theorem getBit_short {d d' : Dec} {x : UInt8} (h : Short d d' x) (p : Nat) : (d'.getBit p).bad = true ∨ Short (d.getBit p) (d'.getBit p) x := by
 obtain ⟨h1, h2, h3, h4⟩ := h
 unfold Dec.getBit
 rw [h2, h3]
 split
 · exact short_wide ⟨h1, rfl, rfl, h4⟩
 · exact short_wide ⟨h1, rfl, rfl, h4⟩
theorem getDirect_short {d d' : Dec} {x : UInt8} (h : Short d d' x) : d'.getDirect.bad = true ∨ Short d.getDirect d'.getDirect x := by
 obtain ⟨h1, h2, h3, h4⟩ := h
 unfold Dec.getDirect
 rw [h2, h3]
 split
 · exact short_wide ⟨h1, rfl, rfl, h4⟩
 · exact short_wide ⟨h1, rfl, rfl, h4⟩
def TdTwo (t t' : Td) (x : UInt8) : Prop := Short t.d t'.d x ∧ t'.l = t.l ∧ t'.m = t.m ∧ t'.v = t.v
theorem tbit_two {t t' : Td} {x : UInt8} (h : TdTwo t t' x) (q : Nat) : t'.bit q = t.bit q := by
 unfold Td.bit
 rw [h.2.1]
 exact bitOf_short h.1 _
theorem at_two {t t' : Td} {x : UInt8} (h : TdTwo t t' x) (q v : Nat) : (t'.at q v).d.bad = true ∨ TdTwo (t.at q v) (t'.at q v) x := by
 rcases getBit_short h.1 (t.l.getD q 0) with h1 | h1
 · left
   show (t'.d.getBit (t'.l.getD q 0)).bad = true
   rw [h.2.1]
   exact h1
 · right
   refine ⟨?_, ?_, ?_, rfl⟩
   · show Short (t.d.getBit _) (t'.d.getBit (t'.l.getD q 0)) x
     rw [h.2.1]
     exact h1
   · show t'.l.set q (learn (t'.l.getD q 0) (t'.bit q)) = t.l.set q (learn (t.l.getD q 0) (t.bit q))
     rw [tbit_two h, h.2.1]
   · show 2 * t'.m + t'.bit q = 2 * t.m + t.bit q
     rw [tbit_two h, h.2.2.1]
theorem at_bad {t : Td} (h : t.d.bad = true) (q v : Nat) : (t.at q v).d.bad = true := getBit_bad h _
theorem getN_bad (back : Bool) {t : Td} (h : t.d.bad = true) : ∀ i, (getN back t i).d.bad = true
 | 0 => h
 | i + 1 => by rw [getN]; exact at_bad (getN_bad back h i) _ _
theorem getN_two (back : Bool) {t t' : Td} {x : UInt8} (h : TdTwo t t' x) : ∀ i, (getN back t' i).d.bad = true ∨ TdTwo (getN back t i) (getN back t' i) x
 | 0 => .inr h
 | i + 1 => by
  rw [getN, getN]
  rcases getN_two back h i with h1 | h1
  · exact .inl (at_bad h1 _ _)
  · rw [tbit_two h1, h1.2.2.1, h1.2.2.2]
    exact at_two h1 _ _
theorem gotLike_bad (o : Nat) {t : Td} (h : t.d.bad = true) : ∀ i, (gotLike o t i).1.d.bad = true
 | 0 => h
 | i + 1 => by rw [gotLike]; exact at_bad (gotLike_bad o h i) _ _
theorem gotLike_two (o : Nat) {t t' : Td} {x : UInt8} (h : TdTwo t t' x) : ∀ i, (gotLike o t' i).1.d.bad = true ∨ (TdTwo (gotLike o t i).1 (gotLike o t' i).1 x ∧ (gotLike o t' i).2 = (gotLike o t i).2)
 | 0 => .inr ⟨h, rfl⟩
 | i + 1 => by
  rw [gotLike, gotLike]
  rcases gotLike_two o h i with h1 | ⟨h1, h2⟩
  · exact .inl (at_bad h1 _ _)
  · simp only
    rw [h2, h1.2.2.1, h1.2.2.2]
    rcases at_two h1 (place (gotLike o t i).1.m (gotLike o t i).2 (bitAt o (7 - i))) (gotLike o t i).1.v with h3 | h3
    · exact .inl h3
    · exact .inr ⟨h3, by rw [tbit_two h1]⟩
theorem gotN_bad {d : Dec} (h : d.bad = true) : ∀ i, (gotN d i).1.bad = true
 | 0 => h
 | i + 1 => getDirect_bad (gotN_bad h i)
theorem gotN_two {d d' : Dec} {x : UInt8} (h : Short d d' x) : ∀ i, (gotN d' i).1.bad = true ∨ ((gotN d' i).2 = (gotN d i).2 ∧ Short (gotN d i).1 (gotN d' i).1 x)
 | 0 => .inr ⟨rfl, h⟩
 | i + 1 => by
  rcases gotN_two h i with h1 | ⟨h1, h2⟩
  · exact .inl (getDirect_bad h1)
  · rcases getDirect_short h2 with h3 | h3
    · exact .inl h3
    · refine .inr ⟨?_, h3⟩
      show 2 * (gotN d' i).2 + (gotN d' i).1.directOf = 2 * (gotN d i).2 + (gotN d i).1.directOf
      rw [h1, directOf_short h2]
def Two (s s' : Ds) (x : UInt8) : Prop := Short s.d s'.d x ∧ s'.q = s.q
section
variable {s s' : Ds} {x : UInt8}
theorem bit_two (h : Two s s' x) (a b c : Nat) : s'.bit a b c = s.bit a b c := by
 unfold Ds.bit
 rw [h.2]
 exact bitOf_short h.1 _
theorem one_bad (h : s.d.bad = true) (a b c : Nat) : (s.one a b c).d.bad = true := getBit_bad h _
theorem one_two (h : Two s s' x) (a b c : Nat) : (s'.one a b c).d.bad = true ∨ Two (s.one a b c) (s'.one a b c) x := by
 unfold Two
 rw [show s'.one a b c = ⟨s'.d.getBit (s.q a b c), qone s.q a b c (learn (s.q a b c) (s.bit a b c))⟩ from by unfold Ds.one; rw [bit_two h, h.2]]
 rcases getBit_short h.1 (s.q a b c) with h1 | h1
 · exact .inl h1
 · exact .inr ⟨h1, rfl⟩
theorem t0_two (h : Two s s' x) (a b len : Nat) : TdTwo (s.t0 a b len) (s'.t0 a b len) x := ⟨h.1, by unfold Ds.t0; rw [h.2], rfl, rfl⟩
theorem tr_bad (h : s.d.bad = true) (back : Bool) (a b len n : Nat) : (s.tr back a b len n).d.bad = true := getN_bad back (t := s.t0 a b len) h n
theorem tr_two (h : Two s s' x) (back : Bool) (a b len n : Nat) : (s'.tr back a b len n).d.bad = true ∨ (s'.trV back a b len n = s.trV back a b len n ∧ Two (s.tr back a b len n) (s'.tr back a b len n) x) := by
 rcases getN_two back (t0_two h a b len) n with h1 | h1
 · exact .inl h1
 · exact .inr ⟨h1.2.2.2, h1.1, by unfold Ds.tr; simp only; rw [h.2, h1.2.1]⟩
set_option maxRecDepth 100000 in
theorem like_bad (h : s.d.bad = true) (a b o : Nat) : (s.like a b o).d.bad = true := gotLike_bad o (t := s.t0 a b 768) h 8
set_option maxRecDepth 100000 in
theorem like_two (h : Two s s' x) (a b o : Nat) : (s'.like a b o).d.bad = true ∨ (s'.likeV a b o = s.likeV a b o ∧ Two (s.like a b o) (s'.like a b o) x) := by
 rcases gotLike_two o (t0_two h a b 768) 8 with h1 | ⟨h1, _⟩
 · exact .inl h1
 · exact .inr ⟨by unfold Ds.likeV; rw [h1.2.2.1], h1.1, by unfold Ds.like; simp only; rw [h.2, h1.2.1]⟩
theorem dir_bad (h : s.d.bad = true) (n : Nat) : (s.dir n).d.bad = true := gotN_bad (d := s.d) h n
theorem dir_two (h : Two s s' x) (n : Nat) : (s'.dir n).d.bad = true ∨ (s'.dirV n = s.dirV n ∧ Two (s.dir n) (s'.dir n) x) := by
 rcases gotN_two h.1 n with h1 | ⟨h1, h2⟩
 · exact .inl h1
 · exact .inr ⟨h1, h2, h.2⟩
theorem num_bad (h : s.d.bad = true) (a b n : Nat) : (s.num a b n).d.bad = true := tr_bad h _ _ _ _ _
theorem num_two (h : Two s s' x) (a b n : Nat) : (s'.num a b n).d.bad = true ∨ (s'.numV a b n = s.numV a b n ∧ Two (s.num a b n) (s'.num a b n) x) := tr_two h _ _ _ _ _
theorem bk_bad (h : s.d.bad = true) (a b n : Nat) : (s.bk a b n).d.bad = true := tr_bad h _ _ _ _ _
theorem bk_two (h : Two s s' x) (a b n : Nat) : (s'.bk a b n).d.bad = true ∨ (s'.bkV a b n = s.bkV a b n ∧ Two (s.bk a b n) (s'.bk a b n) x) := tr_two h _ _ _ _ _
theorem len_bad (h : s.d.bad = true) (u P : Nat) : (s.len u P).d.bad = true := by
 unfold Ds.len
 split
 · exact num_bad (one_bad h _ _ _) _ _ _
 · split <;> exact num_bad (one_bad (one_bad h _ _ _) _ _ _) _ _ _
theorem len_two (h : Two s s' x) (u P : Nat) : (s'.len u P).d.bad = true ∨ (s'.lenV u P = s.lenV u P ∧ Two (s.len u P) (s'.len u P) x) := by
 rcases one_two h (200 + u) 0 0 with h1 | h1
 · left
   unfold Ds.len
   split
   · exact num_bad h1 _ _ _
   · split <;> exact num_bad (one_bad h1 _ _ _) _ _ _
 · unfold Ds.len Ds.lenV
   rw [bit_two h, bit_two h1]
   by_cases c0 : s.bit (200 + u) 0 0 = 0
   · rw [if_pos c0, if_pos c0, if_pos c0, if_pos c0]
     exact num_two h1 _ _ _
   · rw [if_neg c0, if_neg c0, if_neg c0, if_neg c0]
     rcases one_two h1 (200 + u) 1 0 with h2 | h2
     · left
       split <;> exact num_bad h2 _ _ _
     · by_cases c1 : (s.one (200 + u) 0 0).bit (200 + u) 1 0 = 0
       · rw [if_pos c1, if_pos c1, if_pos c1, if_pos c1]
         rcases num_two h2 (220 + u) P 3 with h3 | ⟨h3, h4⟩
         · exact .inl h3
         · exact .inr ⟨by rw [h3], h4⟩
       · rw [if_neg c1, if_neg c1, if_neg c1, if_neg c1]
         rcases num_two h2 (230 + u) 0 8 with h3 | ⟨h3, h4⟩
         · exact .inl h3
         · exact .inr ⟨by rw [h3], h4⟩
theorem far_bad (h : s.d.bad = true) (n : Nat) : (s.far n).d.bad = true := bk_bad (dir_bad h _) _ _ _
theorem far_two (h : Two s s' x) (n : Nat) : (s'.far n).d.bad = true ∨ (s'.farV n = s.farV n ∧ Two (s.far n) (s'.far n) x) := by
 rcases dir_two h (n - 4) with h1 | ⟨h1, h2⟩
 · exact .inl (bk_bad h1 _ _ _)
 · rcases bk_two h2 320 0 4 with h3 | ⟨h3, h4⟩
   · exact .inl h3
   · exact .inr ⟨by unfold Ds.farV; rw [h1, h3], h4⟩
theorem dist_bad (h : s.d.bad = true) (cl : Nat) : (s.dist cl).d.bad = true := by
 unfold Ds.dist
 split
 · exact bk_bad (num_bad h _ _ _) _ _ _
 · exact far_bad (num_bad h _ _ _) _
theorem dist_two (h : Two s s' x) (cl : Nat) : (s'.dist cl).d.bad = true ∨ (s'.distV cl = s.distV cl ∧ Two (s.dist cl) (s'.dist cl) x) := by
 rcases num_two h 300 cl 6 with h1 | ⟨h1, h2⟩
 · left
   unfold Ds.dist
   split
   · exact bk_bad h1 _ _ _
   · exact far_bad h1 _
 · have h3 : s'.slotV cl = s.slotV cl := h1
   unfold Ds.dist Ds.distV
   rw [h3]
   split
   · rcases bk_two h2 310 (s.slotV cl) (St.more (s.slotV cl)) with h4 | ⟨h4, h5⟩
     · exact .inl h4
     · exact .inr ⟨by rw [h4], h5⟩
   · rcases far_two h2 (St.more (s.slotV cl)) with h4 | ⟨h4, h5⟩
     · exact .inl h4
     · exact .inr ⟨by rw [h4], h5⟩
theorem byte_bad (h : s.d.bad = true) (lc lp st : Nat) (l : List UInt8) (d : Int) : (s.byte lc lp st l d).d.bad = true := by
 unfold Ds.byte
 split
 · exact num_bad h _ _ _
 · exact like_bad h _ _ _
theorem byte_two (h : Two s s' x) (lc lp st : Nat) (l : List UInt8) (d : Int) : (s'.byte lc lp st l d).d.bad = true ∨ (s'.byteV lc lp st l d = s.byteV lc lp st l d ∧ Two (s.byte lc lp st l d) (s'.byte lc lp st l d) x) := by
 unfold Ds.byte Ds.byteV
 split
 · exact num_two h _ _ _
 · exact like_two h _ _ _
theorem rep_bad (h : s.d.bad = true) (st : Nat) : (s.rep st).d.bad = true := by
 unfold Ds.rep
 split
 · exact one_bad h _ _ _
 · split
   · exact one_bad (one_bad h _ _ _) _ _ _
   · exact one_bad (one_bad (one_bad h _ _ _) _ _ _) _ _ _
theorem rep_two (h : Two s s' x) (st : Nat) : (s'.rep st).d.bad = true ∨ (s'.repV st = s.repV st ∧ Two (s.rep st) (s'.rep st) x) := by
 rcases one_two h 3 st 0 with h1 | h1
 · left
   unfold Ds.rep
   split
   · exact h1
   · split
     · exact one_bad h1 _ _ _
     · exact one_bad (one_bad h1 _ _ _) _ _ _
 · unfold Ds.rep Ds.repV
   rw [bit_two h, bit_two h1]
   by_cases c0 : s.bit 3 st 0 = 0
   · rw [if_pos c0, if_pos c0, if_pos c0, if_pos c0]
     exact .inr ⟨rfl, h1⟩
   · rw [if_neg c0, if_neg c0, if_neg c0, if_neg c0]
     rcases one_two h1 5 st 0 with h2 | h2
     · left
       split
       · exact h2
       · exact one_bad h2 _ _ _
     · rw [bit_two h2]
       by_cases c1 : (s.one 3 st 0).bit 5 st 0 = 0
       · simp only [if_pos c1]
         exact .inr ⟨trivial, h2⟩
       · simp only [if_neg c1]
         rcases one_two h2 6 st 0 with h3 | h3
         · exact .inl h3
         · exact .inr ⟨trivial, h3⟩
theorem code_two (h : Two s s' x) (m : Ms) : (s'.code m).d.bad = true ∨ (s'.codeP m = s.codeP m ∧ Two (s.code m) (s'.code m) x) := by
 by_cases c0 : s.bit 1 m.st m.here = 0
 · have c0' : s'.bit 1 m.st m.here = 0 := by rw [bit_two h]; exact c0
   unfold Ds.code Ds.codeP
   rw [if_pos c0, if_pos c0', if_pos c0, if_pos c0']
   rcases one_two h 1 m.st m.here with h1 | h1
   · exact .inl (byte_bad h1 _ _ _ _ _)
   · rcases byte_two (s := s.s1 m) (s' := s'.s1 m) h1 m.lc m.lp m.st m.l m.r.a with h2 | ⟨h2, h3⟩
     · exact .inl h2
     · exact .inr ⟨by rw [h2], h3⟩
 · have c0' : ¬ s'.bit 1 m.st m.here = 0 := by rw [bit_two h]; exact c0
   unfold Ds.code Ds.codeP
   rw [if_neg c0, if_neg c0', if_neg c0, if_neg c0']
   have key : ∀ b : (s'.s2 m).d.bad = true, (if (s'.s1 m).bit 2 m.st 0 = 0 then ((s'.s2 m).len 0 m.here).dist (cls ((s'.s2 m).lenV 0 m.here)) else if (s'.s2 m).repV m.st = 0 then (if (s'.s3 m).bit 4 m.st m.here = 0 then (s'.s3 m).one 4 m.st m.here else ((s'.s3 m).one 4 m.st m.here).len 1 m.here) else (s'.s3 m).len 1 m.here).d.bad = true := by
    intro b2
    have b3 : (s'.s3 m).d.bad = true := rep_bad b2 _
    split
    · exact dist_bad (len_bad b2 _ _) _
    · split
      · split
        · exact one_bad b3 _ _ _
        · exact len_bad (one_bad b3 _ _ _) _ _
      · exact len_bad b3 _ _
   rcases one_two h 1 m.st m.here with h1 | h1
   · exact .inl (key (one_bad h1 _ _ _))
   · rcases one_two (s := s.s1 m) (s' := s'.s1 m) h1 2 m.st 0 with h2 | h2
     · exact .inl (key h2)
     · have h2 : Two (s.s2 m) (s'.s2 m) x := h2
       have e1 : (s'.s1 m).bit 2 m.st 0 = (s.s1 m).bit 2 m.st 0 := bit_two h1 _ _ _
       rw [e1] at key ⊢
       by_cases c1 : (s.s1 m).bit 2 m.st 0 = 0
       · rw [if_pos c1, if_pos c1, if_pos c1, if_pos c1]
         rcases len_two h2 0 m.here with h3 | ⟨h3, h4⟩
         · exact .inl (dist_bad h3 _)
         · rw [h3]
           rcases dist_two h4 (cls ((s.s2 m).lenV 0 m.here)) with h5 | ⟨h5, h6⟩
           · exact .inl h5
           · exact .inr ⟨by rw [h5], h6⟩
       · rw [if_neg c1, if_neg c1, if_neg c1, if_neg c1]
         rcases rep_two h2 m.st with h3 | ⟨h3, h4⟩
         · have b3 : (s'.s3 m).d.bad = true := h3
           left
           split
           · split
             · exact one_bad b3 _ _ _
             · exact len_bad (one_bad b3 _ _ _) _ _
           · exact len_bad b3 _ _
         · have h4 : Two (s.s3 m) (s'.s3 m) x := h4
           rw [h3]
           by_cases c2 : (s.s2 m).repV m.st = 0
           · rw [if_pos c2, if_pos c2, if_pos c2, if_pos c2, bit_two h4]
             by_cases c3 : (s.s3 m).bit 4 m.st m.here = 0
             · rw [if_pos c3, if_pos c3, if_pos c3, if_pos c3]
               rcases one_two h4 4 m.st m.here with h5 | h5
               · exact .inl h5
               · exact .inr ⟨rfl, h5⟩
             · rw [if_neg c3, if_neg c3, if_neg c3, if_neg c3]
               rcases one_two h4 4 m.st m.here with h5 | h5
               · exact .inl (len_bad h5 _ _)
               · rcases len_two h5 1 m.here with h6 | ⟨h6, h7⟩
                 · exact .inl h6
                 · exact .inr ⟨by rw [h6], h7⟩
           · rw [if_neg c2, if_neg c2, if_neg c2, if_neg c2]
             rcases len_two h4 1 m.here with h6 | ⟨h6, h7⟩
             · exact .inl h6
             · exact .inr ⟨by rw [h6], h7⟩
end
theorem decR_bad {n most : Int} {d : Ds} (h : d.d.bad = true) : ∀ (f : Nat) (m : Ms) (acc : List Pt), decR n most f m d acc = none
 | 0, _, _ => rfl
 | f + 1, m, acc => by
  rw [decR_stop (by rw [h]; simp)]
  unfold over
  rw [h]
  simp
theorem decR_two {n most : Int} {x : UInt8} : ∀ (f : Nat) (m : Ms) (s s' : Ds) (acc : List Pt), Two s s' x → decR n most f m s acc = none ∨ decR n most f m s' acc = none
 | 0, _, _, _, _, _ => .inl rfl
 | f + 1, m, s, s', acc, h => by
  obtain ⟨r, c, z, b⟩ := h.1
  by_cases hl : lacksB n m = true ∧ s.d.bad = false
  · have hl' : lacksB n m = true ∧ s'.d.bad = false := by rw [b]; exact hl
    rcases code_two h m with h1 | ⟨h1, h2⟩
    · right
      generalize hg : got most m (s'.codeP m).pt = g
      obtain ⟨p, e, k, m'⟩ := g
      cases k with
      | false => exact decR_no hl' hg
      | true =>
       cases e with
       | false => rw [decR_more hl' hg]; exact decR_bad h1 f m' _
       | true => rw [decR_end hl' hg, if_neg (by unfold over; rw [h1]; simp)]
    · generalize hg : got most m (s.codeP m).pt = g
      have hg' : got most m (s'.codeP m).pt = g := by rw [h1]; exact hg
      obtain ⟨p, e, k, m'⟩ := g
      cases k with
      | false => exact .inl (decR_no hl hg)
      | true =>
       cases e with
       | false =>
        rw [decR_more hl hg, decR_more hl' hg']
        exact decR_two f m' _ _ _ h2
       | true =>
        left
        rw [decR_end hl hg, if_neg]
        unfold over Dec.done
        rw [h2.1.1]
        simp
  · left
    rw [decR_stop hl, if_neg]
    unfold over Dec.done
    rw [r]
    simp
theorem stepD_two {d d' : Dec} {x : UInt8} (h : Short d d' x) : (stepD d').bad = true ∨ Short (stepD d) (stepD d') x := by
 obtain ⟨rest, code, size, bad⟩ := d
 obtain ⟨rest', code', size', bad'⟩ := d'
 obtain ⟨h1, h2, h3, h4⟩ := h
 dsimp only at h1 h2 h3 h4
 subst h1 h2 h3 h4
 cases rest' with
 | nil => exact .inl rfl
 | cons y t => exact .inr ⟨rfl, rfl, rfl, rfl⟩
theorem stepD_bad {d : Dec} (h : d.bad = true) : (stepD d).bad = true := next_bad h
theorem readN_bad {d : Dec} (h : d.bad = true) : ∀ i, (readN i d).bad = true
 | 0 => h
 | i + 1 => by rw [readN]; first | exact stepD_bad (readN_bad h i) | exact readN_bad (stepD_bad h) i
theorem readN_two : ∀ (i : Nat) {d d' : Dec} {x : UInt8}, Short d d' x → (readN i d').bad = true ∨ Short (readN i d) (readN i d') x
 | 0, _, _, _, h => .inr h
 | i + 1, d, d', x, h => by
  rw [readN, readN]
  first
  | (rcases stepD_two h with h1 | h1
     · exact .inl (readN_bad h1 i)
     · exact readN_two i h1)
  | (rcases readN_two i h with h1 | h1
     · exact .inl (stepD_bad h1)
     · exact stepD_two h1)
theorem next_two {d d' : Dec} {x : UInt8} (h : Short d d' x) : d'.next.bad = true ∨ Short d.next d'.next x := by
 obtain ⟨rest, code, size, bad⟩ := d
 obtain ⟨rest', code', size', bad'⟩ := d'
 obtain ⟨h1, h2, h3, h4⟩ := h
 dsimp only at h1 h2 h3 h4
 subst h1 h2 h3 h4
 cases rest' with
 | nil => exact .inl rfl
 | cons y t => exact .inr ⟨rfl, rfl, rfl, rfl⟩
theorem read_two (l : List UInt8) (x : UInt8) : (Dec.read l).bad = true ∨ Short (Dec.read (l ++ [x])) (Dec.read l) x := by
 have h0 : Short (Dec.fresh (l ++ [x])) (Dec.fresh l) x := ⟨rfl, rfl, rfl, rfl⟩
 rcases next_two h0 with h1 | h1
 · left
   unfold Dec.read
   split
   · exact readN_bad h1 4
   · rfl
 · cases l with
   | nil =>
    left
    unfold Dec.read
    split
    · exact readN_bad rfl 4
    · rfl
   | cons y t =>
    have hb : (Dec.fresh ((y :: t) ++ [x])).byte = (Dec.fresh (y :: t)).byte := rfl
    rcases readN_two 4 h1 with h2 | h2
    · left
      unfold Dec.read
      split
      · exact h2
      · rfl
    · by_cases hz : (Dec.fresh (y :: t)).byte = 0
      · right
        unfold Dec.read
        rw [hb, if_pos hz, if_pos hz]
        exact h2
      · left
        unfold Dec.read
        rw [if_neg hz]
theorem readR_two (lc lp pb : Nat) (s s' : ByteArray) (x : UInt8) (n most : Int) (h : s.data.toList = s'.data.toList ++ [x]) : readR lc lp pb s n most = none ∨ readR lc lp pb s' n most = none := by
 unfold readR
 rw [h]
 rcases read_two s'.data.toList x with h1 | h1
 · exact .inr (decR_bad h1 _ _ _)
 · exact decR_two _ _ _ _ _ ⟨h1, rfl⟩
theorem decR_low {M K : Int} : ∀ (f g : Nat) (m : Ms) (s : Ds) (acc : List Pt) (y : Ms × List Pt), m.r.pos → (m.l.length : Int) ≤ K → K ≤ M → decR (-1) M f m s acc = some y → K < (y.1.l.length : Int) → decR (-1) K g m s acc = none
 | 0, _, _, _, _, _, _, _, _, h, _ => by cases h
 | _ + 1, 0, _, _, _, _, _, _, _, _, _ => rfl
 | f + 1, g + 1, m, s, acc, y, hr, hK, hM, h, hy => by
  by_cases hl : lacksB (-1) m = true ∧ s.d.bad = false
  · generalize hg : got M m (s.codeP m).pt = z at h
    obtain ⟨p, e, k, m'⟩ := z
    cases k with
    | false => rw [decR_no hl hg] at h; cases h
    | true =>
     cases e with
     | false =>
      rw [decR_more hl hg] at h
      obtain ⟨u, hu, rfl, rfl⟩ := got_more hg hr
      have hne : ¬ ((s.codeP m).pt.k = 2 ∧ (s.codeP m).pt.d = 0 ∧ (s.codeP m).pt.n = 2 ∧ (s.codeP m).pt.b = 0) := by
       intro hc
       unfold got at hg
       rw [if_pos hc] at hg
       simp at hg
      cases hf : fitM K m (s.codeP m).pt with
      | none =>
       have hgk : got K m (s.codeP m).pt = (⟨0, 0, 0, 0⟩, false, false, m) := by unfold got; rw [if_neg hne, hf]
       exact decR_no hl hgk
      | some u' =>
       have := fitM_mono hf hM
       rw [hu] at this
       cases this
       have hgk : got K m (s.codeP m).pt = ((s.codeP m).pt, false, true, m.tell (s.codeP m).pt u) := by unfold got; rw [if_neg hne, hf]
       obtain ⟨_, t2, t3⟩ := tell_grows hf hr
       rw [decR_more hl hgk]
       exact decR_low f g _ _ _ y t3 t2 hM h hy
     | true =>
      exfalso
      rw [decR_end hl hg] at h
      have hm : m' = m := by
       unfold got at hg
       split at hg
       · cases hg; rfl
       · split at hg <;> simp at hg
      split at h
      · cases h
        rw [hm] at hy
        dsimp only at hy
        omega
      · cases h
  · exfalso
    rw [decR_stop hl] at h
    have hb : s.d.bad = true := by
     cases hb : s.d.bad with
     | true => rfl
     | false => exact absurd ⟨by unfold lacksB; simp, hb⟩ hl
    unfold over at h
    rw [hb] at h
    simp at h
theorem readR_low (lc lp pb : Nat) (s : ByteArray) {M K : Int} {m : Ms} {l : List Pt} (hK : 0 ≤ K) (hM : K ≤ M) (h : readR lc lp pb s (-1) M = some (m, l)) (hy : K < (m.l.length : Int)) : readR lc lp pb s (-1) K = none := by
 unfold readR at h ⊢
 rw [show mostOf (-1) M = M from by unfold mostOf; rw [if_pos (by omega)]] at h
 rw [show mostOf (-1) K = K from by unfold mostOf; rw [if_pos (by omega)]]
 exact decR_low _ _ _ _ _ (m, l) (by unfold mNew Pk.Rp.pos; simp) (by unfold mNew; simpa using hK) hM h hy
end Go.Proofs.YtfpoabeihpfeiaaGreat.Lz
