/-
  Plain mathematics of layer 6: what Repeat tells is what the document's tells, and tells the same text.
-/
import Derived.Test.YtfpoabeihpfeiaaGreatPk49

set_option maxRecDepth 100000
set_option maxHeartbeats 16000000
set_option linter.unusedVariables false
set_option linter.unusedSimpArgs false
namespace Go.Proofs.YtfpoabeihpfeiaaGreat.Pk
def plainB (p : Pt) : Bool := (p.k ≠ 2 /\ p.k ≠ 3) \/ (p.k = 3 /\ (p.d < 0 \/ 3 < p.d))
def rrep : List Pt -> Rp -> Rp -> List Pt
 | [], _, _ => []
 | p :: ps, r, old => if plainB p then p :: rrep ps r old
  else (r.retell (if p.k = 3 then old.at p.d else p.d) p.n).1 :: rrep ps (r.retell (if p.k = 3 then old.at p.d else p.d) p.n).2 (if p.k = 3 then old.front p.d else old.push p.d)
def Rp.small (r : Rp) : Prop := r.a <= 1048576 /\ r.b <= 1048576 /\ r.c <= 1048576 /\ r.d <= 1048576
theorem plain_of_fit {p : Pt} {hv : Int} {r : Rp} {x : Int × Int × Rp} (h : p.fit hv r = some x) : p.plain = true := by
 unfold Pt.fit at h
 cases hp : p.plain with
 | true => rfl
 | false => rw [hp, if_pos rfl] at h; cases h
theorem fit_form2 {p : Pt} {hv d n : Int} {r s : Rp} (h : p.fit hv r = some (d, n, s)) :
  (p.k = 1 /\ s = r) \/ (p.k = 2 /\ d = p.d /\ n = p.n /\ s = r.push p.d /\ p.b = 0 /\ d <= 1048576 /\ lenB n = true) \/ (p.k = 3 /\ 0 <= p.d /\ p.d < 4 /\ d = r.at p.d /\ n = p.n /\ s = r.front p.d /\ p.b = 0 /\ lenB n = true) \/ (p.k = 4 /\ d = r.a /\ n = 1 /\ s = r) := by
 have hp := plain_of_fit h
 have hk := plain_kind hp
 unfold Pt.fit at h
 rw [hp, if_neg (by simp)] at h
 rcases hk with hk | hk | hk | hk
 · rw [if_pos hk] at h
   simp only [Option.some.injEq, Prod.mk.injEq] at h
   exact .inl ⟨hk, h.2.2.symm⟩
 · rw [if_neg (by omega), if_pos hk] at h
   split at h
   · rename_i hc
     simp only [Option.some.injEq, Prod.mk.injEq] at h
     obtain ⟨rfl, rfl, rfl⟩ := h
     have hb : p.b = 0 := by simp [Pt.plain, hk] at hp; exact hp
     exact .inr (.inl ⟨hk, rfl, rfl, rfl, hb, by omega, hc.2.2⟩)
   · cases h
 · rw [if_neg (by omega), if_neg (by omega), if_pos hk] at h
   split at h
   · rename_i hc
     simp only [Option.some.injEq, Prod.mk.injEq] at h
     obtain ⟨rfl, rfl, rfl⟩ := h
     have hb : p.b = 0 := by simp [Pt.plain, hk] at hp; exact hp
     exact .inr (.inr (.inl ⟨hk, hc.1.1, hc.1.2, rfl, rfl, rfl, hb, hc.2.2⟩))
   · cases h
 · rw [if_neg (by omega), if_neg (by omega), if_neg (by omega)] at h
   split at h
   · simp only [Option.some.injEq, Prod.mk.injEq] at h
     obtain ⟨rfl, rfl, rfl⟩ := h
     exact .inr (.inr (.inr ⟨hk, rfl, rfl, rfl⟩))
   · cases h
theorem front_small {r : Rp} (h : r.small) (i : Int) : (r.front i).small := by
 obtain ⟨h1, h2, h3, h4⟩ := h
 unfold Rp.front
 split
 · exact ⟨h2, h1, h3, h4⟩
 · split
   · exact ⟨h3, h1, h2, h4⟩
   · split
     · exact ⟨h4, h1, h2, h3⟩
     · exact ⟨h1, h2, h3, h4⟩
theorem push_small {r : Rp} (h : r.small) {d : Int} (hd : d <= 1048576) : (r.push d).small := by
 unfold Rp.push Rp.small at *
 simp only
 omega
theorem at_small {r : Rp} (h : r.small) (i : Int) : r.at i <= 1048576 := by
 unfold Rp.at Rp.small at *
 (repeat' split) <;> omega
theorem front_head (r : Rp) (i : Int) (h0 : 0 <= i) (h4 : i < 4) : (r.front i).a = r.at i := by
 have : i = 0 \/ i = 1 \/ i = 2 \/ i = 3 := by omega
 rcases this with rfl | rfl | rfl | rfl <;> rfl
theorem find_some {r : Rp} {d : Int} (h : (r.find d).2 = true) : 0 <= (r.find d).1 /\ (r.find d).1 < 4 /\ r.at (r.find d).1 = d := by
 unfold Rp.find at *
 by_cases h0 : r.a = d
 · rw [if_pos h0] at h ⊢; exact ⟨by simp, by simp, by simpa [Rp.at] using h0⟩
 · rw [if_neg h0] at h ⊢
   by_cases h1 : r.b = d
   · rw [if_pos h1] at h ⊢; exact ⟨by simp, by simp, by simpa [Rp.at] using h1⟩
   · rw [if_neg h1] at h ⊢
     by_cases h2 : r.c = d
     · rw [if_pos h2] at h ⊢; exact ⟨by simp, by simp, by simpa [Rp.at] using h2⟩
     · rw [if_neg h2] at h ⊢
       by_cases h3 : r.d = d
       · rw [if_pos h3] at h ⊢; exact ⟨by simp, by simp, by simpa [Rp.at] using h3⟩
       · rw [if_neg h3] at h; cases h
theorem retell_fit {now : Rp} {d n hv : Int} (h1 : 1 <= d) (h2 : d <= hv) (h3 : d <= 1048576) (hn : lenB n = true) : ((now.retell d n).1).fit hv now = some (d, n, (now.retell d n).2) /\ (now.retell d n).2.a = d /\ ((now.retell d n).1.k = 2 \/ (now.retell d n).1.k = 3) := by
 unfold Rp.retell
 by_cases hf : (now.find d).2 = true
 · rw [if_pos hf]
   obtain ⟨f0, f4, fa⟩ := find_some hf
   generalize (now.find d).1 = i at *
   have hp : (⟨3, i, n, 0⟩ : Pt).plain = true := by simp [Pt.plain]
   have hc : (0 <= i /\ i < 4) /\ now.at i <= hv /\ lenB n = true := ⟨⟨f0, f4⟩, by omega, hn⟩
   refine ⟨?_, by rw [front_head now i f0 f4]; exact fa, .inr rfl⟩
   unfold Pt.fit
   rw [hp, if_neg (by simp)]
   simp only
   rw [if_neg (by omega), if_neg (by omega), if_pos trivial, if_pos hc, fa]
 · rw [if_neg hf]
   have hp : (⟨2, d, n, 0⟩ : Pt).plain = true := by simp [Pt.plain]
   have hc : 1 <= d /\ d <= min hv 1048576 /\ lenB n = true := ⟨h1, by omega, hn⟩
   refine ⟨?_, rfl, .inl rfl⟩
   unfold Pt.fit
   rw [hp, if_neg (by simp)]
   simp only
   rw [if_neg (by omega), if_pos trivial, if_pos hc]
theorem tell_more {p : Pt} {most : Nat} {l l' : List UInt8} {d n : Int} (h : p.tell most l d n = some l') (hn : p.k = 1 /\ n = 1 \/ p.k ≠ 1 /\ 1 <= n) : (l'.length : Int) = l.length + n := by
 unfold Pt.tell at h
 rcases hn with ⟨h1, h2⟩ | ⟨h1, h2⟩
 · rw [if_pos h1] at h
   split at h
   · cases h; simp; omega
   · cases h
 · rw [if_neg h1] at h
   split at h
   · cases h; rw [Wnd.copied_length]; omega
   · cases h
theorem tell_kind {p q : Pt} {most : Nat} {l : List UInt8} {d n : Int} (h1 : p.k ≠ 1) (h2 : q.k ≠ 1) : p.tell most l d n = q.tell most l d n := by
 unfold Pt.tell
 rw [if_neg h1, if_neg h2]
theorem repL_some {p : Pt} {ps : List Pt} {hv d n : Int} {was now s : Rp} (h : p.fit hv was = some (d, n, s)) : repL (p :: ps) hv was now = if p.k = 2 \/ p.k = 3 then (now.retell d n).1 :: repL ps (hv + n) s (now.retell d n).2 else p :: repL ps (hv + n) s now := by
 rw [repL, h]
theorem rep_same (most : Nat) (t : List UInt8) : ∀ (ps : List Pt) (l : List UInt8) (was now : Rp), was.pos -> now.pos -> was.small -> was.a = now.a -> applyL most ps l was = (t, 0) ->
  repL ps (l.length : Int) was now = rrep ps now was /\ applyL most (repL ps (l.length : Int) was now) l now = (t, 0)
 | [], l, was, now, _, _, _, _, h => ⟨rfl, h⟩
 | p :: ps, l, was, now, hw, hn, hs, ha, h => by
  cases hf : p.fit (l.length : Int) was with
  | none => rw [applyL_none hf] at h; cases h
  | some x =>
   obtain ⟨d, n, s⟩ := x
   cases ht : p.tell most l d n with
   | none => rw [applyL_long hf ht] at h; cases h
   | some l' =>
    rw [applyL_more hf ht] at h
    obtain ⟨hsp, hfs⟩ := fit_some hf hw
    have hlen : (l'.length : Int) = l.length + n := tell_more ht (by rcases hfs with ⟨a, b⟩ | ⟨a, b, c, e, f⟩; exact .inl ⟨a, b⟩; exact .inr ⟨a, e⟩)
    rw [repL_some hf]
    rcases fit_form2 hf with ⟨hk, rfl⟩ | ⟨hk, rfl, rfl, rfl, hb, hd, hlb⟩ | ⟨hk, h0, h4, rfl, rfl, rfl, hb, hlb⟩ | ⟨hk, rfl, rfl, rfl⟩
    · have hn1 : n = 1 := by rcases hfs with ⟨_, b⟩ | ⟨a, _⟩; exact b; exact absurd hk a
      have hpl : plainB p = true := by unfold plainB; simp [hk]
      obtain ⟨i1, i2⟩ := rep_same most t ps l' s now hw hn hs ha h
      rw [hlen] at i1 i2
      rw [if_neg (by omega)]
      refine ⟨by rw [rrep, if_pos hpl, i1], ?_⟩
      have hf2 : p.fit (l.length : Int) now = some (0, 1, now) := by
       unfold Pt.fit
       rw [plain_of_fit hf, if_neg (by simp), if_pos hk]
      have ht2 : p.tell most l 0 1 = some l' := by
       rw [<- ht]
       unfold Pt.tell
       rw [if_pos hk, if_pos hk]
      rw [applyL_more hf2 ht2]
      exact i2
    · obtain ⟨c1, c2, c3, c4, c5⟩ : p.k ≠ 1 /\ 1 <= p.d /\ p.d <= l.length /\ 1 <= p.n /\ p.n <= 273 := by rcases hfs with ⟨a, _⟩ | a; omega; exact a
      obtain ⟨r1, r2, r3⟩ := retell_fit (now := now) c2 c3 hd hlb
      have hp2 := (fit_some r1 hn).1
      have hpl : plainB p = false := by unfold plainB; simp [hk]
      obtain ⟨i1, i2⟩ := rep_same most t ps l' (was.push p.d) (now.retell p.d p.n).2 hsp hp2 (push_small hs hd) (by rw [r2]; rfl) h
      rw [hlen] at i1 i2
      rw [if_pos (.inl hk)]
      refine ⟨by rw [rrep, hpl, if_neg (by simp), if_neg (by omega), if_neg (by omega), i1], ?_⟩
      rw [applyL_more r1 (by rw [<- ht]; exact tell_kind (by omega) (by omega))]
      exact i2
    · obtain ⟨c1, c2, c3, c4, c5⟩ : p.k ≠ 1 /\ 1 <= was.at p.d /\ was.at p.d <= l.length /\ 1 <= p.n /\ p.n <= 273 := by rcases hfs with ⟨a, _⟩ | a; omega; exact a
      obtain ⟨r1, r2, r3⟩ := retell_fit (now := now) c2 c3 (at_small hs p.d) hlb
      have hp2 := (fit_some r1 hn).1
      have hpl : plainB p = false := by unfold plainB; simp [hk]; omega
      obtain ⟨i1, i2⟩ := rep_same most t ps l' (was.front p.d) (now.retell (was.at p.d) p.n).2 hsp hp2 (front_small hs p.d) (by rw [r2, front_head was p.d h0 h4]) h
      rw [hlen] at i1 i2
      rw [if_pos (.inr hk)]
      refine ⟨by rw [rrep, hpl, if_neg (by simp), if_pos hk, if_pos hk, i1], ?_⟩
      rw [applyL_more r1 (by rw [<- ht]; exact tell_kind (by omega) (by omega))]
      exact i2
    · have hpl : plainB p = true := by unfold plainB; simp [hk]
      obtain ⟨i1, i2⟩ := rep_same most t ps l' s now hw hn hs ha h
      rw [hlen] at i1 i2
      rw [if_neg (by omega)]
      refine ⟨by rw [rrep, if_pos hpl, i1], ?_⟩
      have hf2 : p.fit (l.length : Int) now = some (s.a, 1, now) := by
       obtain ⟨c1, c2, c3, c4, c5⟩ : p.k ≠ 1 /\ 1 <= s.a /\ s.a <= l.length /\ 1 <= (1 : Int) /\ (1 : Int) <= 273 := by rcases hfs with ⟨a, _⟩ | a; omega; exact a
       unfold Pt.fit
       rw [plain_of_fit hf, if_neg (by simp), if_neg (by omega), if_neg (by omega), if_neg (by omega), if_pos (by omega), ha]
      rw [applyL_more hf2 ht]
      exact i2
theorem rrep_length : ∀ (ps : List Pt) (r old : Rp), (rrep ps r old).length = ps.length
 | [], _, _ => rfl
 | p :: ps, r, old => by
  rw [rrep]
  split <;> simp [rrep_length ps]
theorem rrep_bytes : ∀ (ps : List Pt) (r old : Rp), (∀ p ∈ ps, p.b < 256) -> ∀ p ∈ rrep ps r old, p.b < 256
 | [], _, _, _ => by simp [rrep]
 | p :: ps, r, old, h => by
  have h1 := h p (by simp)
  have h2 := fun r old => rrep_bytes ps r old (fun q hq => h q (by simp [hq]))
  rw [rrep]
  split
  · intro q hq
    rcases List.mem_cons.1 hq with rfl | hq
    · exact h1
    · exact h2 _ _ q hq
  · intro q hq
    rcases List.mem_cons.1 hq with rfl | hq
    · rw [retell_b]; omega
    · exact h2 _ _ q hq
end Go.Proofs.YtfpoabeihpfeiaaGreat.Pk
