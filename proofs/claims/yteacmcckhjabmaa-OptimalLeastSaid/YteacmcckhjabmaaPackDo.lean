/-
  Package packet: the contract of Fits.
  Package packet: the contract of writeTo.
  Package packet: what Apply tells, and its objects in memory.
  Package packet: the contract of Apply.
  Lists of packets in memory: their cells; a slice that owns just these; a list that came in.
-/
import Derived.Test.YteacmcckhjabmaaPackFitsA
import Derived.Test.YteacmcckhjabmaaPackFitsB
import Derived.Test.YteacmcckhjabmaaPackFitsC
import Derived.Deep.RegionWith
import Derived.Deep.RegionHeld3
import Derived.Test.YteacmcckhjabmaaPackBase
import Derived.Test.YteacmcckhjabmaaWin
import Derived.Deep.DeepCutAuto
import Derived.Deep.CutBlock
section
namespace Go.Proofs.Yteacmcckhjabmaa.Pk
open Go.RowKit
theorem plain_kind {p : Pt} (h : p.plain = true) : p.k = 1 ∨ p.k = 2 ∨ p.k = 3 ∨ p.k = 4 := by
  unfold Pt.plain at h
  split at h
  · left; assumption
  · split at h
    · omega
    · split at h
      · omega
      · cases h
theorem fits_any (p : Pt) (hv : Int) (r : Rp) (w : World) :
    Calls Try.prog 22 #[p.val, .int .i64 hv, r.val] w fun x w' => x = .returned (fitVal r (p.fit hv r)) ∧ Below w.heap.size w w' := by
  obtain ⟨k, d, n, b⟩ := p
  obtain ⟨r0, r1, r2, r3⟩ := r
  cases hpl : (⟨k, d, n, b⟩ : Pt).plain with
  | false =>
    rw [show (⟨k, d, n, b⟩ : Pt).fit hv ⟨r0, r1, r2, r3⟩ = none by unfold Pt.fit; rw [if_pos hpl]]
    exact fits_bad k d n b hv r0 r1 r2 r3 w hpl
  | true =>
    rcases plain_kind hpl with h | h | h | h
    · simp only at h
      subst h
      rw [show (⟨1, d, n, b⟩ : Pt).fit hv ⟨r0, r1, r2, r3⟩ = some (0, 1, ⟨r0, r1, r2, r3⟩) by unfold Pt.fit; rw [if_neg (by rw [hpl]; simp)]; rfl]
      exact fits_lit d n b hv r0 r1 r2 r3 w hpl
    · simp only at h
      subst h
      have e : (⟨2, d, n, b⟩ : Pt).fit hv ⟨r0, r1, r2, r3⟩ = if 1 ≤ d ∧ d ≤ min hv 1048576 ∧ lenB n = true then some (d, n, (⟨r0, r1, r2, r3⟩ : Rp).push d) else none := by unfold Pt.fit; rw [if_neg (by rw [hpl]; simp)]; rfl
      rw [e]
      by_cases c1 : 1 ≤ d
      · by_cases c2 : d ≤ min hv 1048576
        · cases c3 : lenB n with
          | false => rw [if_neg (by simp)]; exact fits_match_len d n b hv r0 r1 r2 r3 w hpl c1 (by omega) (by omega) c3
          | true => rw [if_pos ⟨c1, c2, rfl⟩]; exact fits_match d n b hv r0 r1 r2 r3 w hpl c1 (by omega) (by omega) c3
        · rw [if_neg (by omega)]; exact fits_match_far2 d n b hv r0 r1 r2 r3 w hpl c1 c2
      · rw [if_neg (by omega)]; exact fits_match_far1 d n b hv r0 r1 r2 r3 w hpl c1
    · simp only at h
      subst h
      have e : (⟨3, d, n, b⟩ : Pt).fit hv ⟨r0, r1, r2, r3⟩ = if (0 ≤ d ∧ d < 4) ∧ (⟨r0, r1, r2, r3⟩ : Rp).at d ≤ hv ∧ lenB n = true then some ((⟨r0, r1, r2, r3⟩ : Rp).at d, n, (⟨r0, r1, r2, r3⟩ : Rp).front d) else none := by unfold Pt.fit; rw [if_neg (by rw [hpl]; simp)]; rfl
      rw [e]
      by_cases c1 : 0 ≤ d ∧ d < 4
      · rcases (show d = 0 ∨ d = 1 ∨ d = 2 ∨ d = 3 by omega) with rfl | rfl | rfl | rfl
        · by_cases c2 : r0 ≤ hv
          · cases c3 : lenB n with
            | false => rw [if_neg (by simp)]; exact fits_rep_len0 n b hv r0 r1 r2 r3 w hpl c2 c3
            | true => rw [if_pos ⟨c1, c2, rfl⟩]; exact fits_rep0 n b hv r0 r1 r2 r3 w hpl c2 c3
          · rw [if_neg (fun h => c2 h.2.1)]; exact fits_rep_far0 n b hv r0 r1 r2 r3 w hpl c2
        · by_cases c2 : r1 ≤ hv
          · cases c3 : lenB n with
            | false => rw [if_neg (by simp)]; exact fits_rep_len1 n b hv r0 r1 r2 r3 w hpl c2 c3
            | true => rw [if_pos ⟨c1, c2, rfl⟩]; exact fits_rep1 n b hv r0 r1 r2 r3 w hpl c2 c3
          · rw [if_neg (fun h => c2 h.2.1)]; exact fits_rep_far1 n b hv r0 r1 r2 r3 w hpl c2
        · by_cases c2 : r2 ≤ hv
          · cases c3 : lenB n with
            | false => rw [if_neg (by simp)]; exact fits_rep_len2 n b hv r0 r1 r2 r3 w hpl c2 c3
            | true => rw [if_pos ⟨c1, c2, rfl⟩]; exact fits_rep2 n b hv r0 r1 r2 r3 w hpl c2 c3
          · rw [if_neg (fun h => c2 h.2.1)]; exact fits_rep_far2 n b hv r0 r1 r2 r3 w hpl c2
        · by_cases c2 : r3 ≤ hv
          · cases c3 : lenB n with
            | false => rw [if_neg (by simp)]; exact fits_rep_len3 n b hv r0 r1 r2 r3 w hpl c2 c3
            | true => rw [if_pos ⟨c1, c2, rfl⟩]; exact fits_rep3 n b hv r0 r1 r2 r3 w hpl c2 c3
          · rw [if_neg (fun h => c2 h.2.1)]; exact fits_rep_far3 n b hv r0 r1 r2 r3 w hpl c2
      · rw [if_neg (fun h => c1 h.1)]; exact fits_rep_out d n b hv r0 r1 r2 r3 w hpl c1
    · simp only at h
      subst h
      have e : (⟨4, d, n, b⟩ : Pt).fit hv ⟨r0, r1, r2, r3⟩ = if r0 ≤ hv then some (r0, 1, ⟨r0, r1, r2, r3⟩) else none := by unfold Pt.fit; rw [if_neg (by rw [hpl]; simp)]; rfl
      rw [e]
      by_cases c1 : r0 ≤ hv
      · rw [if_pos c1]; exact fits_short d n b hv r0 r1 r2 r3 w hpl c1
      · rw [if_neg c1]; exact fits_short_far d n b hv r0 r1 r2 r3 w hpl c1
end Go.Proofs.Yteacmcckhjabmaa.Pk
end
section
namespace Go.Proofs.Yteacmcckhjabmaa.Pk
open Go.RowKit
open Wnd (Win Grew Owns copied)
/-- The text behind a packet that fits, if there is room for it. -/
def Pt.tell (p : Pt) (most : Nat) (l : List UInt8) (d n : Int) : Option (List UInt8) :=
  if p.k = 1 then (if l.length < most then some (l ++ [UInt8.ofNat p.b]) else none)
  else if l.length + n.toNat ≤ most then some (copied l d.toNat n.toNat) else none
def tellVal : Option (List UInt8) → Bool
  | none => false
  | some _ => true
theorem win_alloc {w : World} {b : Nat} {v : Value} {most : Nat} {l : List UInt8} (h : Win w b v most l) (o : Obj) : Win (w.alloc o) b v most l :=
  h.frame (own := fun _ => False) ((Frame.refl _ w).alloc o) (fun _ _ hn => hn)
theorem grew_alloc {w w2 : World} {b : Nat} {v : Value} {most : Nat} {l2 : List UInt8} {o : Obj} (h : Grew (w.alloc o) b most v l2 w2) : Grew w b most v l2 w2 :=
  Grew.trans ((Frame.refl _ w).alloc o) (.inl rfl) h
theorem Wnd_drewN {w w2 : World} {b : Nat} {v : Value} {most : Nat} {l2 : List UInt8} (h : Grew w b most v l2 w2) (q : Nat) : Grew w b most v l2 (w2.drewN q) := by
  obtain ⟨v', hw, hf, hm⟩ := h
  exact ⟨v', hw.drewN q, hf.drewN q, hm⟩
set_option maxHeartbeats 1000000 in
theorem write_lit {w : World} {b : Nat} {v : Value} {most : Nat} {l : List UInt8} (h : Win w b v most l) (hl : l.length ≤ most) (hm : most ≤ 9223372036854775807) (hs : l.length < 1099511627776) (pd pn : Int) (pb : Nat) (hpb : pb < 256) (d n : Int) :
    Calls Try.prog 24 #[.agg #[.int .i64 1, .int .i64 pd, .int .i64 pn, .int .u8 (pb : Int)], .pointer (some ⟨b, 0, none⟩), .int .i64 d, .int .i64 n] w fun x w' =>
      if l.length < most then x = .returned (.bool true) ∧ Grew w b most v (l ++ [UInt8.ofNat pb]) w' else x = .returned (.bool false) ∧ Grew w b most v l w' := by
  have hx : (pb : Int) = ((UInt8.ofNat pb).toNat : Int) := by simp; omega
  by_cases hlt : l.length < most
  · simp only [if_pos hlt]
    have HP := Lib.hid (Wnd.put_of (win_alloc h (.cells #[.int .i64 1, .int .i64 pd, .int .i64 pn, .int .u8 (pb : Int)] 32 (0, 0))) hlt hm hs (UInt8.ofNat pb) (pb : Int) hx)
    clear h hx
    go_enter Try.func24, Try.ntmps24
    go_wp2_with fail
    refine HP.out.mono ?_
    rintro x w1 ⟨rfl, hg⟩
    have HG := Lib.hid (grew_alloc hg)
    clear hg HP
    go_wp2
    go_ret
    exact ⟨rfl, HG.out⟩
  · simp only [if_neg hlt]
    have HP := Lib.hid (Wnd.put_no (win_alloc h (.cells #[.int .i64 1, .int .i64 pd, .int .i64 pn, .int .u8 (pb : Int)] 32 (0, 0))) (by omega) hm (.int .u8 (pb : Int)))
    have HG0 := Lib.hid (grew_alloc (Grew.refl (win_alloc h (.cells #[.int .i64 1, .int .i64 pd, .int .i64 pn, .int .u8 (pb : Int)] 32 (0, 0)))))
    clear h hx
    go_enter Try.func24, Try.ntmps24
    go_wp2_with fail
    refine HP.out.mono ?_
    rintro x w1 ⟨rfl, q, hg⟩
    have HG := Lib.hid (show Grew w b most v l w1 from by rw [hg]; exact Wnd_drewN HG0.out q)
    clear hg HP HG0
    go_wp2
    go_ret
    exact ⟨rfl, HG.out⟩
set_option maxHeartbeats 1000000 in
theorem write_copy {w : World} {b : Nat} {v : Value} {most : Nat} {l : List UInt8} (h : Win w b v most l) (hl : l.length ≤ most) (hm : most ≤ 9223372036854775807) (hs : l.length ≤ 1099511000000) (pk pd pn : Int) (pb : Nat) (hpk : pk ≠ 1) (d n : Int) (h1 : 1 ≤ d) (h2 : d ≤ l.length) (h3 : 0 ≤ n) (h4 : n ≤ 273) :
    Calls Try.prog 24 #[.agg #[.int .i64 pk, .int .i64 pd, .int .i64 pn, .int .u8 (pb : Int)], .pointer (some ⟨b, 0, none⟩), .int .i64 d, .int .i64 n] w fun x w' =>
      if l.length + n.toNat ≤ most then x = .returned (.bool true) ∧ Grew w b most v (copied l d.toNat n.toNat) w' else x = .returned (.bool false) ∧ Grew w b most v l w' := by
  have hk : (pk == 1) = false := by simpa using hpk
  by_cases hlt : l.length + n.toNat ≤ most
  · simp only [if_pos hlt]
    have HP := Lib.hid (Wnd.copy_of (win_alloc h (.cells #[.int .i64 pk, .int .i64 pd, .int .i64 pn, .int .u8 (pb : Int)] 32 (0, 0))) d.toNat n.toNat d n (by omega) (by omega) (by omega) (by omega) hlt hm (by omega))
    clear h
    go_enter Try.func24, Try.ntmps24
    go_wp2_with fail
    refine HP.out.mono ?_
    rintro x w1 ⟨rfl, hg⟩
    have HG := Lib.hid (grew_alloc hg)
    clear hg HP
    go_wp2
    go_ret
    exact ⟨rfl, HG.out⟩
  · simp only [if_neg hlt]
    have HP := Lib.hid (Wnd.copy_over (win_alloc h (.cells #[.int .i64 pk, .int .i64 pd, .int .i64 pn, .int .u8 (pb : Int)] 32 (0, 0))) d n (by unfold Wnd.there; simp; omega) h3 hl hm (by omega))
    have HG0 := Lib.hid (grew_alloc (Grew.refl (win_alloc h (.cells #[.int .i64 pk, .int .i64 pd, .int .i64 pn, .int .u8 (pb : Int)] 32 (0, 0)))))
    clear h
    go_enter Try.func24, Try.ntmps24
    go_wp2_with fail
    refine HP.out.mono ?_
    rintro x w1 ⟨rfl, q, hg⟩
    have HG := Lib.hid (show Grew w b most v l w1 from by rw [hg]; exact Wnd_drewN HG0.out q)
    clear hg HP HG0
    go_wp2
    go_ret
    exact ⟨rfl, HG.out⟩
end Go.Proofs.Yteacmcckhjabmaa.Pk
end
section
namespace Go.Proofs.Yteacmcckhjabmaa.Pk
open Go.RowKit
open Wnd (Win Grew Owns copied)
/-- The text that packets tell behind a text, and the error's number. -/
def applyL (most : Nat) : List Pt → List UInt8 → Rp → List UInt8 × Nat
  | [], l, _ => (l, 0)
  | p :: ps, l, r => match p.fit (l.length : Int) r with
    | none => ([], 6)
    | some (d, n, s) => match p.tell most l d n with
      | none => ([], 11)
      | some l' => applyL most ps l' s
def Rp.pos (r : Rp) : Prop := 1 ≤ r.a ∧ 1 ≤ r.b ∧ 1 ≤ r.c ∧ 1 ≤ r.d
theorem fit_some {p : Pt} {hv d n : Int} {r s : Rp} (h : p.fit hv r = some (d, n, s)) (hr : r.pos) : s.pos ∧ (p.k = 1 ∧ n = 1 ∨ p.k ≠ 1 ∧ 1 ≤ d ∧ d ≤ hv ∧ 1 ≤ n ∧ n ≤ 273) := by
  unfold Rp.pos at *
  unfold Pt.fit at h
  split at h
  · cases h
  · split at h
    · simp only [Option.some.injEq, Prod.mk.injEq] at h
      obtain ⟨rfl, rfl, rfl⟩ := h
      exact ⟨hr, .inl ⟨by assumption, rfl⟩⟩
    · split at h
      · split at h
        · rename_i hc
          simp only [Option.some.injEq, Prod.mk.injEq] at h
          obtain ⟨rfl, rfl, rfl⟩ := h
          obtain ⟨c1, c2, c3⟩ := hc
          unfold lenB at c3
          simp at c3
          exact ⟨⟨c1, hr.1, hr.2.1, hr.2.2.1⟩, .inr ⟨by assumption, c1, by omega, by omega, by omega⟩⟩
        · cases h
      · split at h
        · split at h
          · rename_i hc
            simp only [Option.some.injEq, Prod.mk.injEq] at h
            obtain ⟨rfl, rfl, rfl⟩ := h
            obtain ⟨c1, c2, c3⟩ := hc
            unfold lenB at c3
            simp at c3
            have ha : 1 ≤ r.at p.d := by unfold Rp.at; (repeat' split) <;> omega
            refine ⟨?_, .inr ⟨by assumption, ha, c2, by omega, by omega⟩⟩
            unfold Rp.front
            split
            · exact ⟨hr.2.1, hr.1, hr.2.2.1, hr.2.2.2⟩
            · split
              · exact ⟨hr.2.2.1, hr.1, hr.2.1, hr.2.2.2⟩
              · split
                · exact ⟨hr.2.2.2, hr.1, hr.2.1, hr.2.2.1⟩
                · exact hr
          · cases h
        · split at h
          · simp only [Option.some.injEq, Prod.mk.injEq] at h
            obtain ⟨rfl, rfl, rfl⟩ := h
            exact ⟨hr, .inr ⟨by assumption, hr.1, by assumption, by omega, by omega⟩⟩
          · cases h
theorem tell_len {p : Pt} {most : Nat} {l l' : List UInt8} {d n : Int} (h : p.tell most l d n = some l') (hn : p.k = 1 ∨ 0 ≤ n ∧ n ≤ 273) : l'.length ≤ most ∧ l'.length ≤ l.length + 273 := by
  unfold Pt.tell at h
  split at h
  · split at h
    · cases h; simp; omega
    · cases h
  · split at h
    · cases h; rw [Wnd.copied_length]; omega
    · cases h
theorem write_any {w : World} {b : Nat} {v : Value} {most : Nat} {l : List UInt8} (h : Win w b v most l) (hl : l.length ≤ most) (hm : most ≤ 9223372036854775807) (hs : l.length ≤ 1099511000000) {p : Pt} (hpb : p.b < 256) {d n : Int} (hf : p.k = 1 ∧ n = 1 ∨ p.k ≠ 1 ∧ 1 ≤ d ∧ d ≤ l.length ∧ 1 ≤ n ∧ n ≤ 273) :
    Calls Try.prog 24 #[.agg #[.int .i64 p.k, .int .i64 p.d, .int .i64 p.n, .int .u8 (p.b : Int)], .pointer (some ⟨b, 0, none⟩), .int .i64 d, .int .i64 n] w fun x w' =>
      x = .returned (.bool (p.tell most l d n).isSome) ∧ Grew w b most v ((p.tell most l d n).getD l) w' := by
  obtain ⟨pk, pd, pn, pb⟩ := p
  unfold Pt.tell
  rcases hf with ⟨hk, rfl⟩ | ⟨hk, h1, h2, h3, h4⟩
  · simp only at hk
    subst hk
    refine (write_lit h hl hm (by omega) pd pn pb hpb d 1).mono fun x w' hx => ?_
    simp only [if_true]
    split at hx <;> rename_i hc
    · rw [if_pos hc]; exact hx
    · rw [if_neg hc]; exact hx
  · simp only at hk
    refine (write_copy h hl hm hs pk pd pn pb hk d n h1 h2 (by omega) h4).mono fun x w' hx => ?_
    simp only [if_neg hk]
    split at hx <;> rename_i hc
    · rw [if_pos hc]; exact hx
    · rw [if_neg hc]; exact hx
/-- The objects of Apply. -/
structure ApLock (W w : World) (B R most : Nat) (v : Value) (l : List UInt8) (r : Rp) : Prop where
  below : Below W.heap.size W w
  win : Win w B v most l
  hB : W.heap.size ≤ B
  hR : W.heap.size ≤ R
  ne : R ≠ B
  own : ∀ k, v.ownBlock = some k → W.heap.size ≤ k ∧ k ≠ R
  reps : w.heap[R]? = some (.cells #[.int .i64 r.a, .int .i64 r.b, .int .i64 r.c, .int .i64 r.d] 55 (0, 0))
  len : l.length ≤ most
  pos : r.pos
theorem ApLock.news {W w w' : World} {B R most : Nat} {v : Value} {l : List UInt8} {r : Rp} (h : ApLock W w B R most v l r) (hb : Below w.heap.size w w') : ApLock W w' B R most v l r :=
  ⟨h.below.trans (hb.mono h.below.size), h.win.frame (own := fun _ => False) (Frame.of_below_size hb) (fun _ _ => id), h.hB, h.hR, h.ne, h.own, (hb.block R (lt_of_heap h.reps)).trans h.reps, h.len, h.pos⟩
theorem ApLock.grew {W w w' : World} {B R most : Nat} {v : Value} {l l' : List UInt8} {r : Rp} (h : ApLock W w B R most v l r) (hg : Grew w B most v l' w') (hl : l'.length ≤ most) : ∃ v', ApLock W w' B R most v' l' r := by
  obtain ⟨v', hw, hF, hM⟩ := hg
  have hno : ¬ Owns B v R := by
    rintro (e | e)
    · exact h.ne e
    · exact (h.own R e).2 rfl
  refine ⟨v', h.below.trans (hF.below h.below.size fun k hk ho => ?_), hw, h.hB, h.hR, h.ne, fun k hk => ?_, (hF.block R (lt_of_heap h.reps) hno).trans h.reps, hl, h.pos⟩
  · rcases ho with ho | ho
    · have := h.hB; omega
    · have := (h.own k ho).1; omega
  · rcases hM with hM | hM
    · rw [hM] at hk; exact h.own k hk
    · have h1 := hM k hk
      have h2 := h.below.size
      have h3 := lt_of_heap h.reps
      exact ⟨by omega, by omega⟩
theorem set_heap {w : World} {X : Nat} {cs : Array Value} {t : TypeId} (h : w.heap[X]? = some (.cells cs t (0, 0))) (j : Nat) (v : Value) : (w.setCell ⟨X, j, none⟩ v).heap[X]? = some (.cells (cs.setIfInBounds j v) t (0, 0)) := by
  simp [World.setCell, Array.getElem?_modify, h]
theorem four_heap {w : World} {X : Nat} {z0 z1 z2 z3 : Value} {t : TypeId} (h : w.heap[X]? = some (.cells #[z0, z1, z2, z3] t (0, 0))) (a b c d : Value) :
    ((((w.setCell ⟨X, 0, none⟩ a).setCell ⟨X, 1, none⟩ b).setCell ⟨X, 2, none⟩ c).setCell ⟨X, 3, none⟩ d).heap[X]? = some (.cells #[a, b, c, d] t (0, 0)) :=
  set_heap (set_heap (set_heap (set_heap h 0 a) 1 b) 2 c) 3 d
theorem four_frame (w : World) (X : Nat) (a b c d : Value) : Frame (fun k => k = X) w ((((w.setCell ⟨X, 0, none⟩ a).setCell ⟨X, 1, none⟩ b).setCell ⟨X, 2, none⟩ c).setCell ⟨X, 3, none⟩ d) :=
  ((((Frame.refl (fun k => k = X) w).setCell (p := ⟨X, 0, none⟩) (.inl rfl) a).setCell (p := ⟨X, 1, none⟩) (.inl rfl) b).setCell (p := ⟨X, 2, none⟩) (.inl rfl) c).setCell (p := ⟨X, 3, none⟩) (.inl rfl) d
theorem ApLock.store {W w : World} {B R most : Nat} {v : Value} {l : List UInt8} {r : Rp} (h : ApLock W w B R most v l r) {s : Rp} (hs : s.pos) :
    ApLock W ((((w.setCell ⟨R, 0, none⟩ (.int .i64 s.a)).setCell ⟨R, 1, none⟩ (.int .i64 s.b)).setCell ⟨R, 2, none⟩ (.int .i64 s.c)).setCell ⟨R, 3, none⟩ (.int .i64 s.d)) B R most v l s := by
  have hF := four_frame w R (.int .i64 s.a) (.int .i64 s.b) (.int .i64 s.c) (.int .i64 s.d)
  refine ⟨h.below.trans (hF.below h.below.size fun k hk ho => ?_), h.win.frame hF (fun k hk ho => ?_), h.hB, h.hR, h.ne, h.own, four_heap h.reps _ _ _ _, h.len, hs⟩
  · have := h.hR; omega
  · subst ho
    rcases hk with e | e
    · exact h.ne e
    · exact (h.own k e).2 rfl
/-- A packet in memory. -/
def IsPt (w : World) (b o : Nat) (p : Pt) : Prop :=
  w.cell? ⟨b, o, none⟩ = some (.int .i64 p.k) ∧ w.cell? ⟨b, o + 1, none⟩ = some (.int .i64 p.d) ∧ w.cell? ⟨b, o + 2, none⟩ = some (.int .i64 p.n) ∧ w.cell? ⟨b, o + 3, none⟩ = some (.int .u8 (p.b : Int)) ∧ p.b < 256
theorem IsPt.below {w w' : World} {b o : Nat} {p : Pt} (h : IsPt w b o p) (hb : Below w.heap.size w w') : IsPt w' b o p := by
  have hbl := World.block_lt_of_cell? _ _ h.1
  exact ⟨(hb.cell (p := ⟨b, o, none⟩) hbl).trans h.1, (hb.cell (p := ⟨b, o + 1, none⟩) hbl).trans h.2.1, (hb.cell (p := ⟨b, o + 2, none⟩) hbl).trans h.2.2.1, (hb.cell (p := ⟨b, o + 3, none⟩) hbl).trans h.2.2.2.1, h.2.2.2.2⟩
/-- What comes behind Fits: the result's distances in a new block. -/
def Fitted (W w : World) (X : Nat) (s : Rp) : Prop := Below W.heap.size W w ∧ W.heap.size ≤ X ∧ w.heap[X]? = some (.cells #[.int .i64 s.a, .int .i64 s.b, .int .i64 s.c, .int .i64 s.d] 55 (0, 0))
theorem fitted_new {W w : World} (h : Below W.heap.size W w) (s : Rp) : Fitted W (w.alloc (.cells #[.int .i64 s.a, .int .i64 s.b, .int .i64 s.c, .int .i64 s.d] 55 (0, 0))) w.heap.size s :=
  ⟨h.alloc h.size _, h.size, heap_alloc_new _ _⟩
theorem fitted_set {W w : World} {X : Nat} {z0 z1 z2 z3 : Value} (h : Below W.heap.size W w) (hX : W.heap.size ≤ X) (hz : w.heap[X]? = some (.cells #[z0, z1, z2, z3] 55 (0, 0))) (s : Rp) :
    Fitted W ((((w.setCell ⟨X, 0, none⟩ (.int .i64 s.a)).setCell ⟨X, 1, none⟩ (.int .i64 s.b)).setCell ⟨X, 2, none⟩ (.int .i64 s.c)).setCell ⟨X, 3, none⟩ (.int .i64 s.d)) X s :=
  ⟨below_four h hX _ _ _ _, hX, four_heap hz _ _ _ _⟩
theorem bel_drew {B : Nat} {W0 W : World} (h : Below B W0 W) : Below B W0 W.drew := ⟨h.os, h.tape, h.output, h.size, h.block⟩
theorem bel_alloc {W0 W : World} (o : Obj) (h : Below W0.heap.size W0 W) : Below W0.heap.size W0 (W.alloc o) := h.alloc h.size o
theorem bel_new {W0 W W' : World} (h2 : Below W.heap.size W W') (h : Below W0.heap.size W0 W) : Below W0.heap.size W0 W' := h.trans (h2.mono h.size)
theorem bel_set {W0 W : World} {p : Addr} (u : Value) (hp : W0.heap.size ≤ p.block) (h : Below W0.heap.size W0 W) : Below W0.heap.size W0 (W.setCell p u) := h.setCell hp u
theorem alloc_kept {W w' : World} {o : Obj} (h : Below (W.alloc o).heap.size (W.alloc o) w') : w'.heap[W.heap.size]? = some o :=
  (h.block W.heap.size (by simp)).trans (heap_alloc_new W o)
end Go.Proofs.Yteacmcckhjabmaa.Pk
end
section
namespace Go.Proofs.Yteacmcckhjabmaa.Pk
open Go.RowKit
open Wnd (Win Grew Owns copied)
/-- What Fits tells, in one form. -/
theorem fit_form (p : Pt) (hv : Int) (r : Rp) : ∃ d n s, fitVal r (p.fit hv r) = .tuple #[.int .i64 d, .int .i64 n, .agg #[.int .i64 s.a, .int .i64 s.b, .int .i64 s.c, .int .i64 s.d], .bool (p.fit hv r).isSome] ∧ ∀ x, p.fit hv r = some x → x = (d, n, s) := by
  cases h : p.fit hv r with
  | none => exact ⟨0, 0, r, rfl, fun x hx => by cases hx⟩
  | some x =>
    obtain ⟨d, n, s⟩ := x
    exact ⟨d, n, s, rfl, fun y hy => by cases hy; rfl⟩
theorem applyL_none {most : Nat} {p : Pt} {ps : List Pt} {l : List UInt8} {r : Rp} (h : p.fit (l.length : Int) r = none) : applyL most (p :: ps) l r = ([], 6) := by unfold applyL; rw [h]
theorem applyL_long {most : Nat} {p : Pt} {ps : List Pt} {l : List UInt8} {r : Rp} {d n : Int} {s : Rp} (h : p.fit (l.length : Int) r = some (d, n, s)) (ht : p.tell most l d n = none) : applyL most (p :: ps) l r = ([], 11) := by unfold applyL; rw [h]; simp only [ht]
theorem applyL_more {most : Nat} {p : Pt} {ps : List Pt} {l l' : List UInt8} {r : Rp} {d n : Int} {s : Rp} (h : p.fit (l.length : Int) r = some (d, n, s)) (ht : p.tell most l d n = some l') : applyL most (p :: ps) l r = applyL most ps l' s := by rw [applyL, h]; simp only [ht]
def ApAt (W : World) (B R most : Nat) (ps : List Pt) (k : Nat) (w : World) : Prop :=
  ∃ v l r, ApLock W w B R most v l r ∧ l.length ≤ k * 273 ∧ applyL most (ps.drop k) l r = applyL most ps [] ⟨1, 1, 1, 1⟩
theorem alloc_kept2 {W w' : World} {o : Obj} (h : Below (W.alloc o).drew.heap.size (W.alloc o).drew w') : w'.heap[W.heap.size]? = some o :=
  (h.block W.heap.size (by simp)).trans (heap_alloc_new W o)
set_option maxRecDepth 100000 in
set_option maxHeartbeats 4000000 in
theorem apply_more {W : World} {ps : List Pt} {b off : Nat} (hc : ∀ i (h : i < ps.length), IsPt W b (off + i * 4) ps[i]) (hn : 0 < ps.length) (hl : ps.length ≤ 1000) (cap : Nat) (m : Int) (hm : m ≤ 9223372036854775807) :
    Calls Try.prog 8 #[.slice (some ⟨b, off, none⟩) ps.length cap, .int .i64 m] W fun x w' => x = .returned (.tuple #[.string ⟨(applyL m.toNat ps [] ⟨1, 1, 1, 1⟩).1.toArray⟩, .int .i64 ((applyL m.toNat ps [] ⟨1, 1, 1, 1⟩).2 : Int)]) ∧ Below W.heap.size W w' := by
  have HC := Lib.hid hc
  have hbl : b < W.heap.size := World.block_lt_of_cell? _ _ (hc 0 hn).1
  have hmm := Lib.hid (show m.toNat ≤ 9223372036854775807 by omega)
  clear hc
  go_enter Try.func8, Try.ntmps8
  go_wp2_with fail
  refine (Wnd.new_any m W).mono ?_
  rintro x w1 ⟨rfl, hw1⟩
  have HW1 := Lib.hid (show Win w1 W.heap.size (.slice none 0 0) m.toNat [] from by rw [hw1]; exact Wnd.win_new W m.toNat)
  have HB1 := Lib.hid (show Below W.heap.size W w1 from by rw [hw1]; exact (Below.refl _ _).alloc (Nat.le_refl _) _)
  clear hw1
  go_wp2_with fail
  refine (show Calls Try.prog 21 #[] w1 fun x w' => x = .returned (.agg #[.int .i64 1, .int .i64 1, .int .i64 1, .int .i64 1]) ∧ Below w1.heap.size w1 w' from first_any w1).mono ?_
  rintro x w2 ⟨rfl, hb2⟩
  have HL2 := Lib.hid (show ApLock W (w2.alloc (.cells #[.int .i64 1, .int .i64 1, .int .i64 1, .int .i64 1] 55 (0, 0))) W.heap.size w2.heap.size m.toNat (.slice none 0 0) [] ⟨1, 1, 1, 1⟩ from
    ⟨bel_alloc _ (bel_new hb2 HB1.out), win_alloc (HW1.out.frame (own := fun _ => False) (Frame.of_below_size hb2) (fun _ _ => id)) _, Nat.le_refl _, (bel_new hb2 HB1.out).size, by have := HW1.out.lt; have := hb2.size; omega, by simp [Value.ownBlock], heap_alloc_new _ _, by simp, by unfold Rp.pos; simp⟩)
  clear hb2 HB1 HW1
  go_wp2_with fail
  generalize hW3 : w2.alloc (.cells #[.int .i64 1, .int .i64 1, .int .i64 1, .int .i64 1] 55 (0, 0)) = W3 at *
  generalize w2.heap.size = R at *
  clear hW3
  go_loopw [19] (fun i wr => ∃ k : Nat, k ≤ ps.length ∧ i = .int .i64 k ∧ ApAt W W.heap.size R m.toNat ps k wr) (fun i _ => ps.length - (intOf i).toNat)
  case atStart => exact ⟨0, by omega, rfl, _, _, _, HL2.out, by simp, by simp⟩
  case round =>
    clear HL2
    obtain ⟨k, hk, rfl, v, l, r, hL, hlen, hres⟩ := hrel
    by_cases hlt : k < ps.length
    · have HA := Lib.hid (show applyL m.toNat (ps[k] :: ps.drop (k + 1)) l r = applyL m.toNat ps [] ⟨1, 1, 1, 1⟩ from by rw [← hres, List.drop_eq_getElem_cons hlt])
      have hpt := (HC.out k hlt).below hL.below
      generalize ps[k] = p at *
      obtain ⟨p0, p1, p2, p3, hpb⟩ := hpt
      have HL := Lib.hid hL
      clear hL hres
      go_upto_region 6 with (fail)
      have HL1 := Lib.hid (HL.out.news ((Below.refl _ _).alloc (Nat.le_refl _) (.cells #[.int .i64 p.k, .int .i64 p.d, .int .i64 p.n, .int .u8 (p.b : Int)] 32 (0, 0))))
      have hP := heap_alloc_new wr (.cells #[.int .i64 p.k, .int .i64 p.d, .int .i64 p.n, .int .u8 (p.b : Int)] 32 (0, 0))
      generalize wr.heap.size = P at *
      generalize wr.alloc (.cells #[.int .i64 p.k, .int .i64 p.d, .int .i64 p.n, .int .u8 (p.b : Int)] 32 (0, 0)) = W1 at *
      clear HL p0 p1 p2 p3
      have HP := Lib.hid hP
      obtain ⟨⟨x0, x1, x2, x3⟩, _, hPl⟩ := four hP
      obtain ⟨⟨r0, r1, r2, r3⟩, _, hRl⟩ := four HL1.out.reps
      have HFT : Hid (∃ d n s, (∀ W' : World, Calls Try.prog 22 #[.agg #[.int .i64 p.k, .int .i64 p.d, .int .i64 p.n, .int .u8 (p.b : Int)], .int .i64 (l.length : Int), .agg #[.int .i64 r.a, .int .i64 r.b, .int .i64 r.c, .int .i64 r.d]] W' fun x w' => x = .returned (.tuple #[.int .i64 d, .int .i64 n, .agg #[.int .i64 s.a, .int .i64 s.b, .int .i64 s.c, .int .i64 s.d], .bool (p.fit (l.length : Int) r).isSome]) ∧ Below W'.heap.size W' w') ∧ ∀ x, p.fit (l.length : Int) r = some x → x = (d, n, s)) := by
        obtain ⟨d, n, s, hf, hd⟩ := fit_form p (l.length : Int) r
        refine Lib.hid ⟨d, n, s, fun W' => ?_, hd⟩
        rw [← hf]
        exact fits_any p (l.length : Int) r W'
      obtain ⟨d, n, s, hft, hd⟩ := HFT.out
      have HD := Lib.hid hd
      have HF := Lib.hid hft
      clear hft hd HFT hP
      have HLN : Hid (∀ W' : World, Below W1.heap.size W1 W' → Calls Try.prog 23 #[.pointer (some ⟨W.heap.size, 0, none⟩)] W' fun e w' => e = .returned (.int .i64 (l.length : Int)) ∧ W' = w') := Lib.hid fun W' hb => Wnd.len_any (HL1.out.news hb).win
      have HS : Hid (∀ W' : World, Below W1.heap.size W1 W' → Below W1.heap.size W1 W' ∧ (W'.cell? ⟨P, 0, none⟩ = some (.int .i64 p.k) ∧ W'.cell? ⟨P, 1, none⟩ = some (.int .i64 p.d) ∧ W'.cell? ⟨P, 2, none⟩ = some (.int .i64 p.n) ∧ W'.cell? ⟨P, 3, none⟩ = some (.int .u8 (p.b : Int))) ∧ (W'.cell? ⟨R, 0, none⟩ = some (.int .i64 r.a) ∧ W'.cell? ⟨R, 1, none⟩ = some (.int .i64 r.b) ∧ W'.cell? ⟨R, 2, none⟩ = some (.int .i64 r.c) ∧ W'.cell? ⟨R, 3, none⟩ = some (.int .i64 r.d))) :=
        Lib.hid fun W' hb => ⟨hb, (four ((hb.block P hPl).trans HP.out)).1, (four ((hb.block R hRl).trans HL1.out.reps)).1⟩
      go_cut [10, 11, 12, 13] (fun d' n' p' ok' wc => ∃ X, d' = .int .i64 d ∧ n' = .int .i64 n ∧ p' = .pointer (some ⟨X, 0, none⟩) ∧ ok' = .bool (p.fit (l.length : Int) r).isSome ∧ Fitted W1 wc X s)
      case first =>
        as_aux_lemma =>
        -- BEGIN first
        go_region_held3 (fun W' => Below W1.heap.size W1 W' ∧ (W'.cell? ⟨P, 0, none⟩ = some (.int .i64 p.k) ∧ W'.cell? ⟨P, 1, none⟩ = some (.int .i64 p.d) ∧ W'.cell? ⟨P, 2, none⟩ = some (.int .i64 p.n) ∧ W'.cell? ⟨P, 3, none⟩ = some (.int .u8 (p.b : Int))) ∧ (W'.cell? ⟨R, 0, none⟩ = some (.int .i64 r.a) ∧ W'.cell? ⟨R, 1, none⟩ = some (.int .i64 r.b) ∧ W'.cell? ⟨R, 2, none⟩ = some (.int .i64 r.c) ∧ W'.cell? ⟨R, 3, none⟩ = some (.int .i64 r.d))) ((refine HS.out _ ?_; repeat (first | assumption | exact Below.refl _ _ | refine bel_drew ?_ | refine bel_alloc _ ?_ | (refine bel_set _ (by simp; omega) ?_) | (refine bel_set _ (by simp) ?_) | (refine bel_new (by assumption) ?_)))) (first | (go_at_call 23; (with_reducible refine (HLN.out _ (And.left (by assumption))).mono ?_); rintro x wl ⟨rfl, rfl⟩) | (go_at_call 22; (with_reducible refine (HF.out _).mono ?_); rintro x wf ⟨rfl, hbf⟩; have hzf := hbf.size; (try simp at hzf); (try have _t0 : W1.heap.size < wf.heap.size := by omega); (try (have _hk := alloc_kept2 hbf; obtain ⟨⟨_, _, _, _⟩, ⟨_, _, _, _⟩, _⟩ := four _hk))))
        all_goals
          go_wp2_with fail
          go_meet
          refine ⟨_, rfl, rfl, rfl, rfl, ?_⟩
          first
          | (with_reducible refine fitted_new ?_ s)
          | (with_reducible refine fitted_set (z0 := .int .i64 0) (z1 := .int .i64 0) (z2 := .int .i64 0) (z3 := .int .i64 0) ?_ ?_ ?_ s)
          all_goals (repeat (first | assumption | exact Nat.le_refl _ | exact Below.refl _ _ | refine bel_drew ?_ | refine bel_alloc _ ?_ | (refine bel_new (by assumption) ?_)))
        -- END first
      case rest =>
        obtain ⟨X, rfl, rfl, rfl, rfl, hfit⟩ := hcut
        have HX := Lib.hid hfit.2.2
        have hXW := Lib.hid hfit.2.1
        have HLc := Lib.hid (HL1.out.news hfit.1)
        have HPc := Lib.hid ((hfit.1.block P hPl).trans HP.out)
        have HNO : Hid (¬ Owns W.heap.size v X) := Lib.hid (by
          rintro (e | e)
          · have := HL1.out.win.lt; have := hXW.out; omega
          · have := ownsRow_lt HL1.out.win.2.1 X e; have := hXW.out; omega)
        clear hfit HP HL1 HF HLN HS x0 x1 x2 x3 r0 r1 r2 r3
        cases hq : p.fit (l.length : Int) r with
        | none =>
          as_aux_lemma =>
          have HRES := Lib.hid ((applyL_none (ps := ps.drop (k + 1)) hq).symm.trans HA.out)
          have HB := Lib.hid HLc.out.below
          clear HA HLc HD
          simp only [Option.isSome_none]
          go_wp2
          go_ret2
          exact ⟨by rw [← HRES.out]; rfl, HB.out⟩
        | some z =>
          as_aux_lemma =>
          obtain rfl := HD.out z hq
          simp only [Option.isSome_some]
          obtain ⟨hsp, hfs⟩ := fit_some hq HLc.out.pos
          have HSP := Lib.hid hsp
          have HLEN := HLc.out.len
          obtain ⟨y0, y1, y2, y3⟩ := (four HPc.out).1
          have HWR := Lib.hid (write_any HLc.out.win HLEN hmm.out (by omega) hpb hfs)
          have HTL : Hid (∀ l', p.tell m.toNat l d n = some l' → l'.length ≤ m.toNat ∧ l'.length ≤ l.length + 273) := Lib.hid fun l' hl' => tell_len hl' (by omega)
          have HXl := lt_of_heap HX.out
          clear hsp hfs HLEN HD hpb
          go_wp2_with fail
          refine HWR.out.mono ?_
          rintro x w5 ⟨rfl, hg⟩
          cases ht : p.tell m.toNat l d n with
          | none =>
            rw [ht] at hg
            obtain ⟨v', hL'⟩ := HLc.out.grew hg HLc.out.len
            have HRES := Lib.hid ((applyL_long (ps := ps.drop (k + 1)) hq ht).symm.trans HA.out)
            have HB := Lib.hid hL'.below
            clear hg hL' HA HLc HWR HTL HX HPc
            simp only [Option.isSome_none]
            go_wp2
            go_ret2
            exact ⟨by rw [← HRES.out]; rfl, HB.out⟩
          | some l' =>
            rw [ht, Option.getD_some] at hg
            obtain ⟨t1, t2⟩ := HTL.out l' ht
            obtain ⟨v', hL'⟩ := HLc.out.grew hg t1
            have HRES := Lib.hid ((applyL_more (ps := ps.drop (k + 1)) hq ht).symm.trans HA.out)
            have hX5 : w5.heap[X]? = some (.cells #[.int .i64 s.a, .int .i64 s.b, .int .i64 s.c, .int .i64 s.d] 55 (0, 0)) := by
              obtain ⟨_, _, hF, _⟩ := hg
              exact (hF.block X HXl HNO.out).trans HX.out
            have HL5 := Lib.hid (hL'.store HSP.out)
            obtain ⟨⟨s0, s1, s2, s3⟩, _, hXl5⟩ := four hX5
            obtain ⟨⟨r0, r1, r2, r3⟩, ⟨f0, f1, f2, f3⟩, hRl5⟩ := four hL'.reps
            clear hg hL' HA HLc HWR HTL HX HPc hX5
            simp only [Option.isSome_some]
            go_wp2
            refine ⟨⟨k + 1, by omega, rfl, _, _, _, HL5.out, by omega, HRES.out⟩, ?_⟩
            simp only [intOf]
            omega
    · as_aux_lemma =>
      obtain rfl : k = ps.length := by omega
      rw [List.drop_length] at hres
      have hres' : (l, 0) = applyL m.toNat ps [] ⟨1, 1, 1, 1⟩ := hres
      have HRES := Lib.hid hres'
      have HT := Lib.hid (Wnd.text_any hL.win)
      have HB := Lib.hid hL.below
      clear hL hres hres'
      go_wp2_with fail
      refine HT.out.mono ?_
      rintro x w5 ⟨rfl, rfl⟩
      go_wp2
      go_ret2
      exact ⟨by rw [← HRES.out]; rfl, HB.out⟩
theorem apply_nil (a : Option Addr) (cap : Nat) (m : Int) (W : World) :
    Calls Try.prog 8 #[.slice a 0 cap, .int .i64 m] W fun x w' => x = .returned (.tuple #[.string ⟨#[]⟩, .int .i64 0]) ∧ Below W.heap.size W w' := by
  go_enter Try.func8, Try.ntmps8
  go_wp2_with fail
  refine (Wnd.new_any m W).mono ?_
  rintro x w1 ⟨rfl, hw1⟩
  have HW1 := Lib.hid (show Win w1 W.heap.size (.slice none 0 0) m.toNat [] from by rw [hw1]; exact Wnd.win_new W m.toNat)
  have HB1 := Lib.hid (show Below W.heap.size W w1 from by rw [hw1]; exact (Below.refl _ _).alloc (Nat.le_refl _) _)
  clear hw1
  go_wp2_with fail
  refine (show Calls Try.prog 21 #[] w1 fun x w' => x = .returned (.agg #[.int .i64 1, .int .i64 1, .int .i64 1, .int .i64 1]) ∧ Below w1.heap.size w1 w' from first_any w1).mono ?_
  rintro x w2 ⟨rfl, hb2⟩
  have HB2 := Lib.hid (bel_alloc (.cells #[.int .i64 1, .int .i64 1, .int .i64 1, .int .i64 1] 55 (0, 0)) (bel_new hb2 HB1.out))
  have HW2 := Lib.hid (win_alloc (HW1.out.frame (own := fun _ => False) (Frame.of_below_size hb2) (fun _ _ => id)) (.cells #[.int .i64 1, .int .i64 1, .int .i64 1, .int .i64 1] 55 (0, 0)))
  clear hb2 HB1 HW1
  go_wp2_with fail
  generalize w2.alloc (.cells #[.int .i64 1, .int .i64 1, .int .i64 1, .int .i64 1] 55 (0, 0)) = W3 at *
  go_loop [19] (fun i => i = .int .i64 0) (fun i => 1)
  case atStart => rfl
  case round =>
    subst hrel
    go_wp2_with fail
    refine (Wnd.text_any HW2.out).mono ?_
    rintro x w5 ⟨rfl, rfl⟩
    go_wp2
    go_ret2
    exact ⟨rfl, HB2.out⟩
/-- A list of packets in memory. -/
def IsPts (w : World) (a : Option Addr) (ps : List Pt) : Prop :=
  ps = [] ∨ ∃ b off, a = some ⟨b, off, none⟩ ∧ ∀ i (h : i < ps.length), IsPt w b (off + i * 4) ps[i]
theorem IsPts.below {w w' : World} {a : Option Addr} {ps : List Pt} (h : IsPts w a ps) (hb : Below w.heap.size w w') : IsPts w' a ps := by
  rcases h with h | ⟨b, off, e, h⟩
  · exact .inl h
  · exact .inr ⟨b, off, e, fun i hi => (h i hi).below hb⟩
theorem apply_any {W : World} {a : Option Addr} {ps : List Pt} (h : IsPts W a ps) (hl : ps.length ≤ 1000) (cap : Nat) (m : Int) (hm : m ≤ 9223372036854775807) :
    Calls Try.prog 8 #[.slice a ps.length cap, .int .i64 m] W fun x w' => x = .returned (.tuple #[.string ⟨(applyL m.toNat ps [] ⟨1, 1, 1, 1⟩).1.toArray⟩, .int .i64 ((applyL m.toNat ps [] ⟨1, 1, 1, 1⟩).2 : Int)]) ∧ Below W.heap.size W w' := by
  by_cases hn : 0 < ps.length
  · rcases h with h | ⟨b, off, rfl, h⟩
    · rw [h] at hn; simp at hn
    · exact apply_more h hn hl cap m hm
  · obtain rfl : ps = [] := by cases ps <;> simp_all
    exact apply_nil a cap m W
end Go.Proofs.Yteacmcckhjabmaa.Pk
end
section
namespace Go.Proofs.Yteacmcckhjabmaa.Pl
open Go.RowKit
open Pk (Pt IsPt IsPts)
/-- The cells of packets. -/
def flatP (l : List Pt) : List Value := l.flatMap fun p => [.int .i64 p.k, .int .i64 p.d, .int .i64 p.n, .int .u8 (p.b : Int)]
theorem flatP_length : ∀ l, (flatP l).length = l.length * 4
  | [] => rfl
  | x :: l => by have := flatP_length l; simp only [flatP, List.flatMap_cons, List.length_append, List.length_cons, List.length_nil] at this ⊢; omega
theorem flatP_append (l k : List Pt) : flatP (l ++ k) = flatP l ++ flatP k := by simp [flatP]
theorem flatP_at : ∀ (l : List Pt) (i : Nat) (h : i < l.length), (flatP l)[i * 4]? = some (.int .i64 l[i].k) ∧ (flatP l)[i * 4 + 1]? = some (.int .i64 l[i].d) ∧ (flatP l)[i * 4 + 2]? = some (.int .i64 l[i].n) ∧ (flatP l)[i * 4 + 3]? = some (.int .u8 (l[i].b : Int))
  | [], i, h => by simp at h
  | x :: l, 0, _ => ⟨rfl, rfl, rfl, rfl⟩
  | x :: l, i + 1, h => by
    have := flatP_at l i (by simpa using h)
    rw [show (i + 1) * 4 = i * 4 + 1 + 1 + 1 + 1 from by omega]
    exact this
/-- A slice of a type t that owns just these packets. -/
def PtsT (t : TypeId) (w : World) (v : Value) (l : List Pt) : Prop := w.ownsRow 0 t 4 v l.length (flatP l)
theorem PtsT.slice {t : TypeId} {w : World} {v : Value} {l : List Pt} (h : PtsT t w v l) (hb : ∀ p ∈ l, p.b < 256) : ∃ a cap, v = .slice a l.length cap ∧ IsPts w a l := by
  rcases h.2 with ⟨h1, h2⟩ | ⟨g, cap, cur, rfl, _, hg, hnc, hcm, hcs, htake⟩
  · exact ⟨none, 0, by rw [h1, h2], .inl (List.eq_nil_of_length_eq_zero h2)⟩
  · refine ⟨_, cap, rfl, .inr ⟨g, 0, rfl, fun i hi => ?_⟩⟩
    obtain ⟨k0, k1, k2, k3⟩ := flatP_at l i hi
    have key : ∀ j x, (flatP l)[j]? = some x → w.cell? ⟨g, j, none⟩ = some x := fun j x hx => by
      have hj : j < (flatP l).length := (List.getElem?_eq_some_iff.1 hx).1
      rw [flatP_length] at hj
      rw [World.ownsRow.cellAt h j hj]
      exact hx
    rw [Nat.zero_add]
    exact ⟨key _ _ k0, key _ _ k1, key _ _ k2, key _ _ k3, hb _ (List.getElem_mem hi)⟩
theorem pt_news {w : World} {X : Nat} {a b c d : Value} {t : TypeId} (h : w.heap[X]? = some (.cells #[a, b, c, d] t (0, 0))) : ∀ j u, [a, b, c, d][j]? = some u → w.cell? ((⟨X, 0, none⟩ : Addr).add j) = some u := World.news_of_block h
theorem pt_one (a b c : Int) (d : Nat) : ∀ u ∈ [Value.int .i64 a, .int .i64 b, .int .i64 c, .int .u8 (d : Int)], u.oneCell' = true := by
  intro u hu
  simp at hu
  rcases hu with rfl | rfl | rfl | rfl <;> rfl
theorem infoPk : (Try.prog.info? 32).map (fun i => (i.zero, i.size, i.bytes)) = some (some (.agg #[.int .i64 0, .int .i64 0, .int .i64 0, .int .u8 0]), 4, 32) := by kernel_rfl
/-- A list that came in, of which so many packets are taken. -/
theorem pts_of {w : World} {b off len : Nat} (key : ∀ i, i < len → ∃ p, IsPt w b (off + i * 4) p) (n : Nat) (hn : n ≤ len) : ∃ ps : List Pt, ps.length = n ∧ IsPts w (some ⟨b, off, none⟩) ps := by
  refine ⟨List.ofFn (fun i : Fin n => Classical.choose (key i.1 (by omega))), by simp, .inr ⟨b, off, rfl, fun i hi => ?_⟩⟩
  rw [List.getElem_ofFn]
  exact Classical.choose_spec (key i (by simp at hi; omega))
end Go.Proofs.Yteacmcckhjabmaa.Pl
end
