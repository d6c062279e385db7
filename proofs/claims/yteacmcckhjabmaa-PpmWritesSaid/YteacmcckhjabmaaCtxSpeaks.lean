/-
  Package context: contracts of New, Left, Restarts and Table (where there is none) of what contexts are; the first lines of the statements of layer 18.
-/
import Derived.Test.YteacmcckhjabmaaCtxLearn
set_option linter.unusedVariables false
set_option linter.unusedSimpArgs false
namespace Go.Proofs.Yteacmcckhjabmaa.Cx
open Go.RowKit
open Rc Ar Fq
def Rw.new (o n : Int) : Rw := ⟨(clip o 0 16).toNat, (clip n 64 1048576).toNat, 0, 0, fun _ => none, fun _ _ => none, [], []⟩
theorem Rw.new_ok (o n : Int) : (Rw.new o n).Ok := by
  obtain ⟨a1, a2⟩ := clip_in (n := o) (a := 0) (b := 16) (by omega)
  obtain ⟨b1, b2⟩ := clip_in (n := n) (a := 64) (b := 1048576) (by omega)
  exact ⟨by show (clip o 0 16).toNat ≤ 16; omega, ⟨by show 64 ≤ (clip n 64 1048576).toNat; omega, by show (clip n 64 1048576).toNat ≤ 1048576; omega⟩, Nat.zero_le _, ⟨Nat.zero_le _, fun x hx => by cases hx⟩, Nat.zero_le _, (fun i hi => by cases hi), (fun i l hi => by cases hi), (fun x y i hi => by cases hi)⟩
section
variable {cs : List Nat} {w w' : World} {O O' : Paint} {b d : Nat} {m : CM} {r : Rw}
theorem held_nil (w : World) (O : Paint) (c : Nat) (e : TypeId) : Held w O c e (.slice none 0 0) [] := ⟨World.ownsRow_nil _ _ _ _, fun k hk => by simp [Value.ownBlock] at hk⟩
theorem new_rw (o n : Int) (w : World) (O : Paint) (b : Nat) :
    Calls Try.prog 31 #[.int .i64 o, .int .i64 n] w fun x w' => ∃ O' d m, x = .returned (.pointer (some ⟨d, 0, none⟩)) ∧ Step [] w O w' O' ∧ RwAt w' O' b d m (Rw.new o n) := by
  refine (ctx_new o n w O b (b + 1) (b + 2) (b + 3) (b + 4) (b + 7) (by omega) (fun _ => 0) (fun _ => #[])).mono ?_
  rintro x w' ⟨O', d, a, mb, rfl, hs, hb, hA, hm1, hm2⟩
  obtain ⟨a1, a2⟩ := clip_in (n := o) (a := 0) (b := 16) (by omega)
  refine ⟨O', d, ⟨a, mb, zNew (clip n 64 1048576).toNat, fun _ => 0, fun _ => #[], .slice none 0 0, .slice none 0 0, .slice none 0 0, .slice none 0 0, fun _ => 0, fun _ => .slice none 0 0⟩, rfl, hs, ?_⟩
  have e1 : (((Rw.new o n).order : Nat) : Int) = clip o 0 16 := by show (((clip o 0 16).toNat : Nat) : Int) = _; omega
  exact ⟨by rw [e1]; exact hb, hA, rfl, rfl, rfl, held_nil _ _ _ _, held_nil _ _ _ _, step_made hm1 hm2, Tabs.zero _ _ _ _ _, (fun i hi => by cases hi), Rw.new_ok o n⟩
theorem table_no (h : RwAt w O b d m r) (k : Int) (hk : k < 0 ∨ (r.pth.length : Int) - 1 < k) : Calls Try.prog 74 #[.pointer (some ⟨d, 0, none⟩), .int .i64 k] w fun x w' => x = .returned (.pointer none) ∧ w = w' := by
  obtain ⟨A4, p4, q4, _, _⟩ := sl_form h.pth
  rw [iv_len] at q4
  have hb := h.obj
  rw [q4] at hb
  exact table_out hb (by have := h.ok.short.1; omega) k hk
theorem has_rw (h : RwAt w O b d m r) {i s : Nat} {l : Tl} (hl : r.K i = some l) (hs : s < 256) (w1 : World) (h1 : Step [] w O w1 O) : Calls Try.prog 96 #[.pointer (some ⟨m.tb i, 0, none⟩), .int .u8 (s : Int)] w1 fun x w' => x = .returned (.bool (hasB l s)) ∧ Step [] w O w' O :=
  (has_any ((h.tabs.tab i l hl).step h1 (by simp)) (fun x hx => by have := (h.ok.tab i l hl).2.2.1 x hx; omega) s hs).mono fun x w' ⟨e, hb⟩ => ⟨e, h1.trans (Step.of_below_same hb O)⟩
theorem learn_rs (r : Rw) (s : Nat) (k : Int) : (r.learn s k).rs ≤ r.rs + 1 := by
  have h1 : ∀ (q : Rw) a, (q.learn1 s a).rs = q.rs := by
    intro q a
    show ((((q.growN (q.hist.length + 1 - q.pth.length)).addN s a _).write s).refind).rs = q.rs
    exact ((Rw.addN_parts _ s a _).2.2.2.2.2).trans (Rw.growN_parts q _).2.2.2.2.2
  unfold Rw.learn
  split
  · rw [h1]; exact Nat.le_refl _
  · rw [h1]; omega
theorem step_below {w w' : World} {O' : Paint} (h : Step (cols 10) w (fun _ => 0) w' O') : Below w.heap.size w w' := h.below (Nat.le_refl _) (fun k _ hk => by simp [cols] at hk)
def r3 : Rw := (((Rw.new 2 64).learn 97 (-1)).learn 98 (-1)).learn 97 0
theorem r3_facts : r3.pth[1]? = some 3 ∧ r3.pth[0]? = some 1 ∧ r3.K 3 = some [(98, 1)] ∧ r3.K 1 = some [(97, 2), (98, 1)] ∧ r3.pth.length = 2 ∧ r3.cells = 64 ∧ r3.used = 9 := by
  refine ⟨?_, ?_, ?_, ?_, ?_, ?_, ?_⟩ <;> rfl
end
end Go.Proofs.Yteacmcckhjabmaa.Cx
