/-
  Package context: contracts of New, Left, Restarts and Table (where there is none) of what contexts are; the first lines of the statements of layer 18.
-/
import Derived.Test.YtjeppcaniafgpaaCtxLearn
set_option linter.unusedVariables false
set_option linter.unusedSimpArgs false
namespace Go.Proofs.Ytjeppcaniafgpaa.Cx
open Go.RowKit
open Rc Ar Fq
def Rw.new (o n : Int) : Rw := ⟨(clip o 0 16).toNat, (clip n 64 1048576).toNat, 0, 0, fun _ => none, fun _ _ => none, [], []⟩
theorem Rw.new_ok (o n : Int) : (Rw.new o n).Ok := by
  obtain ⟨a1, a2⟩ := clip_in (n := o) (a := 0) (b := 16) (by omega)
  obtain ⟨b1, b2⟩ := clip_in (n := n) (a := 64) (b := 1048576) (by omega)
  exact ⟨by show (clip o 0 16).toNat ≤ 16; omega, ⟨by show 64 ≤ (clip n 64 1048576).toNat; omega, by show (clip n 64 1048576).toNat ≤ 1048576; omega⟩, Nat.zero_le _, ⟨Nat.zero_le _, fun x hx => by cases hx⟩, Nat.zero_le _, (fun i hi => by cases hi), (fun i l hi => by cases hi), (fun x y i hi => by cases hi)⟩
section
variable {cs : List Nat} {w w' : World} {O O' : Paint} {b d : Nat} {m : CM} {r : Rw}
theorem held_nil (w : World) (O : Paint) (c : Nat) (e : TypeId) : Held w O c e (.slice none 0 0) [] := ⟨World.ownsRow_nil _ _ _ _, fun k hk => by simp [Value.ownBlock] at hk⟩
theorem new_rw (o n : Int) (w : World) (O : Paint) (b : Nat) :
    Calls Try.prog 16 #[.int .i64 o, .int .i64 n] w fun x w' => ∃ O' d m, x = .returned (.pointer (some ⟨d, 0, none⟩)) ∧ Step [] w O w' O' ∧ RwAt w' O' b d m (Rw.new o n) := by
  refine (ctx_new o n w O b (b + 1) (b + 2) (b + 3) (b + 4) (b + 7) (by omega) (fun _ => 0) (fun _ => #[])).mono ?_
  rintro x w' ⟨O', d, a, mb, rfl, hs, hb, hA, hm1, hm2⟩
  obtain ⟨a1, a2⟩ := clip_in (n := o) (a := 0) (b := 16) (by omega)
  refine ⟨O', d, ⟨a, mb, zNew (clip n 64 1048576).toNat, fun _ => 0, fun _ => #[], .slice none 0 0, .slice none 0 0, .slice none 0 0, .slice none 0 0, fun _ => 0, fun _ => .slice none 0 0⟩, rfl, hs, ?_⟩
  have e1 : (((Rw.new o n).order : Nat) : Int) = clip o 0 16 := by show (((clip o 0 16).toNat : Nat) : Int) = _; omega
  exact ⟨by rw [e1]; exact hb, hA, rfl, rfl, rfl, held_nil _ _ _ _, held_nil _ _ _ _, step_made hm1 hm2, Tabs.zero _ _ _ _ _, (fun i hi => by cases hi), Rw.new_ok o n⟩
theorem left_rw (h : RwAt w O b d m r) : Calls Try.prog 20 #[.pointer (some ⟨d, 0, none⟩)] w fun x w' => x = .returned (.int .i64 ((r.cells : Int) - (r.used : Int))) ∧ ∃ n, w' = w.drewN n := by
  have := left_any h.obj h.ar
  have e : m.z.left = (r.cells : Int) - (r.used : Int) := by
    unfold Aren.left
    rw [h.free, h.cells, h.used]
    simp
  rw [e] at this
  exact this
theorem restarts_rw (h : RwAt w O b d m r) : Calls Try.prog 22 #[.pointer (some ⟨d, 0, none⟩)] w fun x w' => x = .returned (.int .i64 (r.rs : Int)) ∧ w = w' := restarts_any h.obj
theorem table_no (h : RwAt w O b d m r) (k : Int) (hk : k < 0 ∨ (r.pth.length : Int) - 1 < k) : Calls Try.prog 23 #[.pointer (some ⟨d, 0, none⟩), .int .i64 k] w fun x w' => x = .returned (.pointer none) ∧ w = w' := by
  obtain ⟨A4, p4, q4, _, _⟩ := sl_form h.pth
  rw [iv_len] at q4
  have hb := h.obj
  rw [q4] at hb
  exact table_out hb (by have := h.ok.short.1; omega) k hk
theorem has_rw (h : RwAt w O b d m r) {i s : Nat} {l : Tl} (hl : r.K i = some l) (hs : s < 256) (w1 : World) (h1 : Step [] w O w1 O) : Calls Try.prog 28 #[.pointer (some ⟨m.tb i, 0, none⟩), .int .u8 (s : Int)] w1 fun x w' => x = .returned (.bool (hasB l s)) ∧ Step [] w O w' O :=
  (has_any ((h.tabs.tab i l hl).step h1 (by simp)) (fun x hx => by have := (h.ok.tab i l hl).2.2.1 x hx; omega) s hs).mono fun x w' ⟨e, hb⟩ => ⟨e, h1.trans (Step.of_below_same hb O)⟩
theorem learn_rs (r : Rw) (s : Nat) (k : Int) : (r.learn s k).rs ≤ r.rs + 1 := by
  have h1 : ∀ (q : Rw) a, (q.learn1 s a).rs = q.rs := by
    intro q a
    show ((((q.growN (q.hist.length + 1 - q.pth.length)).addN s a _).write s).refind).rs = q.rs
    exact ((Rw.addN_parts _ s a _).2.2.2.2.2).trans (Rw.growN_parts q _).2.2.2.2.2
  unfold Rw.learn
  split
  · rw [h1]; exact Nat.le_refl _
  · rw [h1]; omega
theorem step_below {w w' : World} {O' : Paint} (h : Step (cols 10) w (fun _ => 0) w' O') : Below w.heap.size w w' := h.below (Nat.le_refl _) (fun k _ hk => by simp [cols] at hk)
def r3 : Rw := (((Rw.new 2 64).learn 97 (-1)).learn 98 (-1)).learn 97 0
theorem r3_facts : r3.pth[1]? = some 3 ∧ r3.pth[0]? = some 1 ∧ r3.K 3 = some [(98, 1)] ∧ r3.K 1 = some [(97, 2), (98, 1)] ∧ r3.pth.length = 2 ∧ r3.cells = 64 ∧ r3.used = 9 := by
  refine ⟨?_, ?_, ?_, ?_, ?_, ?_, ?_⟩ <;> rfl
set_option maxRecDepth 100000 in
set_option maxHeartbeats 1000000 in
theorem speaks18 (w : World) : Calls Try.prog 15 #[] w fun x w' => x = .returned (.bool true) ∧ Below w.heap.size w w' := by
  have HN := Lib.hid (new_rw 2 64 w (fun _ => 0) 10)
  go_enter Try.func15, Try.ntmps15
  go_wp2_with fail
  refine HN.out.mono ?_
  rintro x w1 ⟨O1, d, m1, rfl, hs1, h1⟩
  have HS1 := Lib.hid (hs1.nil (cs := cols 10))
  have HLG := Lib.hid (show Calls Try.prog 18 #[.pointer (some ⟨d, 0, none⟩)] w1 fun x w' => x = .returned (.int .i64 (-1)) ∧ w1 = w' from longest_rw h1)
  have HLF := Lib.hid (show Calls Try.prog 20 #[.pointer (some ⟨d, 0, none⟩)] w1 fun x w' => x = .returned (.int .i64 64) ∧ ∃ n, w' = w1.drewN n from left_rw h1)
  have HLE := Lib.hid (fun n => learn_any (h1.idle ((Step.refl [] w1 O1).drewN n)) (s := 97) (by omega) (-1) (by show 0 ≤ 1000000000; omega))
  clear hs1 h1 HN
  go_wp2_with fail
  refine HLG.out.mono ?_
  rintro x w2 ⟨rfl, rfl⟩
  go_wp2_with fail
  refine HLF.out.mono ?_
  rintro x w2 ⟨rfl, n2, rfl⟩
  go_wp2_with fail
  refine (HLE.out n2).mono ?_
  rintro x w3 ⟨rfl, O3, m3, hs3, h3⟩
  have HS3 := Lib.hid (HS1.out.trans (((Step.refl (cols 10) w1 O1).drewN n2).trans hs3))
  have HLE3 := Lib.hid (learn_any h3 (s := 98) (by omega) (-1) (by have := learn_rs (Rw.new 2 64) 97 (-1); have e : (Rw.new 2 64).rs = 0 := rfl; omega))
  clear hs3 h3 HLG HLF HLE HS1
  go_wp2_with fail
  refine HLE3.out.mono ?_
  rintro x w4 ⟨rfl, O4, m4, hs4, h4⟩
  have HS4 := Lib.hid (HS3.out.trans hs4)
  have HLE4 := Lib.hid (learn_any h4 (s := 97) (by omega) 0 (by have := learn_rs (Rw.new 2 64) 97 (-1); have := learn_rs ((Rw.new 2 64).learn 97 (-1)) 98 (-1); have e : (Rw.new 2 64).rs = 0 := rfl; omega))
  clear hs4 h4 HLE3 HS3
  go_wp2_with fail
  refine HLE4.out.mono ?_
  rintro x w5 ⟨rfl, O5, m5, hs5, h5⟩
  rw [show (((Rw.new 2 64).learn 97 (-1)).learn 98 (-1)).learn 97 0 = r3 from rfl] at h5
  have HS5 := Lib.hid (HS4.out.trans hs5)
  obtain ⟨a1, a2, a3, a4, a5, a6, a7⟩ := r3_facts
  have HT1 := Lib.hid (table_rw h5 a1 a3)
  have HI := Lib.hid (fun n => h5.idle ((Step.refl [] w5 O5).drewN n))
  have HH := Lib.hid h5
  clear hs5 h5 HLE4 HS4
  go_wp2_with fail
  refine HT1.out.mono ?_
  rintro x w6 ⟨rfl, n6, rfl⟩
  have h6 := HI.out n6
  have HLG6 := Lib.hid (longest_rw h6)
  rw [a5] at HLG6
  have e6 : (((2 : Nat) : Int) - 1) = 1 := rfl
  rw [e6] at HLG6
  have HHB := Lib.hid (has_rw h6 a3 (s := 98) (by omega) _ (Step.refl [] _ _))
  have HHA := Lib.hid (fun W (h0 : Step [] (w5.drewN n6) O5 W O5) => has_rw h6 a3 (s := 97) (by omega) W h0)
  have HT0 := Lib.hid (fun W (h0 : Step [] (w5.drewN n6) O5 W O5) => table_rw (h6.idle h0) a2 a4)
  have HLF6 := Lib.hid (fun W (h0 : Step [] (w5.drewN n6) O5 W O5) => left_rw (h6.idle h0))
  rw [a6, a7] at HLF6
  rw [show (((64 : Nat) : Int) - ((9 : Nat) : Int)) = 55 from rfl] at HLF6
  rw [show hasB [(98, 1)] 98 = true from rfl] at HHB
  rw [show hasB [(98, 1)] 97 = false from rfl] at HHA
  have HS6 := Lib.hid (HS5.out.drewN n6)
  clear h6 a1 a2 a3 a4 a5 a6 a7 e6
  generalize w5.drewN n6 = W at *
  go_wp2_with fail
  refine HLG6.out.mono ?_
  rintro x w7 ⟨rfl, rfl⟩
  go_wp2_with fail
  refine HHB.out.mono ?_
  rintro x w8 ⟨rfl, hs8⟩
  have H8 := Lib.hid hs8
  clear hs8
  go_wp2_with fail
  refine (HHA.out _ H8.out).mono ?_
  rintro x w9 ⟨rfl, hs9⟩
  have H9 := Lib.hid hs9
  clear hs9
  go_wp2_with fail
  refine (HT0.out _ H9.out).mono ?_
  rintro x w10 ⟨rfl, n10, rfl⟩
  go_wp2_with fail
  refine (HLF6.out _ (H9.out.drewN n10)).mono ?_
  rintro x w11 ⟨rfl, n11, rfl⟩
  go_wp2_with fail
  go_ret
  exact ⟨rfl, step_below (HS6.out.trans (H9.out.drewN (n10 + n11)).nil)⟩
end
end Go.Proofs.Ytjeppcaniafgpaa.Cx
