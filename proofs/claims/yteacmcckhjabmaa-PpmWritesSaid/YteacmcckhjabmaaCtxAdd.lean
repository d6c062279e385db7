/-
  Package context: the contract of add.
-/
import Derived.Test.YteacmcckhjabmaaCtxMake
set_option linter.unusedVariables false
set_option linter.unusedSimpArgs false
namespace Go.Proofs.Yteacmcckhjabmaa.Cx
open Go.RowKit
open Rc Ar Fq
namespace Rw
variable {r : Rw}
def t1 (r : Rw) : Rw := ⟨r.order, r.cells, r.used + 1, r.rs, r.K, r.f, r.hist, r.pth⟩
def t2 (r : Rw) (i : Nat) (l : Tl) : Rw := ⟨r.order, r.cells, r.used, r.rs, putK r.K i l, r.f, r.hist, r.pth⟩
theorem Ok.t1 (h : r.Ok) (hu : r.used < r.cells) : r.t1.Ok :=
  ⟨h.order, h.cells, hu, h.hist, h.len, h.pth, fun i l hi => by have := h.tab i l hi; exact ⟨this.1, by show i ≤ r.used + 1; omega, this.2.2⟩, h.f⟩
theorem Ok.t2 (h : r.Ok) {i : Nat} {l l' : Tl} (hi : r.K i = some l) (hl : TOk l') : (r.t2 i l').Ok := by
  refine ⟨h.order, h.cells, h.used, h.hist, h.len, fun j hj => putK_some j (h.pth j hj), fun j q hj => ?_, fun x y j hj => putK_some j (h.f x y j hj)⟩
  have hj2 : (if j = i then some l' else r.K j) = some q := hj
  split at hj2
  · rename_i e
    cases hj2
    subst e
    have := h.tab j l hi
    exact ⟨this.1, this.2.1, hl⟩
  · exact h.tab j q hj2
theorem addAt_has {s k i : Nat} {l : Tl} (h1 : r.pth[k]? = some i) (h2 : r.K i = some l) (hb : hasB l s = true) : r.addAt s k = r.t2 i (addT l s) := by
  rw [addAt_at h1 h2, hb]
  rfl
theorem addAt_new {s k i : Nat} {l : Tl} (h1 : r.pth[k]? = some i) (h2 : r.K i = some l) (hb : hasB l s = false) : r.addAt s k = r.t1.t2 i (addT l s) := by
  rw [addAt_at h1 h2, hb]
  rfl
end Rw
section
variable {cs : List Nat} {w w' : World} {O O' : Paint} {b d : Nat} {m : CM} {r : Rw}
theorem RwAt.took0 {w7 : World} {O7 : Paint} {B' : Nat → Nat} {A' : Nat → Array Value} {vp' vf' : Value} (h : RwAt w O b d m r) (hu : r.used < r.cells) (hs : Step [b + 1, b + 2, b + 4] w O w7 O7) (hA : ArAt w7 O7 b m.a (m.z.take (.pointer none)) B' A' vp' vf') :
    Step (cols b) w O w7 O7 ∧ RwAt w7 O7 b d ⟨m.a, m.mb, m.z.take (.pointer none), B', A', vp', vf', m.vh, m.vq, m.tb, m.tv⟩ r.t1 := by
  obtain ⟨t1, t2, t3, t4, t5⟩ := take_parts h.free (.pointer none)
  refine ⟨hs.mono (fun c hc => by simp [cols] at hc ⊢; omega), ?_⟩
  refine ⟨h.obj.step hs (by simp), hA, t1, by rw [t3]; exact h.cells, by rw [t2, h.used]; rfl, h.hist.step hs (by simp), h.pth.step hs (by simp), (h.map.step hs (by simp)).mono (Nat.le_succ _), h.tabs.step hs (by simp), fun i hi => ?_, h.ok.t1 hu⟩
  obtain ⟨l, hl⟩ := Option.isSome_iff_exists.1 (show (r.K i).isSome = true from hi)
  have := (h.ok.tab i l hl).2.1
  show (m.z.take _).C i = _
  rw [t5, h.used, if_neg (by omega)]
  exact h.cont i hi
theorem RwAt.added (h : RwAt w O b d m r) {i s : Nat} {l : Tl} (hi : r.K i = some l) (hs : s < 256) : Calls Try.prog 101 #[.pointer (some ⟨m.tb i, 0, none⟩), .int .u8 (s : Int)] w fun x w' => x = .returned (.tuple #[]) ∧ CxTo w O b d (r.t2 i (addT l s)) w' := by
  obtain ⟨O1, c1, ht, hO⟩ := h.tabs.own hi
  have hok := (h.ok.tab i l hi).2.2
  refine (add_any ht hok.1 (by have := tok_len hok; omega) s hs).mono ?_
  rintro x w' ⟨rfl, O2, v', hs2, ht2⟩
  obtain ⟨k1, k2⟩ := h.tabs.back hi hO hs2 ht2
  refine ⟨rfl, _, { m with tv := putV m.tv i v' }, k1.mono (fun c hc => by simp [cols] at hc ⊢; omega), ?_⟩
  exact ⟨h.obj.step k1 (by simp), h.ar.step k1 (by simp) (by simp) (by simp) (by simp), h.free, h.cells, h.used, h.hist.step k1 (by simp), h.pth.step k1 (by simp), h.map.step k1 (by simp), k2, (fun j hj => by
    have hj2 : ((if j = i then some (addT l s) else r.K j) : Option Tl).isSome = true := hj
    by_cases e : j = i
    · subst e; exact h.cont j (by rw [hi]; rfl)
    · rw [if_neg e] at hj2; exact h.cont j hj2), h.ok.t2 hi (tok_add hok hs)⟩
theorem CxTo.from {w1 w2 : World} {O1 : Paint} {m1 : CM} {r1 r2 : Rw} (hs : Step (cols b) w O w1 O1) (h : CxTo w1 O1 b d r2 w2) : CxTo w O b d r2 w2 := by
  obtain ⟨O2, m2, h1, h2⟩ := h
  exact ⟨O2, m2, hs.trans h1, h2⟩
set_option maxRecDepth 100000 in
set_option maxHeartbeats 1000000 in
theorem addk_any (h : RwAt w O b d m r) {k i s : Nat} {l : Tl} (hk : r.pth[k]? = some i) (hl : r.K i = some l) (hs : s < 256) (hu : r.used + (if hasB l s then 0 else 1) ≤ r.cells) :
    Calls Try.prog 71 #[.pointer (some ⟨d, 0, none⟩), .int .u8 (s : Int), .int .i64 (k : Int)] w fun x w' => x = .returned (.tuple #[]) ∧ CxTo w O b d (r.addAt s k) w' := by
  have HT := Lib.hid (table_rw h hk hl)
  have H := Lib.hid h
  have HH := Lib.hid (fun n => has_any ((h.tabs.tab i l hl).step ((Step.refl [] w O).drewN n) (by simp)) (fun x hx => by have := (h.ok.tab i l hl).2.2.1 x hx; omega) s hs)
  have HB := Lib.hid (fun n (W : World) (hb : Below (w.drewN n).heap.size (w.drewN n) W) => show Step [] w O W O from ((Step.refl [] w O).drewN n).trans (Step.of_below_same hb O))
  cases hb : hasB l s with
  | true =>
    rw [hb] at HH
    have HR := Lib.hid (Rw.addAt_has hk hl hb)
    have HA := Lib.hid (fun W (h0 : Step [] w O W O) => (h.idle h0).added hl hs)
    clear h hk hl hu hb
    go_enter Try.func71, Try.ntmps71
    go_wp2_with fail
    refine HT.out.mono ?_
    rintro x w1 ⟨rfl, n, rfl⟩
    go_wp2_with fail
    refine (HH.out n).mono ?_
    rintro x w2 ⟨rfl, hb2⟩
    have HB2 := Lib.hid (HB.out n w2 hb2)
    clear hb2
    go_wp2_with fail
    refine (HA.out w2 HB2.out).mono ?_
    rintro x w3 ⟨rfl, hc3⟩
    have HF := Lib.hid (show CxTo w O b d (r.addAt s k) w3 from by rw [HR.out]; exact CxTo.from (m1 := m) (r1 := r) HB2.out.nil hc3)
    clear hc3
    go_wp2_with fail
    first | go_end0 | (simp only [Exit.inBlock, Exit.then]; refine bodyPost_ret (results_none rfl _ _ _) rfl ?_) | refine bodyPost_ret (results_none rfl _ _ _) rfl ?_
    exact ⟨rfl, HF.out⟩
  | false =>
    rw [hb] at HH
    have hus : r.used < r.cells := by rw [hb] at hu; simp at hu; omega
    have HR := Lib.hid (Rw.addAt_new hk hl hb)
    have hu1 : m.z.used ≤ 1000000000 := by rw [h.used]; have := h.ok.used; have := h.ok.cells.2; omega
    have hle1 : m.z.left ≠ 0 := by
      unfold Aren.left
      rw [h.free, h.cells, h.used]
      simp
      omega
    have HTK := Lib.hid (fun W (h0 : Step [] w O W O) => At.take_any (h.ar.idle h0) hle1 hu1 none)
    have HA := Lib.hid (fun (W1 : World) (m1 : CM) (O1 : Paint) (h1 : RwAt W1 O1 b d m1 r.t1) => h1.added (i := i) (l := l) (s := s) hl hs)
    have HC := Lib.hid (fun W (h0 : Step [] w O W O) => (six_at (h.obj.step h0 (by simp)).1).2.1)
    have htb := Lib.hid (rfl : m.tb i = m.tb i)
    clear h hk hl hu hb hle1 hu1
    go_enter Try.func71, Try.ntmps71
    go_wp2_with fail
    refine HT.out.mono ?_
    rintro x w1 ⟨rfl, n, rfl⟩
    go_wp2_with fail
    refine (HH.out n).mono ?_
    rintro x w2 ⟨rfl, hb2⟩
    have hs2 := HB.out n w2 hb2
    have c1 := HC.out w2 hs2
    have HB2 := Lib.hid hs2
    clear hb2 hs2
    go_wp2_with fail
    refine (HTK.out w2 HB2.out).mono ?_
    rintro x w3 ⟨rfl, O3, B3, A3, vp3, vf3, hs3, hA3⟩
    obtain ⟨q1, q2⟩ := (H.out.idle HB2.out).took0 hus hs3 hA3
    have HQ1 := Lib.hid (HB2.out.nil.trans q1)
    have HQ2 := Lib.hid q2
    clear q1 q2 hs3 hA3 c1
    go_wp2_with fail
    refine (HA.out w3 _ O3 HQ2.out).mono ?_
    rintro x w4 ⟨rfl, hc4⟩
    have HF := Lib.hid (show CxTo w O b d (r.addAt s k) w4 from by rw [HR.out]; exact CxTo.from (m1 := m) (r1 := r) HQ1.out hc4)
    clear hc4
    go_wp2_with fail
    first | go_end0 | (simp only [Exit.inBlock, Exit.then]; refine bodyPost_ret (results_none rfl _ _ _) rfl ?_) | refine bodyPost_ret (results_none rfl _ _ _) rfl ?_
    exact ⟨rfl, HF.out⟩
end
end Go.Proofs.Yteacmcckhjabmaa.Cx
