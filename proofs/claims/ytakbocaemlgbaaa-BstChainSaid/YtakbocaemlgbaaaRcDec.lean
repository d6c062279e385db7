/-
  Contracts of the developers' decoder of layer 3: what a decoder is in memory ('DecRaw'), the next byte, the turns.
-/
import Derived.Test.YtakbocaemlgbaaaRcEncD
import Derived.Test.YtakbocaemlgbaaaRcDecMath
import Derived.Deep.RegionWith
import Derived.Deep.LoopGhost
namespace Go.Proofs.Ytakbocaemlgbaaa.Rc
open Go.RowKit
/-- Block a is a decoder with these numbers; it belongs to c; tot is what was asked for last. -/
def DecRaw (w : World) (O : Paint) (c a : Nat) (d : Dec) (tot : Nat) : Prop := ∃ (s : ByteArray) (r : Nat),
  Blk w O c a (.cells #[.string s, .int .i64 (r : Int), .int .u32 (d.code : Int), .int .u32 (d.size : Int), .int .u32 (tot : Int), .bool d.bad] 114 (0, 0)) ∧ d.rest = s.data.toList.drop r ∧ r ≤ s.size ∧ s.size ≤ 1000000000000
def DecAt (w : World) (O : Paint) (c a : Nat) (d : Dec) (tot : Nat) : Prop := DecRaw w O c a d tot ∧ FineD d
theorem DecRaw.step {cs : List Nat} {w w' : World} {O O' : Paint} {c a tot : Nat} {d : Dec} (h : DecRaw w O c a d tot) (hs : Step cs w O w' O') (hc : c ∉ cs) : DecRaw w' O' c a d tot := by
  obtain ⟨s, r, h1, h2⟩ := h
  exact ⟨s, r, h1.step hs hc, h2⟩
theorem DecAt.step {cs : List Nat} {w w' : World} {O O' : Paint} {c a tot : Nat} {d : Dec} (h : DecAt w O c a d tot) (hs : Step cs w O w' O') (hc : c ∉ cs) : DecAt w' O' c a d tot := ⟨h.1.step hs hc, h.2⟩
theorem six {w : World} {X : Nat} {a b c d e f : Value} {t : TypeId} (h : w.heap[X]? = some (.cells #[a, b, c, d, e, f] t (0, 0))) :
    (w.cell? ⟨X, 0, none⟩ = some a ∧ w.cell? ⟨X, 1, none⟩ = some b ∧ w.cell? ⟨X, 2, none⟩ = some c ∧ w.cell? ⟨X, 3, none⟩ = some d ∧ w.cell? ⟨X, 4, none⟩ = some e ∧ w.cell? ⟨X, 5, none⟩ = some f) ∧
    (w.frozen? ⟨X, 0, none⟩ = false ∧ w.frozen? ⟨X, 1, none⟩ = false ∧ w.frozen? ⟨X, 2, none⟩ = false ∧ w.frozen? ⟨X, 3, none⟩ = false ∧ w.frozen? ⟨X, 4, none⟩ = false ∧ w.frozen? ⟨X, 5, none⟩ = false) := by
  refine ⟨⟨?_, ?_, ?_, ?_, ?_, ?_⟩, ?_, ?_, ?_, ?_, ?_, ?_⟩ <;> simp [World.cell?, World.frozen?, h]
/-- The decoder's next byte: what it is, and what is left. -/
def Nexts (w : World) (O : Paint) (c a tot : Nat) (d : Dec) (x : Ending) (w' : World) : Prop := x = .returned (.int .u32 (d.byte : Int)) ∧ Step [c] w O w' O ∧ DecRaw w' O c a d.next tot
set_option maxHeartbeats 400000 in
theorem decnext {w : World} {O : Paint} {c a tot : Nat} {d : Dec} (h : DecRaw w O c a d tot) :
    Calls Try.prog 58 #[.pointer (some ⟨a, 0, none⟩)] w (Nexts w O c a tot d) := by
  obtain ⟨s, r, hb, hrest, hr, hs⟩ := h
  obtain ⟨⟨h0, h1, h2, h3, h4, h5⟩, f0, f1, f2, f3, f4, f5⟩ := six hb.1
  have hlt := hb.lt
  by_cases he : r < s.size
  · have hd : d.rest = s[r] :: s.data.toList.drop (r + 1) := by
      rw [hrest, List.drop_eq_getElem_cons (by simpa using he)]; rfl
    have HBY := Lib.hid (show d.byte = s[r].toNat by unfold Dec.byte; rw [hd])
    have HNX := Lib.hid (show d.next = { d with rest := s.data.toList.drop (r + 1) } by unfold Dec.next; rw [hd])
    have HB := Lib.hid hb
    have g1 : ((r : Int) == (s.size : Int)) = false := by rw [beq_eq_false_iff_ne]; omega
    have hxl := s[r].toNat_lt
    clear hb hrest hd h2 h3 h4 h5 f0 f2 f3 f4 f5
    go_enter Try.func58, Try.ntmps58
    go_wp2
    go_quiet (fail)
    go_wp2
    go_quiet (fail)
    go_wp2
    go_ret
    refine ⟨by rw [HBY.out]; rfl, ((Step.refl [c] w O).drewN _).setCell (p := ⟨a, 1, none⟩) (.inl (by simp [HB.out.2])) _, ?_⟩
    rw [HNX.out]
    refine ⟨s, r + 1, ?_, rfl, he, hs⟩
    simpa using (HB.out.step ((Step.refl [] w O).drewN _) (by simp)).setCell 1 (.int .i64 ((r : Int) + 1))
  · have hd : d.rest = [] := by rw [hrest]; apply List.drop_eq_nil_of_le; simp; omega
    have HBY := Lib.hid (show d.byte = 0 by unfold Dec.byte; rw [hd])
    have HNX := Lib.hid (show d.next = { d with bad := true } by unfold Dec.next; rw [hd])
    have HB := Lib.hid hb
    obtain rfl : r = s.size := by omega
    have HRe := Lib.hid hrest
    clear hb hrest hd h2 h3 h4 f0 f1 f2 f3 f4 he
    go_enter Try.func58, Try.ntmps58
    go_wp2
    go_quiet (fail)
    go_wp2
    go_ret
    refine ⟨by rw [HBY.out]; rfl, ((Step.refl [c] w O).drewN _).setCell (p := ⟨a, 5, none⟩) (.inl (by simp [HB.out.2])) _, ?_⟩
    rw [HNX.out]
    refine ⟨s, s.size, ?_, HRe.out, hr, hs⟩
    simpa using (HB.out.step ((Step.refl [] w O).drewN _) (by simp)).setCell 5 (.bool true)
theorem next_sized (d : Dec) (s : Nat) : ({ d with size := s } : Dec).next = { d.next with size := s } := by
  obtain ⟨rest, code, size, bad⟩ := d
  cases rest <;> rfl
/-- Within the loop of the turns: at most r of them are to come. -/
def TurningD (w : World) (O : Paint) (c a tot : Nat) (d : Dec) (r : Nat) (wr : World) : Prop := ∃ d' : Dec, r ≤ 3 ∧ turnDN r d' = wide d ∧ RawD d' ∧ 16777216 ≤ d'.size * 256 ^ r ∧ DecRaw wr O c a d' tot ∧ Step [c] w O wr O
theorem DecRaw.cells {w : World} {O : Paint} {c a tot : Nat} {d : Dec} (h : DecRaw w O c a d tot) : (w.cell? ⟨a, 2, none⟩ = some (.int .u32 (d.code : Int)) ∧ w.cell? ⟨a, 3, none⟩ = some (.int .u32 (d.size : Int)) ∧ w.cell? ⟨a, 4, none⟩ = some (.int .u32 (tot : Int)) ∧ w.cell? ⟨a, 5, none⟩ = some (.bool d.bad)) ∧
    (w.frozen? ⟨a, 2, none⟩ = false ∧ w.frozen? ⟨a, 3, none⟩ = false ∧ w.frozen? ⟨a, 4, none⟩ = false) ∧ a < w.heap.size ∧ O a = c := by
  obtain ⟨s, r, hb, _⟩ := h
  obtain ⟨⟨h0, h1, h2, h3, h4, h5⟩, f0, f1, f2, f3, f4, f5⟩ := six hb.1
  exact ⟨⟨h2, h3, h4, h5⟩, ⟨f2, f3, f4⟩, hb.lt, hb.2⟩
theorem DecRaw.setCode {w : World} {O : Paint} {c a tot : Nat} {d : Dec} (h : DecRaw w O c a d tot) (x : Nat) : DecRaw (w.setCell ⟨a, 2, none⟩ (.int .u32 (x : Int))) O c a { d with code := x } tot ∧ Step [c] w O (w.setCell ⟨a, 2, none⟩ (.int .u32 (x : Int))) O := by
  obtain ⟨s, r, hb, h2⟩ := h
  exact ⟨⟨s, r, by simpa using hb.setCell 2 (.int .u32 (x : Int)), h2⟩, (Step.refl [c] w O).setCell (p := ⟨a, 2, none⟩) (.inl (by simp [hb.2])) _⟩
theorem DecRaw.setSize {w : World} {O : Paint} {c a tot : Nat} {d : Dec} (h : DecRaw w O c a d tot) (x : Nat) : DecRaw (w.setCell ⟨a, 3, none⟩ (.int .u32 (x : Int))) O c a { d with size := x } tot ∧ Step [c] w O (w.setCell ⟨a, 3, none⟩ (.int .u32 (x : Int))) O := by
  obtain ⟨s, r, hb, h2⟩ := h
  exact ⟨⟨s, r, by simpa using hb.setCell 3 (.int .u32 (x : Int)), h2⟩, (Step.refl [c] w O).setCell (p := ⟨a, 3, none⟩) (.inl (by simp [hb.2])) _⟩
theorem DecRaw.setTot {w : World} {O : Paint} {c a tot : Nat} {d : Dec} (h : DecRaw w O c a d tot) (x : Nat) : DecRaw (w.setCell ⟨a, 4, none⟩ (.int .u32 (x : Int))) O c a d x ∧ Step [c] w O (w.setCell ⟨a, 4, none⟩ (.int .u32 (x : Int))) O := by
  obtain ⟨s, r, hb, h2⟩ := h
  exact ⟨⟨s, r, by simpa using hb.setCell 4 (.int .u32 (x : Int)), h2⟩, (Step.refl [c] w O).setCell (p := ⟨a, 4, none⟩) (.inl (by simp [hb.2])) _⟩
theorem DecRaw.setBad {w : World} {O : Paint} {c a tot : Nat} {d : Dec} (h : DecRaw w O c a d tot) (x : Bool) : DecRaw (w.setCell ⟨a, 5, none⟩ (.bool x)) O c a { d with bad := x } tot ∧ Step [c] w O (w.setCell ⟨a, 5, none⟩ (.bool x)) O := by
  obtain ⟨s, r, hb, h2⟩ := h
  exact ⟨⟨s, r, by simpa using hb.setCell 5 (.bool x), h2⟩, (Step.refl [c] w O).setCell (p := ⟨a, 5, none⟩) (.inl (by simp [hb.2])) _⟩
theorem DecRaw.other {w : World} {O : Paint} {c a tot : Nat} {d : Dec} (h : DecRaw w O c a d tot) {p : Addr} (hp : O p.block ≠ c) (u : Value) : DecRaw (w.setCell p u) O c a d tot := h.step (Step.store w O p u) (by simpa using Ne.symm hp)
theorem DecRaw.drewN {w : World} {O : Paint} {c a tot : Nat} {d : Dec} (h : DecRaw w O c a d tot) (n : Nat) : DecRaw (w.drewN n) O c a d tot := h.step ((Step.refl [] w O).drewN n) (by simp)
theorem DecRaw.drew {w : World} {O : Paint} {c a tot : Nat} {d : Dec} (h : DecRaw w O c a d tot) : DecRaw w.drew O c a d tot := h.step ((Step.refl [] w O).drew) (by simp)
set_option maxRecDepth 100000 in
set_option maxHeartbeats 400000 in
theorem decturn {w : World} {O : Paint} {c a tot : Nat} {d : Dec} (h : DecRaw w O c a d tot) (hr : RawD d) :
    Calls Try.prog 104 #[.pointer (some ⟨a, 0, none⟩)] w fun x w' => x = .returned (.tuple #[]) ∧ Step [c] w O w' O ∧ DecRaw w' O c a (wide d) tot := by
  have H0 : TurningD w O c a tot d 3 w := ⟨d, by omega, rfl, hr, by have := hr.1; omega, h, Step.refl _ _ _⟩
  have HH := Lib.hid H0
  clear H0 h hr
  go_enter Try.func104, Try.ntmps104
  go_wp2
  go_loopg [6] 3 (fun r _ wr => TurningD w O c a tot d r wr)
  case atStart => exact HH.out
  case round =>
    clear HH
    obtain ⟨D, hr3, ht1, hr1, hs1, hraw, hst⟩ := hrel
    have hz : D.size < 4294967296 := hr1.2.1
    have hz' : 1 ≤ D.size := hr1.1
    have hz2 : D.code < 4294967296 := hr1.2.2
    obtain ⟨⟨h2, h3, h4, h5⟩, ⟨f2, f3, f4⟩, hlt, hoa⟩ := hraw.cells
    have HRAW := Lib.hid hraw
    have HS1 := Lib.hid hs1
    have HR1 := Lib.hid hr1
    have HR3 := Lib.hid hr3
    have HST := Lib.hid hst
    clear hs1 hr1 hr3 hraw hst hoa h4 h5 f4
    by_cases hlo : D.size < 16777216
    · have hgk : gk ≠ 0 := by
        rintro rfl
        have := HS1.out
        simp at this; omega
      obtain ⟨r, rfl⟩ : ∃ r, gk = r + 1 := ⟨gk - 1, by omega⟩
      have htn : turnDN r { D.next with size := D.size * 256, code := (256 * D.code + D.byte) % 4294967296 } = wide d := by
        rw [← ht1, turnDN, turnD_lo _ hlo]
      have HTN := Lib.hid htn
      have HLO := Lib.hid hlo
      obtain ⟨k1, k2⟩ := HRAW.out.setSize (D.size * 256)
      have hmul : ((D.size * 256 : Nat) : Int) = (D.size : Int) * 256 := by omega
      rw [hmul] at k1 k2
      have HK1 := Lib.hid (DecRaw.drew k1)
      have HK2 := Lib.hid k2
      have hbl := byte_lt D
      have HCO := Lib.hid (show (((256 * D.code + D.byte) % 4294967296 : Nat) : Int) = ((D.code : Int) * 256 % 4294967296 + (D.byte : Int)) % 4294967296 by omega)
      have hd : decide ((D.size : Int) < 16777216) = true := by rw [decide_eq_true_iff]; omega
      have hz3 : D.size * 256 < 4294967296 := by omega
      clear ht1 htn hgk k1 k2 hmul hlo
      go_wp2
      go_region_with ((go_at_call 58; refine (decnext (by exact HK1.out)).mono ?_; rintro x w3 ⟨rfl, hst3, hraw3⟩; have HST3 := Lib.hid hst3.from_drew; have HRAW3 := Lib.hid hraw3; obtain ⟨⟨k2, k3, k4, k5⟩, ⟨l2, l3, l4⟩, hlt3, hoa3⟩ := hraw3.cells; simp only [next_code] at k2; clear hst3 hraw3 hoa3 k3 k4 k5 l3 l4))
      all_goals
        go_wp2
        go_roundg r
        case measure => omega
        case rel =>
          have e : IntKind.u32.wrap (IntKind.u32.wrap ((D.code : Int) * 256) + ((({ rest := D.rest, code := D.code, size := D.size * 256, bad := D.bad } : Dec).byte : Nat) : Int)) = (((256 * D.code + D.byte) % 4294967296 : Nat) : Int) := by
            rw [IntKind.wrap_u32, IntKind.wrap_u32, HCO.out]; rfl
          rw [e]
          obtain ⟨m1, m2⟩ := HRAW3.out.setCode ((256 * D.code + D.byte) % 4294967296)
          have hraw := turnD_raw HR1.out
          rw [turnD_lo _ HLO.out] at hraw
          refine ⟨_, by have := HR3.out; omega, HTN.out, hraw, ?_, ?_, ((HST.out.trans HK2.out).trans HST3.out).trans m2⟩
          · show 16777216 ≤ D.size * 256 * 256 ^ r
            rw [Nat.mul_assoc, Nat.mul_comm 256, ← Nat.pow_succ]; exact HS1.out
          · have hn := next_sized D (D.size * 256)
            rw [show ({ rest := D.rest, code := D.code, size := D.size * 256, bad := D.bad } : Dec) = { D with size := D.size * 256 } from rfl, hn] at m1
            exact m1
    · have hd : decide ((D.size : Int) < 16777216) = false := by rw [decide_eq_false_iff_not]; omega
      have hk := turnDN_keep gk (e := D) (by omega)
      rw [hk] at ht1
      have HT := Lib.hid ht1
      clear ht1 hk hlo hz hz'
      go_wp2
      first | go_end0 | (simp only [Exit.inBlock, Exit.then]; refine bodyPost_ret (results_none rfl _ _ _) rfl ?_) | refine bodyPost_ret (results_none rfl _ _ _) rfl ?_
      exact ⟨rfl, HST.out, by rw [← HT.out]; exact HRAW.out⟩
end Go.Proofs.Ytakbocaemlgbaaa.Rc
