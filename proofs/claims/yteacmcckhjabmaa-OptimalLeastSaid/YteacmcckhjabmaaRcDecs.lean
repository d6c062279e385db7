/-
  Contracts of the developers' decoder of layer 3: what a decoder is in memory ('DecRaw'), the next byte, the turns.
  Contracts of the developers' decoder of layer 3, more: NewDecoder, Bad, Done, Bit; and of none.
  Contracts of the developers' decoder of layer 3, more: Direct, Where, Take; and of none.
  Layer 3's statements: their first lines (speaks) return true; the part of a step.
-/
import Derived.Test.YteacmcckhjabmaaRcEncs
import Derived.Test.YteacmcckhjabmaaBase
import Derived.Deep.RegionWith
import Derived.Deep.LoopGhost
section
namespace Go.Proofs.Yteacmcckhjabmaa.Rc
open Go.RowKit
/-- Block a is a decoder with these numbers; it belongs to c; tot is what was asked for last. -/
def DecRaw (w : World) (O : Paint) (c a : Nat) (d : Dec) (tot : Nat) : Prop := ∃ (s : ByteArray) (r : Nat),
  Blk w O c a (.cells #[.string s, .int .i64 (r : Int), .int .u32 (d.code : Int), .int .u32 (d.size : Int), .int .u32 (tot : Int), .bool d.bad] 152 (0, 0)) ∧ d.rest = s.data.toList.drop r ∧ r ≤ s.size ∧ s.size ≤ 1000000000000
def DecAt (w : World) (O : Paint) (c a : Nat) (d : Dec) (tot : Nat) : Prop := DecRaw w O c a d tot ∧ FineD d
theorem DecRaw.step {cs : List Nat} {w w' : World} {O O' : Paint} {c a tot : Nat} {d : Dec} (h : DecRaw w O c a d tot) (hs : Step cs w O w' O') (hc : c ∉ cs) : DecRaw w' O' c a d tot := by
  obtain ⟨s, r, h1, h2⟩ := h
  exact ⟨s, r, h1.step hs hc, h2⟩
theorem DecAt.step {cs : List Nat} {w w' : World} {O O' : Paint} {c a tot : Nat} {d : Dec} (h : DecAt w O c a d tot) (hs : Step cs w O w' O') (hc : c ∉ cs) : DecAt w' O' c a d tot := ⟨h.1.step hs hc, h.2⟩
theorem six {w : World} {X : Nat} {a b c d e f : Value} {t : TypeId} (h : w.heap[X]? = some (.cells #[a, b, c, d, e, f] t (0, 0))) :
    (w.cell? ⟨X, 0, none⟩ = some a ∧ w.cell? ⟨X, 1, none⟩ = some b ∧ w.cell? ⟨X, 2, none⟩ = some c ∧ w.cell? ⟨X, 3, none⟩ = some d ∧ w.cell? ⟨X, 4, none⟩ = some e ∧ w.cell? ⟨X, 5, none⟩ = some f) ∧
    (w.frozen? ⟨X, 0, none⟩ = false ∧ w.frozen? ⟨X, 1, none⟩ = false ∧ w.frozen? ⟨X, 2, none⟩ = false ∧ w.frozen? ⟨X, 3, none⟩ = false ∧ w.frozen? ⟨X, 4, none⟩ = false ∧ w.frozen? ⟨X, 5, none⟩ = false) := by
  refine ⟨⟨?_, ?_, ?_, ?_, ?_, ?_⟩, ?_, ?_, ?_, ?_, ?_, ?_⟩ <;> simp [World.cell?, World.frozen?, h]
/-- The decoder's next byte: what it is, and what is left. -/
def Nexts (w : World) (O : Paint) (c a tot : Nat) (d : Dec) (x : Ending) (w' : World) : Prop := x = .returned (.int .u32 (d.byte : Int)) ∧ Step [c] w O w' O ∧ DecRaw w' O c a d.next tot
set_option maxHeartbeats 400000 in
theorem decnext {w : World} {O : Paint} {c a tot : Nat} {d : Dec} (h : DecRaw w O c a d tot) :
    Calls Try.prog 92 #[.pointer (some ⟨a, 0, none⟩)] w (Nexts w O c a tot d) := by
  obtain ⟨s, r, hb, hrest, hr, hs⟩ := h
  obtain ⟨⟨h0, h1, h2, h3, h4, h5⟩, f0, f1, f2, f3, f4, f5⟩ := six hb.1
  have hlt := hb.lt
  by_cases he : r < s.size
  · have hd : d.rest = s[r] :: s.data.toList.drop (r + 1) := by
      rw [hrest, List.drop_eq_getElem_cons (by simpa using he)]; rfl
    have HBY := Lib.hid (show d.byte = s[r].toNat by unfold Dec.byte; rw [hd])
    have HNX := Lib.hid (show d.next = { d with rest := s.data.toList.drop (r + 1) } by unfold Dec.next; rw [hd])
    have HB := Lib.hid hb
    have g1 : ((r : Int) == (s.size : Int)) = false := by rw [beq_eq_false_iff_ne]; omega
    have hxl := s[r].toNat_lt
    clear hb hrest hd h2 h3 h4 h5 f0 f2 f3 f4 f5
    go_enter Try.func92, Try.ntmps92
    go_wp2
    go_quiet (fail)
    go_wp2
    go_quiet (fail)
    go_wp2
    go_ret
    refine ⟨by rw [HBY.out]; rfl, ((Step.refl [c] w O).drewN _).setCell (p := ⟨a, 1, none⟩) (.inl (by simp [HB.out.2])) _, ?_⟩
    rw [HNX.out]
    refine ⟨s, r + 1, ?_, rfl, he, hs⟩
    simpa using (HB.out.step ((Step.refl [] w O).drewN _) (by simp)).setCell 1 (.int .i64 ((r : Int) + 1))
  · have hd : d.rest = [] := by rw [hrest]; apply List.drop_eq_nil_of_le; simp; omega
    have HBY := Lib.hid (show d.byte = 0 by unfold Dec.byte; rw [hd])
    have HNX := Lib.hid (show d.next = { d with bad := true } by unfold Dec.next; rw [hd])
    have HB := Lib.hid hb
    obtain rfl : r = s.size := by omega
    have HRe := Lib.hid hrest
    clear hb hrest hd h2 h3 h4 f0 f1 f2 f3 f4 he
    go_enter Try.func92, Try.ntmps92
    go_wp2
    go_quiet (fail)
    go_wp2
    go_ret
    refine ⟨by rw [HBY.out]; rfl, ((Step.refl [c] w O).drewN _).setCell (p := ⟨a, 5, none⟩) (.inl (by simp [HB.out.2])) _, ?_⟩
    rw [HNX.out]
    refine ⟨s, s.size, ?_, HRe.out, hr, hs⟩
    simpa using (HB.out.step ((Step.refl [] w O).drewN _) (by simp)).setCell 5 (.bool true)
theorem next_sized (d : Dec) (s : Nat) : ({ d with size := s } : Dec).next = { d.next with size := s } := by
  obtain ⟨rest, code, size, bad⟩ := d
  cases rest <;> rfl
/-- Within the loop of the turns: at most r of them are to come. -/
def TurningD (w : World) (O : Paint) (c a tot : Nat) (d : Dec) (r : Nat) (wr : World) : Prop := ∃ d' : Dec, r ≤ 3 ∧ turnDN r d' = wide d ∧ RawD d' ∧ 16777216 ≤ d'.size * 256 ^ r ∧ DecRaw wr O c a d' tot ∧ Step [c] w O wr O
theorem DecRaw.cells {w : World} {O : Paint} {c a tot : Nat} {d : Dec} (h : DecRaw w O c a d tot) : (w.cell? ⟨a, 2, none⟩ = some (.int .u32 (d.code : Int)) ∧ w.cell? ⟨a, 3, none⟩ = some (.int .u32 (d.size : Int)) ∧ w.cell? ⟨a, 4, none⟩ = some (.int .u32 (tot : Int)) ∧ w.cell? ⟨a, 5, none⟩ = some (.bool d.bad)) ∧
    (w.frozen? ⟨a, 2, none⟩ = false ∧ w.frozen? ⟨a, 3, none⟩ = false ∧ w.frozen? ⟨a, 4, none⟩ = false) ∧ a < w.heap.size ∧ O a = c := by
  obtain ⟨s, r, hb, _⟩ := h
  obtain ⟨⟨h0, h1, h2, h3, h4, h5⟩, f0, f1, f2, f3, f4, f5⟩ := six hb.1
  exact ⟨⟨h2, h3, h4, h5⟩, ⟨f2, f3, f4⟩, hb.lt, hb.2⟩
theorem DecRaw.setCode {w : World} {O : Paint} {c a tot : Nat} {d : Dec} (h : DecRaw w O c a d tot) (x : Nat) : DecRaw (w.setCell ⟨a, 2, none⟩ (.int .u32 (x : Int))) O c a { d with code := x } tot ∧ Step [c] w O (w.setCell ⟨a, 2, none⟩ (.int .u32 (x : Int))) O := by
  obtain ⟨s, r, hb, h2⟩ := h
  exact ⟨⟨s, r, by simpa using hb.setCell 2 (.int .u32 (x : Int)), h2⟩, (Step.refl [c] w O).setCell (p := ⟨a, 2, none⟩) (.inl (by simp [hb.2])) _⟩
theorem DecRaw.setSize {w : World} {O : Paint} {c a tot : Nat} {d : Dec} (h : DecRaw w O c a d tot) (x : Nat) : DecRaw (w.setCell ⟨a, 3, none⟩ (.int .u32 (x : Int))) O c a { d with size := x } tot ∧ Step [c] w O (w.setCell ⟨a, 3, none⟩ (.int .u32 (x : Int))) O := by
  obtain ⟨s, r, hb, h2⟩ := h
  exact ⟨⟨s, r, by simpa using hb.setCell 3 (.int .u32 (x : Int)), h2⟩, (Step.refl [c] w O).setCell (p := ⟨a, 3, none⟩) (.inl (by simp [hb.2])) _⟩
theorem DecRaw.setTot {w : World} {O : Paint} {c a tot : Nat} {d : Dec} (h : DecRaw w O c a d tot) (x : Nat) : DecRaw (w.setCell ⟨a, 4, none⟩ (.int .u32 (x : Int))) O c a d x ∧ Step [c] w O (w.setCell ⟨a, 4, none⟩ (.int .u32 (x : Int))) O := by
  obtain ⟨s, r, hb, h2⟩ := h
  exact ⟨⟨s, r, by simpa using hb.setCell 4 (.int .u32 (x : Int)), h2⟩, (Step.refl [c] w O).setCell (p := ⟨a, 4, none⟩) (.inl (by simp [hb.2])) _⟩
theorem DecRaw.setBad {w : World} {O : Paint} {c a tot : Nat} {d : Dec} (h : DecRaw w O c a d tot) (x : Bool) : DecRaw (w.setCell ⟨a, 5, none⟩ (.bool x)) O c a { d with bad := x } tot ∧ Step [c] w O (w.setCell ⟨a, 5, none⟩ (.bool x)) O := by
  obtain ⟨s, r, hb, h2⟩ := h
  exact ⟨⟨s, r, by simpa using hb.setCell 5 (.bool x), h2⟩, (Step.refl [c] w O).setCell (p := ⟨a, 5, none⟩) (.inl (by simp [hb.2])) _⟩
theorem DecRaw.other {w : World} {O : Paint} {c a tot : Nat} {d : Dec} (h : DecRaw w O c a d tot) {p : Addr} (hp : O p.block ≠ c) (u : Value) : DecRaw (w.setCell p u) O c a d tot := h.step (Step.store w O p u) (by simpa using Ne.symm hp)
theorem DecRaw.drewN {w : World} {O : Paint} {c a tot : Nat} {d : Dec} (h : DecRaw w O c a d tot) (n : Nat) : DecRaw (w.drewN n) O c a d tot := h.step ((Step.refl [] w O).drewN n) (by simp)
theorem DecRaw.drew {w : World} {O : Paint} {c a tot : Nat} {d : Dec} (h : DecRaw w O c a d tot) : DecRaw w.drew O c a d tot := h.step ((Step.refl [] w O).drew) (by simp)
set_option maxRecDepth 100000 in
set_option maxHeartbeats 400000 in
theorem decturn {w : World} {O : Paint} {c a tot : Nat} {d : Dec} (h : DecRaw w O c a d tot) (hr : RawD d) :
    Calls Try.prog 126 #[.pointer (some ⟨a, 0, none⟩)] w fun x w' => x = .returned (.tuple #[]) ∧ Step [c] w O w' O ∧ DecRaw w' O c a (wide d) tot := by
  have H0 : TurningD w O c a tot d 3 w := ⟨d, by omega, rfl, hr, by have := hr.1; omega, h, Step.refl _ _ _⟩
  have HH := Lib.hid H0
  clear H0 h hr
  go_enter Try.func126, Try.ntmps126
  go_wp2
  go_loopg [6] 3 (fun r _ wr => TurningD w O c a tot d r wr)
  case atStart => exact HH.out
  case round =>
    clear HH
    obtain ⟨D, hr3, ht1, hr1, hs1, hraw, hst⟩ := hrel
    have hz : D.size < 4294967296 := hr1.2.1
    have hz' : 1 ≤ D.size := hr1.1
    have hz2 : D.code < 4294967296 := hr1.2.2
    obtain ⟨⟨h2, h3, h4, h5⟩, ⟨f2, f3, f4⟩, hlt, hoa⟩ := hraw.cells
    have HRAW := Lib.hid hraw
    have HS1 := Lib.hid hs1
    have HR1 := Lib.hid hr1
    have HR3 := Lib.hid hr3
    have HST := Lib.hid hst
    clear hs1 hr1 hr3 hraw hst hoa h4 h5 f4
    by_cases hlo : D.size < 16777216
    · have hgk : gk ≠ 0 := by
        rintro rfl
        have := HS1.out
        simp at this; omega
      obtain ⟨r, rfl⟩ : ∃ r, gk = r + 1 := ⟨gk - 1, by omega⟩
      have htn : turnDN r { D.next with size := D.size * 256, code := (256 * D.code + D.byte) % 4294967296 } = wide d := by
        rw [← ht1, turnDN, turnD_lo _ hlo]
      have HTN := Lib.hid htn
      have HLO := Lib.hid hlo
      obtain ⟨k1, k2⟩ := HRAW.out.setSize (D.size * 256)
      have hmul : ((D.size * 256 : Nat) : Int) = (D.size : Int) * 256 := by omega
      rw [hmul] at k1 k2
      have HK1 := Lib.hid (DecRaw.drew k1)
      have HK2 := Lib.hid k2
      have hbl := byte_lt D
      have HCO := Lib.hid (show (((256 * D.code + D.byte) % 4294967296 : Nat) : Int) = ((D.code : Int) * 256 % 4294967296 + (D.byte : Int)) % 4294967296 by omega)
      have hd : decide ((D.size : Int) < 16777216) = true := by rw [decide_eq_true_iff]; omega
      have hz3 : D.size * 256 < 4294967296 := by omega
      clear ht1 htn hgk k1 k2 hmul hlo
      go_wp2
      go_region_with ((go_at_call 92; refine (decnext (by exact HK1.out)).mono ?_; rintro x w3 ⟨rfl, hst3, hraw3⟩; have HST3 := Lib.hid hst3.from_drew; have HRAW3 := Lib.hid hraw3; obtain ⟨⟨k2, k3, k4, k5⟩, ⟨l2, l3, l4⟩, hlt3, hoa3⟩ := hraw3.cells; simp only [next_code] at k2; clear hst3 hraw3 hoa3 k3 k4 k5 l3 l4))
      all_goals
        go_wp2
        go_roundg r
        case measure => omega
        case rel =>
          have e : IntKind.u32.wrap (IntKind.u32.wrap ((D.code : Int) * 256) + ((({ rest := D.rest, code := D.code, size := D.size * 256, bad := D.bad } : Dec).byte : Nat) : Int)) = (((256 * D.code + D.byte) % 4294967296 : Nat) : Int) := by
            rw [IntKind.wrap_u32, IntKind.wrap_u32, HCO.out]; rfl
          rw [e]
          obtain ⟨m1, m2⟩ := HRAW3.out.setCode ((256 * D.code + D.byte) % 4294967296)
          have hraw := turnD_raw HR1.out
          rw [turnD_lo _ HLO.out] at hraw
          refine ⟨_, by have := HR3.out; omega, HTN.out, hraw, ?_, ?_, ((HST.out.trans HK2.out).trans HST3.out).trans m2⟩
          · show 16777216 ≤ D.size * 256 * 256 ^ r
            rw [Nat.mul_assoc, Nat.mul_comm 256, ← Nat.pow_succ]; exact HS1.out
          · have hn := next_sized D (D.size * 256)
            rw [show ({ rest := D.rest, code := D.code, size := D.size * 256, bad := D.bad } : Dec) = { D with size := D.size * 256 } from rfl, hn] at m1
            exact m1
    · have hd : decide ((D.size : Int) < 16777216) = false := by rw [decide_eq_false_iff_not]; omega
      have hk := turnDN_keep gk (e := D) (by omega)
      rw [hk] at ht1
      have HT := Lib.hid ht1
      clear ht1 hk hlo hz hz'
      go_wp2
      first | go_end0 | (simp only [Exit.inBlock, Exit.then]; refine bodyPost_ret (results_none rfl _ _ _) rfl ?_) | refine bodyPost_ret (results_none rfl _ _ _) rfl ?_
      exact ⟨rfl, HST.out, by rw [← HT.out]; exact HRAW.out⟩
end Go.Proofs.Yteacmcckhjabmaa.Rc
end
section
namespace Go.Proofs.Yteacmcckhjabmaa.Rc
open Go.RowKit
theorem step_bad (d : Dec) : stepD { d with bad := true } = { stepD d with bad := true } := by
  obtain ⟨rest, code, size, bad⟩ := d
  cases rest <;> rfl
theorem readN_bad (n : Nat) (d : Dec) : readN n { d with bad := true } = { readN n d with bad := true } := by
  induction n with
  | zero => rfl
  | succ n ih => rw [readN, ih, step_bad]; rfl
theorem step_coded (d : Dec) : stepD d = { d.next with code := 256 * d.code + d.byte } := rfl
theorem read_eq (s : List UInt8) : Dec.read s = readN 4 (if (Dec.fresh s).byte = 0 then (Dec.fresh s).next else { (Dec.fresh s).next with bad := true }) := by
  unfold Dec.read
  split
  · rfl
  · exact (readN_bad 4 _).symm
set_option maxRecDepth 100000 in
set_option maxHeartbeats 1000000 in
theorem newdec_fresh (s : ByteArray) (hs : s.size ≤ 1000000000000) (w : World) (O : Paint) (c : Nat) (hO : ∀ k, k < w.heap.size → O k ≠ c) :
    Calls Try.prog 61 #[.string s] w fun x w' => x = .returned (.pointer (some ⟨w.heap.size, 0, none⟩)) ∧ Step [] w O w' (Step.paint O w c) ∧ DecRaw w' (Step.paint O w c) c w.heap.size (Dec.read s.data.toList) 0 := by
  have H0 : DecRaw (w.alloc (.cells #[.string s, .int .i64 0, .int .u32 0, .int .u32 4294967295, .int .u32 0, .bool false] 152)) (Step.paint O w c) c w.heap.size (Dec.fresh s.data.toList) 0 :=
    ⟨s, 0, ⟨heap_alloc_new w _, Step.paint_new (Nat.le_refl _)⟩, rfl, Nat.zero_le _, hs⟩
  have HS0 := Lib.hid (show Step [] w O (w.alloc (.cells #[.string s, .int .i64 0, .int .u32 0, .int .u32 4294967295, .int .u32 0, .bool false] 152)) (Step.paint O w c) from (((Step.refl [] w O).alloc _).repaint c))
  have hsz : (w.alloc (.cells #[.string s, .int .i64 0, .int .u32 0, .int .u32 4294967295, .int .u32 0, .bool false] 152)).heap.size = w.heap.size + 1 := World.size_alloc _ _
  have HRE := Lib.hid (read_eq s.data.toList)
  have HH := Lib.hid H0
  have HOF := Lib.hid (show ∀ k, k < w.heap.size → Step.paint O w c k ≠ c from fun k hk => by rw [Step.paint_old hk]; exact hO k hk)
  clear H0 hO
  go_enter Try.func61, Try.ntmps61
  go_wp2_with fail
  have hw0 : w.heap.size < (w.alloc (.cells #[.string s, .int .i64 0, .int .u32 0, .int .u32 4294967295, .int .u32 0, .bool false] 152)).heap.size := by omega
  generalize w.alloc (.cells #[.string s, .int .i64 0, .int .u32 0, .int .u32 4294967295, .int .u32 0, .bool false] 152) = W0 at *
  generalize hOO : Step.paint O w c = O1 at *
  have HOO := Lib.hid hOO
  clear hOO hsz
  generalize hA : w.heap.size = a at *
  have HA := Lib.hid hA
  clear hA
  have hcode := Lib.hid (show (Dec.fresh s.data.toList).next.code = 0 by rw [next_code]; rfl)
  refine (decnext HH.out).mono ?_
  rintro x W1 ⟨rfl, hst1, hraw1⟩
  have HST1 := Lib.hid hst1
  have hblt := byte_lt (Dec.fresh s.data.toList)
  obtain ⟨⟨k2, k3, k4, k5⟩, ⟨l2, l3, l4⟩, hlt1, hoa1⟩ := hraw1.cells
  have l5 : W1.frozen? ⟨a, 5, none⟩ = false := by obtain ⟨s', r', hb', _⟩ := hraw1; exact hb'.free 5
  have HRAW1 := Lib.hid hraw1
  clear hst1 hraw1 hoa1 HH k2 k3 k4 l2 l3 l4
  generalize (Dec.fresh s.data.toList).byte = b at *
  generalize (Dec.fresh s.data.toList).next = D1 at *
  have hbI : ((b : Int) != 0) = !(decide (b = 0)) := by
    by_cases h : b = 0
    · simp [h]
    · simp [h]
  by_cases hb : b = 0
  focus
    subst hb
    rw [if_pos rfl] at HRE
    have HS := Lib.hid HST1.out
    have HR := Lib.hid HRAW1.out
    have HC := Lib.hid hcode.out
    clear hcode HRAW1 HST1 k5 l5 hbI
    go_wp2
    generalize D1 = D2 at *
    generalize W1 = W2 at *
  rotate_left
  focus
    rw [if_neg hb] at HRE
    simp only [hb, decide_false, Bool.not_false] at hbI
    obtain ⟨m1, m2⟩ := HRAW1.out.setBad true
    obtain ⟨D2, hD2⟩ : ∃ D2 : Dec, D2 = { D1 with bad := true } := ⟨_, rfl⟩
    have HS := Lib.hid (HST1.out.trans m2)
    rw [← hD2] at m1 HRE
    have HR := Lib.hid m1
    have HC := Lib.hid (show D2.code = 0 by rw [hD2]; exact hcode.out)
    clear hcode HRAW1 HST1 m1 m2 hD2
    go_wp2
    clear k5 l5 hbI hb
    generalize W1.setCell ⟨a, 5, none⟩ (.bool true) = W2 at *
  all_goals
    have HCD := Lib.hid (fun n => readN_code n D2 HC.out)
    go_loopw [13] (fun i wr => ∃ k : Nat, k ≤ 4 ∧ i = .int .i64 k ∧ DecRaw wr O1 c a (readN k D2) 0 ∧ Step [c] W0 O1 wr O1) (fun i _ => 4 - (intOf i).toNat)
    case atStart => exact ⟨0, by omega, rfl, HR.out, HS.out⟩
    case round =>
      clear HR HS hlt1
      obtain ⟨k, hk, rfl, hraw, hst⟩ := hrel
      by_cases hlt : k < 4
      · have hcd : (readN k D2).code < 16777216 := Nat.lt_of_lt_of_le (HCD.out k) (Nat.le_trans (Nat.pow_le_pow_right (by omega) (by omega : k ≤ 3)) (by omega))
        have HSTP := Lib.hid (show readN (k + 1) D2 = { (readN k D2).next with code := 256 * (readN k D2).code + (readN k D2).byte } from rfl)
        generalize readN k D2 = D at *
        have hby := byte_lt D
        obtain ⟨⟨h2, h3, h4, h5⟩, ⟨f2, f3, f4⟩, hlt2, hoa2⟩ := hraw.cells
        have HRAW := Lib.hid hraw.drew
        have HST := Lib.hid hst
        clear hraw hst hoa2 h3 h4 h5 f3 f4
        have HCO := Lib.hid (show ((D.code : Int) * 256 % 4294967296 + (D.byte : Int)) % 4294967296 = ((256 * D.code + D.byte : Nat) : Int) by omega)
        clear hcd
        go_wp2
        go_region_with ((go_at_call 92; refine (decnext (by exact HRAW.out)).mono ?_; rintro x w3 ⟨rfl, hst3, hraw3⟩; have HST3 := Lib.hid hst3.from_drew; have HRAW3 := Lib.hid hraw3; obtain ⟨⟨k2, k3, k4, k5⟩, ⟨l2, l3, l4⟩, hlt3, hoa3⟩ := hraw3.cells; simp only [next_code] at k2; clear hst3 hraw3 hoa3 k3 k4 k5 l3 l4))
        all_goals
          go_wp2
          go_roundw
          case rel =>
            first | rw [HCO.out] | (rw [IntKind.wrap_u32, IntKind.wrap_u32, HCO.out])
            obtain ⟨m1, m2⟩ := HRAW3.out.setCode (256 * D.code + D.byte)
            exact ⟨k + 1, by omega, by go_num, by rw [HSTP.out]; exact m1, (HST.out.trans HST3.out).trans m2⟩
          case measure => simp [intOf]; omega
      · obtain rfl : k = 4 := by omega
        have HRAW := Lib.hid hraw
        have HST := Lib.hid hst
        clear hraw hst
        go_wp2
        go_ret
        refine ⟨by rw [HA.out]; rfl, ?_, by rw [HOO.out, HRE.out, HA.out]; exact HRAW.out⟩
        rw [HOO.out]
        refine ⟨⟨HST.out.frame.os.trans HS0.out.frame.os, HST.out.frame.tape.trans HS0.out.frame.tape, HST.out.frame.output.trans HS0.out.frame.output, Nat.le_trans HS0.out.size HST.out.size, fun k hk _ => ?_⟩, HS0.out.ext⟩
        rw [HST.out.block (Nat.lt_of_lt_of_le hk HS0.out.size) (by rw [List.mem_singleton]; exact HOF.out k (by rw [← HA.out]; exact hk)), HS0.out.block hk (by simp)]
theorem newdec (s : ByteArray) (hs : s.size ≤ 1000000000000) (w : World) (O : Paint) (c : Nat) :
    Calls Try.prog 61 #[.string s] w fun x w' => x = .returned (.pointer (some ⟨w.heap.size, 0, none⟩)) ∧ ∃ O', Step [] w O w' O' ∧ DecAt w' O' c w.heap.size (Dec.read s.data.toList) 0 := by
  refine (newdec_fresh s hs w (fun _ => c + 1) c (fun _ _ => by omega)).mono fun x w' ⟨h1, h2, h3⟩ => ⟨h1, Step.paint O w c, ⟨⟨h2.frame.os, h2.frame.tape, h2.frame.output, h2.size, fun k hk _ => h2.block hk (by simp)⟩, fun k hk => Step.paint_old hk⟩, ?_, fine_read _⟩
  obtain ⟨s', r, hb, hr⟩ := h3
  exact ⟨s', r, ⟨hb.1, Step.paint_new (Nat.le_refl _)⟩, hr⟩
theorem dec_bad {w : World} {O : Paint} {c a tot : Nat} {d : Dec} (h : DecAt w O c a d tot) : Calls Try.prog 63 #[.pointer (some ⟨a, 0, none⟩)] w fun x w' => x = .returned (.bool d.bad) ∧ w = w' := by
  obtain ⟨⟨h2, h3, h4, h5⟩, _, _, _⟩ := h.1.cells
  clear h h2 h3 h4
  go_enter Try.func63, Try.ntmps63
  go_wp2
  go_ret
  exact ⟨rfl, rfl⟩
def Dec.done (d : Dec) : Bool := d.rest.isEmpty && d.code == 0
theorem dec_done {w : World} {O : Paint} {c a tot : Nat} {d : Dec} (h : DecAt w O c a d tot) : Calls Try.prog 64 #[.pointer (some ⟨a, 0, none⟩)] w fun x w' => x = .returned (.bool d.done) ∧ ∃ n, w' = w.drewN n := by
  obtain ⟨⟨s, r, hb, hrest, hr, hs⟩, hf⟩ := h
  obtain ⟨⟨h0, h1, h2, h3, h4, h5⟩, f0, f1, f2, f3, f4, f5⟩ := six hb.1
  have hlt := hb.lt
  have hcd : d.code < 4294967296 := hf.2.2
  by_cases he : r = s.size
  · subst he
    have hd : d.rest = [] := by rw [hrest]; apply List.drop_eq_nil_of_le; simp
    have HD := Lib.hid (show d.done = (d.code == 0) by unfold Dec.done; rw [hd]; rfl)
    clear hb hrest hr hf hd h3 h4 h5 f0 f1 f2 f3 f4 f5
    have hI : ((d.code : Int) == 0) = (d.code == 0) := by rw [Bool.eq_iff_iff]; simp only [beq_iff_eq]; omega
    go_enter Try.func64, Try.ntmps64
    go_wp2
    go_quiet (fail)
    go_wp2
    go_ret
    exact ⟨ret_bool (by rw [HD.out, ← hI]), _, rfl⟩
  · have hne : d.rest.isEmpty = false := by rw [hrest]; simp; omega
    have HD := Lib.hid (show d.done = false by unfold Dec.done; rw [hne]; rfl)
    have hI : ((r : Int) == (s.size : Int)) = false := by rw [beq_eq_false_iff_ne]; omega
    clear hb hrest hf h3 h4 h5 f0 f1 f2 f3 f4 f5 hne
    go_enter Try.func64, Try.ntmps64
    go_wp2
    go_quiet (fail)
    go_wp2
    go_ret
    exact ⟨ret_bool (by rw [HD.out]), _, rfl⟩
/-- What a bit does to the decoder; the probability's cell is set ahead of it. -/
def BittenD (w : World) (O : Paint) (c a tot : Nat) (q : Addr) (p : Nat) (d : Dec) (x : Ending) (w' : World) : Prop :=
  x = .returned (.int .i64 ((d.bitOf p : Nat) : Int)) ∧ Step [c] (w.setCell q (.int .u16 ((learn p (d.bitOf p) : Nat) : Int))) O w' O ∧ DecAt w' O c a (d.getBit p) tot
end Go.Proofs.Yteacmcckhjabmaa.Rc
end
section
namespace Go.Proofs.Yteacmcckhjabmaa.Rc
open Go.RowKit
def DirectingD (w : World) (O : Paint) (c a tot : Nat) (d : Dec) (wr : World) : Prop := Step [c] w O wr O ∧ DecAt wr O c a d tot
set_option maxHeartbeats 400000 in
theorem decwhere {w : World} {O : Paint} {c a tot : Nat} {d : Dec} (h : DecAt w O c a d tot) (t : Nat) (h1 : 1 ≤ t) (h3 : t ≤ 65536) :
    Calls Try.prog 115 #[.pointer (some ⟨a, 0, none⟩), .int .u32 (t : Int)] w fun x w' => x = .returned (.int .u32 ((d.whereIn t : Nat) : Int)) ∧ Step [c] w O w' O ∧ DecAt w' O c a d t := by
  obtain ⟨hraw, hfine⟩ := h
  obtain ⟨⟨hc2, hc3, hc4, _⟩, ⟨hf2, hf3, hf4⟩, hal, hoa⟩ := hraw.cells
  have hsz : d.size < 4294967296 := hfine.2.1
  have hcz : d.code < 4294967296 := hfine.2.2
  have hq1 : 1 ≤ d.size / t := by rw [Nat.le_div_iff_mul_le (by omega)]; have := hfine.1; omega
  have hq2 : d.size / t < 4294967296 := Nat.lt_of_le_of_lt (Nat.div_le_self _ _) hsz
  have hq3 : d.code / (d.size / t) < 4294967296 := Nat.lt_of_le_of_lt (Nat.div_le_self _ _) hcz
  have HW := Lib.hid (show d.whereIn t = min (d.code / (d.size / t)) (t - 1) from rfl)
  have hdiv : (d.size : Int) / (t : Int) = ((d.size / t : Nat) : Int) := by simp
  have hdiv2 : (d.code : Int) / ((d.size / t : Nat) : Int) = ((d.code / (d.size / t) : Nat) : Int) := by simp
  generalize d.code / (d.size / t) = Q at *
  generalize d.size / t = Z at *
  have e1 : (d.size : Int) / (t : Int) % 4294967296 = (Z : Int) := by rw [hdiv]; omega
  have e2 : (d.code : Int) / (Z : Int) % 4294967296 = (Q : Int) := by rw [hdiv2]; omega
  have e3 : IntKind.u32.wrap ((t : Int) - 1) = (t : Int) - 1 := IntWalk.u32_in _ (by omega)
  have z1 : ((t : Int) == 0) = false := by rw [beq_eq_false_iff_ne]; omega
  have z2 : ((Z : Int) == 0) = false := by rw [beq_eq_false_iff_ne]; omega
  have HRAW := Lib.hid hraw
  have HF := Lib.hid hfine
  clear hraw hfine hoa hdiv hdiv2
  go_enter Try.func115, Try.ntmps115
  go_wp2_with fail
  refine (istotal_any t h1 h3 _).mono ?_
  rintro x w1 ⟨rfl, rfl⟩
  go_wp2
  obtain ⟨j1, j2⟩ := HRAW.out.setTot t
  generalize w.setCell ⟨a, 4, none⟩ (.int .u32 (t : Int)) = W1 at *
  obtain ⟨⟨m2, m3, _, _⟩, _, hal1, _⟩ := j1.cells
  have J1 := Lib.hid j1
  have J2 := Lib.hid j2
  clear j1 j2 hc2 hc3 hc4 hf2 hf3 hf4
  go_region
  all_goals
    go_wp2
    all_goals
      go_ret
      exact ⟨ret_num (by rw [HW.out]; omega), J2.out.drew, J1.out.drew, HF.out⟩
set_option maxHeartbeats 400000 in
theorem dectake {w : World} {O : Paint} {z y : Nat} {d : Dec} {c : Nat} (h : DecAt w O z y d c) (a b : Nat) (h1 : 1 ≤ b) (h2 : a + b ≤ c) (h3 : c ≤ 65536) :
    Calls Try.prog 116 #[.pointer (some ⟨y, 0, none⟩), .int .u32 (a : Int), .int .u32 (b : Int)] w fun x w' => x = .returned (.tuple #[]) ∧ Step [z] w O w' O ∧ DecAt w' O z y (d.take a b c) c := by
  obtain ⟨hraw, hfine⟩ := h
  obtain ⟨⟨hc2, hc3, hc4, _⟩, ⟨hf2, hf3, hf4⟩, hal, hoa⟩ := hraw.cells
  have hsz : d.size < 4294967296 := hfine.2.1
  have hcz : d.code < 4294967296 := hfine.2.2
  have hle : d.size / c * (a + b) ≤ d.size := Nat.le_trans (Nat.mul_le_mul_left _ h2) (Nat.div_mul_le_self _ _)
  rw [Nat.mul_add] at hle
  have HRB := Lib.hid (take_raw hfine h1 h2 h3)
  have HF := Lib.hid (fine_take hfine h1 h2 h3)
  have HGE := Lib.hid (show d.take a b c = wide { d with code := (d.code + 4294967296 - d.size / c * a % 4294967296) % 4294967296, size := d.size / c * b } from rfl)
  have hq2 : d.size / c < 4294967296 := Nat.lt_of_le_of_lt (Nat.div_le_self _ _) hsz
  have hdiv : (d.size : Int) / (c : Int) = ((d.size / c : Nat) : Int) := by simp
  generalize d.size / c = R at *
  have hma : (R : Int) * (a : Int) = ((R * a : Nat) : Int) := by simp
  have hmb : (R : Int) * (b : Int) = ((R * b : Nat) : Int) := by simp
  have e1 : (d.size : Int) / (c : Int) % 4294967296 = (R : Int) := by rw [hdiv]; omega
  have z1 : ((c : Int) == 0) = false := by rw [beq_eq_false_iff_ne]; omega
  have m0 : (0 : Int) ≤ (R : Int) * (a : Int) := by rw [hma]; omega
  have m1 : (R : Int) * (a : Int) < 4294967296 := by rw [hma]; omega
  have m2 : (0 : Int) ≤ (R : Int) * (b : Int) := by rw [hmb]; omega
  have m3 : (R : Int) * (b : Int) < 4294967296 := by rw [hmb]; omega
  have HCO := Lib.hid (show ((d.code : Int) - (R : Int) * (a : Int)) % 4294967296 = (((d.code + 4294967296 - R * a % 4294967296) % 4294967296 : Nat) : Int) by
    rw [hma]
    have l1 : R * a < 4294967296 := by omega
    generalize R * a = A at *
    omega)
  have HMB := Lib.hid (show (R : Int) * (b : Int) % 4294967296 = ((R * b : Nat) : Int) by rw [Int.emod_eq_of_lt m2 m3]; exact hmb)
  have HE1 := Lib.hid e1
  have HRAW := Lib.hid hraw
  clear hraw hfine hoa hle hdiv hma hmb e1
  go_enter Try.func116, Try.ntmps116
  go_wp2_with fail
  refine (ispart_any a b c h1 h2 h3 _).mono ?_
  rintro x w1 ⟨rfl, rfl⟩
  go_wp2
  go_quiet (fail)
  go_wp2_with fail
  rw [HE1.out, HCO.out, HMB.out]
  obtain ⟨o1, o2⟩ := (HRAW.out.drewN nq).setCode ((d.code + 4294967296 - R * a % 4294967296) % 4294967296)
  obtain ⟨u1, u2⟩ := o1.setSize (R * b)
  have U2 := Lib.hid (o2.trans u2).from_drewN
  refine (decturn u1 HRB.out).mono ?_
  clear o1 o2 u1 u2 m0 m1 m2 m3
  rintro x w3 ⟨rfl, hst3, hen3⟩
  have HST3 := Lib.hid hst3
  have HEN3 := Lib.hid hen3
  clear hst3 hen3
  go_wp2
  first | go_end0 | (simp only [Exit.inBlock, Exit.then]; refine bodyPost_ret (results_none rfl _ _ _) rfl ?_) | refine bodyPost_ret (results_none rfl _ _ _) rfl ?_
  exact ⟨rfl, U2.out.trans HST3.out, by rw [HGE.out]; exact HEN3.out, HF.out⟩
theorem nil_where (t : Int) (w : World) : Calls Try.prog 115 #[.pointer none, .int .u32 t] w fun x w' => x = .returned (.int .u32 0) ∧ w = w' := by
  go_enter Try.func115, Try.ntmps115
  go_wp2
  go_ret
  exact ⟨rfl, rfl⟩
theorem nil_take (a b : Int) (w : World) : Calls Try.prog 116 #[.pointer none, .int .u32 a, .int .u32 b] w fun x w' => x = .returned (.tuple #[]) ∧ w = w' := by
  go_enter Try.func116, Try.ntmps116
  go_wp2
  first | go_end0 | (simp only [Exit.inBlock, Exit.then]; refine bodyPost_ret (results_none rfl _ _ _) rfl ?_) | refine bodyPost_ret (results_none rfl _ _ _) rfl ?_
  exact ⟨rfl, rfl⟩
theorem nil_bad (w : World) : Calls Try.prog 63 #[.pointer none] w fun x w' => x = .returned (.bool true) ∧ w = w' := by
  go_enter Try.func63, Try.ntmps63
  go_wp2
  go_ret
  exact ⟨rfl, rfl⟩
theorem nil_done (w : World) : Calls Try.prog 64 #[.pointer none] w fun x w' => x = .returned (.bool false) ∧ ∃ n, w' = w.drewN n := by
  go_enter Try.func64, Try.ntmps64
  go_wp2
  go_quiet (fail)
  go_wp2
  go_ret
  exact ⟨rfl, _, rfl⟩
end Go.Proofs.Yteacmcckhjabmaa.Rc
end
section
namespace Go.Proofs.Yteacmcckhjabmaa
open Go.RowKit
theorem Step.alloc_paint (w : World) (O : Paint) (c : Nat) (o : Obj) : Step [] w O (w.alloc o) (Step.paint O w c) := ((Step.refl [] w O).alloc o).repaint c
theorem Blk.new (w : World) (O : Paint) (c : Nat) (o : Obj) : Blk (w.alloc o) (Step.paint O w c) c w.heap.size o := ⟨heap_alloc_new w o, Step.paint_new (Nat.le_refl _)⟩
/-- Since w0 nothing that was there was written, and nobody owns it. -/
structure Run (w0 w : World) (O : Paint) : Prop where
  below : Below w0.heap.size w0 w
  clear : Clear w0.heap.size O
theorem Run.start (w : World) : Run w w (fun _ => 0) := ⟨Below.refl _ _, fun _ _ => rfl⟩
theorem Run.step {w0 w w' : World} {O O' : Paint} {cs : List Nat} (h : Run w0 w O) (hs : Step cs w O w' O') (h0 : 0 ∉ cs) : Run w0 w' O' :=
  ⟨h.clear.below hs h0 h.below.size h.below, h.clear.step hs h.below.size⟩
end Go.Proofs.Yteacmcckhjabmaa
namespace Go.Proofs.Yteacmcckhjabmaa.Rc
open Go.RowKit
theorem k_bits : (Dec.read (Enc.start.bit 1024 1).bytes).bitOf 1024 = 1 ∧ learn 1024 1 = 992 ∧ ((Dec.read (Enc.start.bit 1024 1).bytes).getBit 1024).done = true ∧ ((Dec.read (Enc.start.bit 1024 1).bytes).getBit 1024).bad = false := by decide +kernel
theorem k_bytes : Enc.start.bytes = [0, 0, 0, 0, 0] := by decide +kernel
end Go.Proofs.Yteacmcckhjabmaa.Rc
end
