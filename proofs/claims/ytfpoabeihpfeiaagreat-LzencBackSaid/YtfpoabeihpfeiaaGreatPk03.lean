/-
  Contracts of the developers' decoder of layer 3: what a decoder is in memory ('DecRaw'), the next byte, the turns.
  Contracts of the developers' decoder of layer 3, more: NewDecoder, Bad, Done, Bit; and of none.
  Contracts of the developers' decoder of layer 3, more: Direct, Where, Take; and of none.
  Layer 3's statements: their first lines (speaks) return true; the part of a step.
-/
import Derived.Test.YtfpoabeihpfeiaaGreatPk01
import Derived.Test.YtfpoabeihpfeiaaGreatPk02
import Derived.Deep.RegionWith
import Derived.Deep.LoopGhost
set_option maxRecDepth 100000
set_option maxHeartbeats 16000000
set_option linter.unusedVariables false
set_option linter.unusedSimpArgs false
open Go.Lib (hid)
section
namespace Go.Proofs.YtfpoabeihpfeiaaGreat.Rc
open Go.RowKit
def DecRaw (w : World) (O : Paint) (c a : Nat) (d : Dec) (tot : Nat) : Prop := ∃ (s : ByteArray) (r : Nat),
 Blk w O c a (.cells #[.string s, .int .i64 r, .int .u32 d.code, .int .u32 d.size, .int .u32 tot, .bool d.bad] 126 (0, 0)) /\ d.rest = s.data.toList.drop r /\ r <= s.size /\ s.size <= 1000000000000
def DecAt (w : World) (O : Paint) (c a : Nat) (d : Dec) (tot : Nat) : Prop := DecRaw w O c a d tot /\ FineD d
theorem DecRaw.step {cs : List Nat} {w w' : World} {O O' : Paint} {c a tot : Nat} {d : Dec} (h : DecRaw w O c a d tot) (hs : Step cs w O w' O') (hc : c ∉ cs) : DecRaw w' O' c a d tot := by
 obtain ⟨s, r, h1, h2⟩ := h
 exact ⟨s, r, h1.step hs hc, h2⟩
theorem DecAt.step {cs : List Nat} {w w' : World} {O O' : Paint} {c a tot : Nat} {d : Dec} (h : DecAt w O c a d tot) (hs : Step cs w O w' O') (hc : c ∉ cs) : DecAt w' O' c a d tot := ⟨h.1.step hs hc, h.2⟩
theorem six {w : World} {X : Nat} {a b c d e f : Value} {t : TypeId} (h : w.heap[X]? = some (.cells #[a, b, c, d, e, f] t (0, 0))) :
  (w.cell? ⟨X, 0, none⟩ = some a /\ w.cell? ⟨X, 1, none⟩ = some b /\ w.cell? ⟨X, 2, none⟩ = some c /\ w.cell? ⟨X, 3, none⟩ = some d /\ w.cell? ⟨X, 4, none⟩ = some e /\ w.cell? ⟨X, 5, none⟩ = some f) /\
  (w.frozen? ⟨X, 0, none⟩ = false /\ w.frozen? ⟨X, 1, none⟩ = false /\ w.frozen? ⟨X, 2, none⟩ = false /\ w.frozen? ⟨X, 3, none⟩ = false /\ w.frozen? ⟨X, 4, none⟩ = false /\ w.frozen? ⟨X, 5, none⟩ = false) := by
 refine ⟨⟨?_, ?_, ?_, ?_, ?_, ?_⟩, ?_, ?_, ?_, ?_, ?_, ?_⟩ <;> simp [World.cell?, World.frozen?, h]
def Nexts (w : World) (O : Paint) (c a tot : Nat) (d : Dec) (x : Ending) (w' : World) : Prop := x = .returned (.int .u32 d.byte) /\ Step [c] w O w' O /\ DecRaw w' O c a d.next tot
theorem decnext {w : World} {O : Paint} {c a tot : Nat} {d : Dec} (h : DecRaw w O c a d tot) :
  Calls Tryz.prog 63 #[.pointer (some ⟨a, 0, none⟩)] w (Nexts w O c a tot d) := by
 obtain ⟨s, r, hb, hrest, hr, hs⟩ := h
 obtain ⟨⟨h0, h1, h2, h3, h4, h5⟩, f0, f1, f2, f3, f4, f5⟩ := six hb.1
 have hlt := hb.lt
 by_cases he : r < s.size
 · have hd : d.rest = s[r] :: s.data.toList.drop (r + 1) := by
    rw [hrest, List.drop_eq_getElem_cons (by simpa using he)]; rfl
   have HBY := hid (show d.byte = s[r].toNat by unfold Dec.byte; rw [hd])
   have HNX := hid (show d.next = { d with rest := s.data.toList.drop (r + 1) } by unfold Dec.next; rw [hd])
   have HB := hid hb
   have g1 : ((r : Int) == (s.size : Int)) = false := by rw [beq_eq_false_iff_ne]; omega
   have hxl := s[r].toNat_lt
   clear hb hrest hd h2 h3 h4 h5 f0 f2 f3 f4 f5
   go_enter Tryz.func63, Tryz.ntmps63
   go_wp2
   go_quiet (fail)
   go_wp2
   go_quiet (fail)
   go_wp2
   go_ret
   refine ⟨by rw [HBY.out]; rfl, ((Step.refl [c] w O).drewN _).setCell (p := ⟨a, 1, none⟩) (.inl (by simp [HB.out.2])) _, ?_⟩
   rw [HNX.out]
   refine ⟨s, r + 1, ?_, rfl, he, hs⟩
   simpa using (HB.out.step ((Step.refl [] w O).drewN _) (by simp)).setCell 1 (.int .i64 ((r : Int) + 1))
 · have hd : d.rest = [] := by rw [hrest]; apply List.drop_eq_nil_of_le; simp; omega
   have HBY := hid (show d.byte = 0 by unfold Dec.byte; rw [hd])
   have HNX := hid (show d.next = { d with bad := true } by unfold Dec.next; rw [hd])
   have HB := hid hb
   obtain rfl : r = s.size := by omega
   have HRe := hid hrest
   clear hb hrest hd h2 h3 h4 f0 f1 f2 f3 f4 he
   go_enter Tryz.func63, Tryz.ntmps63
   go_wp2
   go_quiet (fail)
   go_wp2
   go_ret
   refine ⟨by rw [HBY.out]; rfl, ((Step.refl [c] w O).drewN _).setCell (p := ⟨a, 5, none⟩) (.inl (by simp [HB.out.2])) _, ?_⟩
   rw [HNX.out]
   refine ⟨s, s.size, ?_, HRe.out, hr, hs⟩
   simpa using (HB.out.step ((Step.refl [] w O).drewN _) (by simp)).setCell 5 (.bool true)
theorem next_sized (d : Dec) (s : Nat) : ({ d with size := s } : Dec).next = { d.next with size := s } := by
 obtain ⟨rest, code, size, bad⟩ := d
 cases rest <;> rfl
def TurningD (w : World) (O : Paint) (c a tot : Nat) (d : Dec) (r : Nat) (wr : World) : Prop := ∃ d' : Dec, r <= 3 /\ turnDN r d' = wide d /\ RawD d' /\ 16777216 <= d'.size * 256 ^ r /\ DecRaw wr O c a d' tot /\ Step [c] w O wr O
theorem DecRaw.cells {w : World} {O : Paint} {c a tot : Nat} {d : Dec} (h : DecRaw w O c a d tot) : (w.cell? ⟨a, 2, none⟩ = some (.int .u32 d.code) /\ w.cell? ⟨a, 3, none⟩ = some (.int .u32 d.size) /\ w.cell? ⟨a, 4, none⟩ = some (.int .u32 tot) /\ w.cell? ⟨a, 5, none⟩ = some (.bool d.bad)) /\
  (w.frozen? ⟨a, 2, none⟩ = false /\ w.frozen? ⟨a, 3, none⟩ = false /\ w.frozen? ⟨a, 4, none⟩ = false) /\ a < w.heap.size /\ O a = c := by
 obtain ⟨s, r, hb, _⟩ := h
 obtain ⟨⟨h0, h1, h2, h3, h4, h5⟩, f0, f1, f2, f3, f4, f5⟩ := six hb.1
 exact ⟨⟨h2, h3, h4, h5⟩, ⟨f2, f3, f4⟩, hb.lt, hb.2⟩
theorem DecRaw.setCode {w : World} {O : Paint} {c a tot : Nat} {d : Dec} (h : DecRaw w O c a d tot) (x : Nat) : DecRaw (w.setCell ⟨a, 2, none⟩ (.int .u32 x)) O c a { d with code := x } tot /\ Step [c] w O (w.setCell ⟨a, 2, none⟩ (.int .u32 x)) O := by
 obtain ⟨s, r, hb, h2⟩ := h
 exact ⟨⟨s, r, by simpa using hb.setCell 2 (.int .u32 x), h2⟩, (Step.refl [c] w O).setCell (p := ⟨a, 2, none⟩) (.inl (by simp [hb.2])) _⟩
theorem DecRaw.setSize {w : World} {O : Paint} {c a tot : Nat} {d : Dec} (h : DecRaw w O c a d tot) (x : Nat) : DecRaw (w.setCell ⟨a, 3, none⟩ (.int .u32 x)) O c a { d with size := x } tot /\ Step [c] w O (w.setCell ⟨a, 3, none⟩ (.int .u32 x)) O := by
 obtain ⟨s, r, hb, h2⟩ := h
 exact ⟨⟨s, r, by simpa using hb.setCell 3 (.int .u32 x), h2⟩, (Step.refl [c] w O).setCell (p := ⟨a, 3, none⟩) (.inl (by simp [hb.2])) _⟩
theorem DecRaw.setBad {w : World} {O : Paint} {c a tot : Nat} {d : Dec} (h : DecRaw w O c a d tot) (x : Bool) : DecRaw (w.setCell ⟨a, 5, none⟩ (.bool x)) O c a { d with bad := x } tot /\ Step [c] w O (w.setCell ⟨a, 5, none⟩ (.bool x)) O := by
 obtain ⟨s, r, hb, h2⟩ := h
 exact ⟨⟨s, r, by simpa using hb.setCell 5 (.bool x), h2⟩, (Step.refl [c] w O).setCell (p := ⟨a, 5, none⟩) (.inl (by simp [hb.2])) _⟩
theorem DecRaw.other {w : World} {O : Paint} {c a tot : Nat} {d : Dec} (h : DecRaw w O c a d tot) {p : Addr} (hp : O p.block ≠ c) (u : Value) : DecRaw (w.setCell p u) O c a d tot := h.step (Step.store w O p u) (by simpa using Ne.symm hp)
theorem DecRaw.drewN {w : World} {O : Paint} {c a tot : Nat} {d : Dec} (h : DecRaw w O c a d tot) (n : Nat) : DecRaw (w.drewN n) O c a d tot := h.step ((Step.refl [] w O).drewN n) (by simp)
theorem DecRaw.drew {w : World} {O : Paint} {c a tot : Nat} {d : Dec} (h : DecRaw w O c a d tot) : DecRaw w.drew O c a d tot := h.step ((Step.refl [] w O).drew) (by simp)
theorem decturn {w : World} {O : Paint} {c a tot : Nat} {d : Dec} (h : DecRaw w O c a d tot) (hr : RawD d) :
  Calls Tryz.prog 114 #[.pointer (some ⟨a, 0, none⟩)] w fun x w' => x = .returned (.tuple #[]) /\ Step [c] w O w' O /\ DecRaw w' O c a (wide d) tot := by
 have H0 : TurningD w O c a tot d 3 w := ⟨d, by omega, rfl, hr, by have := hr.1; omega, h, Step.refl _ _ _⟩
 have HH := hid H0
 clear H0 h hr
 go_enter Tryz.func114, Tryz.ntmps114
 go_wp2
 go_loopg [6] 3 (fun r _ wr => TurningD w O c a tot d r wr)
 case atStart => exact HH.out
 case round =>
  clear HH
  obtain ⟨D, hr3, ht1, hr1, hs1, hraw, hst⟩ := hrel
  have hz : D.size < 4294967296 := hr1.2.1
  have hz' : 1 <= D.size := hr1.1
  have hz2 : D.code < 4294967296 := hr1.2.2
  obtain ⟨⟨h2, h3, h4, h5⟩, ⟨f2, f3, f4⟩, hlt, hoa⟩ := hraw.cells
  have HRAW := hid hraw
  have HS1 := hid hs1
  have HR1 := hid hr1
  have HR3 := hid hr3
  have HST := hid hst
  clear hs1 hr1 hr3 hraw hst hoa h4 h5 f4
  by_cases hlo : D.size < 16777216
  · have hgk : gk ≠ 0 := by
     rintro rfl
     have := HS1.out
     simp at this; omega
    obtain ⟨r, rfl⟩ : ∃ r, gk = r + 1 := ⟨gk - 1, by omega⟩
    have htn : turnDN r { D.next with size := D.size * 256, code := (256 * D.code + D.byte) % 4294967296 } = wide d := by
     rw [<- ht1, turnDN, turnD_lo _ hlo]
    have HTN := hid htn
    have HLO := hid hlo
    obtain ⟨k1, k2⟩ := HRAW.out.setSize (D.size * 256)
    have hmul : ((D.size * 256 : Nat) : Int) = (D.size : Int) * 256 := by omega
    rw [hmul] at k1 k2
    have HK1 := hid (DecRaw.drew k1)
    have HK2 := hid k2
    have hbl := byte_lt D
    have HCO := hid (show (((256 * D.code + D.byte) % 4294967296 : Nat) : Int) = ((D.code : Int) * 256 % 4294967296 + (D.byte : Int)) % 4294967296 by omega)
    have hd : decide ((D.size : Int) < 16777216) = true := by rw [decide_eq_true_iff]; omega
    have hz3 : D.size * 256 < 4294967296 := by omega
    clear ht1 htn hgk k1 k2 hmul hlo
    go_wp2
    go_region_with ((go_at_call 63; refine (decnext (by exact HK1.out)).mono ?_; rintro x w3 ⟨rfl, hst3, hraw3⟩; have HST3 := hid hst3.from_drew; have HRAW3 := hid hraw3; obtain ⟨⟨k2, k3, k4, k5⟩, ⟨l2, l3, l4⟩, hlt3, hoa3⟩ := hraw3.cells; simp only [next_code] at k2; clear hst3 hraw3 hoa3 k3 k4 k5 l3 l4))
    all_goals
     go_wp2
     go_roundg r
     case measure => omega
     case rel =>
      have e : IntKind.u32.wrap (IntKind.u32.wrap ((D.code : Int) * 256) + ((({ rest := D.rest, code := D.code, size := D.size * 256, bad := D.bad } : Dec).byte : Nat) : Int)) = (((256 * D.code + D.byte) % 4294967296 : Nat) : Int) := by
       rw [IntKind.wrap_u32, IntKind.wrap_u32, HCO.out]; rfl
      rw [e]
      obtain ⟨m1, m2⟩ := HRAW3.out.setCode ((256 * D.code + D.byte) % 4294967296)
      have hraw := turnD_raw HR1.out
      rw [turnD_lo _ HLO.out] at hraw
      refine ⟨_, by have := HR3.out; omega, HTN.out, hraw, ?_, ?_, ((HST.out.trans HK2.out).trans HST3.out).trans m2⟩
      · show 16777216 <= D.size * 256 * 256 ^ r
        rw [Nat.mul_assoc, Nat.mul_comm 256, <- Nat.pow_succ]; exact HS1.out
      · have hn := next_sized D (D.size * 256)
        rw [show ({ rest := D.rest, code := D.code, size := D.size * 256, bad := D.bad } : Dec) = { D with size := D.size * 256 } from rfl, hn] at m1
        exact m1
  · have hd : decide ((D.size : Int) < 16777216) = false := by rw [decide_eq_false_iff_not]; omega
    have hk := turnDN_keep gk (e := D) (by omega)
    rw [hk] at ht1
    have HT := hid ht1
    clear ht1 hk hlo hz hz'
    go_wp2
    first | go_end0 | (simp only [Exit.inBlock, Exit.then]; refine bodyPost_ret (results_none rfl _ _ _) rfl ?_) | refine bodyPost_ret (results_none rfl _ _ _) rfl ?_
    exact ⟨rfl, HST.out, by rw [<- HT.out]; exact HRAW.out⟩
end Go.Proofs.YtfpoabeihpfeiaaGreat.Rc
end
section
namespace Go.Proofs.YtfpoabeihpfeiaaGreat.Rc
open Go.RowKit
theorem step_bad (d : Dec) : stepD { d with bad := true } = { stepD d with bad := true } := by
 obtain ⟨rest, code, size, bad⟩ := d
 cases rest <;> rfl
theorem readN_bad (n : Nat) (d : Dec) : readN n { d with bad := true } = { readN n d with bad := true } := by
 induction n with
 | zero => rfl
 | succ n ih => rw [readN, ih, step_bad]; rfl
theorem read_eq (s : List UInt8) : Dec.read s = readN 4 (if (Dec.fresh s).byte = 0 then (Dec.fresh s).next else { (Dec.fresh s).next with bad := true }) := by
 unfold Dec.read
 split
 · rfl
 · exact (readN_bad 4 _).symm
theorem newdec_fresh (s : ByteArray) (hs : s.size <= 1000000000000) (w : World) (O : Paint) (c : Nat) (hO : ∀ k, k < w.heap.size -> O k ≠ c) :
  Calls Tryz.prog 42 #[.string s] w fun x w' => x = .returned (.pointer (some ⟨w.heap.size, 0, none⟩)) /\ Step [] w O w' (Step.paint O w c) /\ DecRaw w' (Step.paint O w c) c w.heap.size (Dec.read s.data.toList) 0 := by
 have H0 : DecRaw (w.alloc (.cells #[.string s, .int .i64 0, .int .u32 0, .int .u32 4294967295, .int .u32 0, .bool false] 126)) (Step.paint O w c) c w.heap.size (Dec.fresh s.data.toList) 0 :=
  ⟨s, 0, ⟨heap_alloc_new w _, Step.paint_new (Nat.le_refl _)⟩, rfl, Nat.zero_le _, hs⟩
 have HS0 := hid (show Step [] w O (w.alloc (.cells #[.string s, .int .i64 0, .int .u32 0, .int .u32 4294967295, .int .u32 0, .bool false] 126)) (Step.paint O w c) from (((Step.refl [] w O).alloc _).repaint c))
 have hsz : (w.alloc (.cells #[.string s, .int .i64 0, .int .u32 0, .int .u32 4294967295, .int .u32 0, .bool false] 126)).heap.size = w.heap.size + 1 := World.size_alloc _ _
 have HRE := hid (read_eq s.data.toList)
 have HH := hid H0
 have HOF := hid (show ∀ k, k < w.heap.size -> Step.paint O w c k ≠ c from fun k hk => by rw [Step.paint_old hk]; exact hO k hk)
 clear H0 hO
 go_enter Tryz.func42, Tryz.ntmps42
 go_wp2_with fail
 have hw0 : w.heap.size < (w.alloc (.cells #[.string s, .int .i64 0, .int .u32 0, .int .u32 4294967295, .int .u32 0, .bool false] 126)).heap.size := by omega
 generalize w.alloc (.cells #[.string s, .int .i64 0, .int .u32 0, .int .u32 4294967295, .int .u32 0, .bool false] 126) = W0 at *
 generalize hOO : Step.paint O w c = O1 at *
 have HOO := hid hOO
 clear hOO hsz
 generalize hA : w.heap.size = a at *
 have HA := hid hA
 clear hA
 have hcode := hid (show (Dec.fresh s.data.toList).next.code = 0 by rw [next_code]; rfl)
 refine (decnext HH.out).mono ?_
 rintro x W1 ⟨rfl, hst1, hraw1⟩
 have HST1 := hid hst1
 have hblt := byte_lt (Dec.fresh s.data.toList)
 obtain ⟨⟨k2, k3, k4, k5⟩, ⟨l2, l3, l4⟩, hlt1, hoa1⟩ := hraw1.cells
 have l5 : W1.frozen? ⟨a, 5, none⟩ = false := by obtain ⟨s', r', hb', _⟩ := hraw1; exact hb'.free 5
 have HRAW1 := hid hraw1
 clear hst1 hraw1 hoa1 HH k2 k3 k4 l2 l3 l4
 generalize (Dec.fresh s.data.toList).byte = b at *
 generalize (Dec.fresh s.data.toList).next = D1 at *
 have hbI : ((b : Int) != 0) = !(decide (b = 0)) := by
  by_cases h : b = 0
  · simp [h]
  · simp [h]
 by_cases hb : b = 0
 focus
  subst hb
  rw [if_pos rfl] at HRE
  have HS := hid HST1.out
  have HR := hid HRAW1.out
  have HC := hid hcode.out
  clear hcode HRAW1 HST1 k5 l5 hbI
  go_wp2
  generalize D1 = D2 at *
  generalize W1 = W2 at *
 rotate_left
 focus
  rw [if_neg hb] at HRE
  simp only [hb, decide_false, Bool.not_false] at hbI
  obtain ⟨m1, m2⟩ := HRAW1.out.setBad true
  obtain ⟨D2, hD2⟩ : ∃ D2 : Dec, D2 = { D1 with bad := true } := ⟨_, rfl⟩
  have HS := hid (HST1.out.trans m2)
  rw [<- hD2] at m1 HRE
  have HR := hid m1
  have HC := hid (show D2.code = 0 by rw [hD2]; exact hcode.out)
  clear hcode HRAW1 HST1 m1 m2 hD2
  go_wp2
  clear k5 l5 hbI hb
  generalize W1.setCell ⟨a, 5, none⟩ (.bool true) = W2 at *
 all_goals
  have HCD := hid (fun n => readN_code n D2 HC.out)
  go_loopw [13] (fun i wr => ∃ k : Nat, k <= 4 /\ i = .int .i64 k /\ DecRaw wr O1 c a (readN k D2) 0 /\ Step [c] W0 O1 wr O1) (fun i _ => 4 - (intOf i).toNat)
  case atStart => exact ⟨0, by omega, rfl, HR.out, HS.out⟩
  case round =>
   clear HR HS hlt1
   obtain ⟨k, hk, rfl, hraw, hst⟩ := hrel
   by_cases hlt : k < 4
   · have hcd : (readN k D2).code < 16777216 := Nat.lt_of_lt_of_le (HCD.out k) (Nat.le_trans (Nat.pow_le_pow_right (by omega) (by omega : k <= 3)) (by omega))
     have HSTP := hid (show readN (k + 1) D2 = { (readN k D2).next with code := 256 * (readN k D2).code + (readN k D2).byte } from rfl)
     generalize readN k D2 = D at *
     have hby := byte_lt D
     obtain ⟨⟨h2, h3, h4, h5⟩, ⟨f2, f3, f4⟩, hlt2, hoa2⟩ := hraw.cells
     have HRAW := hid hraw.drew
     have HST := hid hst
     clear hraw hst hoa2 h3 h4 h5 f3 f4
     have HCO := hid (show ((D.code : Int) * 256 % 4294967296 + (D.byte : Int)) % 4294967296 = ((256 * D.code + D.byte : Nat) : Int) by omega)
     clear hcd
     go_wp2
     go_region_with ((go_at_call 63; refine (decnext (by exact HRAW.out)).mono ?_; rintro x w3 ⟨rfl, hst3, hraw3⟩; have HST3 := hid hst3.from_drew; have HRAW3 := hid hraw3; obtain ⟨⟨k2, k3, k4, k5⟩, ⟨l2, l3, l4⟩, hlt3, hoa3⟩ := hraw3.cells; simp only [next_code] at k2; clear hst3 hraw3 hoa3 k3 k4 k5 l3 l4))
     all_goals
      go_wp2
      go_roundw
      case rel =>
       first | rw [HCO.out] | (rw [IntKind.wrap_u32, IntKind.wrap_u32, HCO.out])
       obtain ⟨m1, m2⟩ := HRAW3.out.setCode (256 * D.code + D.byte)
       exact ⟨k + 1, by omega, by go_num, by rw [HSTP.out]; exact m1, (HST.out.trans HST3.out).trans m2⟩
      case measure => simp [intOf]; omega
   · obtain rfl : k = 4 := by omega
     have HRAW := hid hraw
     have HST := hid hst
     clear hraw hst
     go_wp2
     go_ret
     refine ⟨by rw [HA.out]; rfl, ?_, by rw [HOO.out, HRE.out, HA.out]; exact HRAW.out⟩
     rw [HOO.out]
     refine ⟨⟨HST.out.frame.os.trans HS0.out.frame.os, HST.out.frame.tape.trans HS0.out.frame.tape, HST.out.frame.output.trans HS0.out.frame.output, Nat.le_trans HS0.out.size HST.out.size, fun k hk _ => ?_⟩, HS0.out.ext⟩
     rw [HST.out.block (Nat.lt_of_lt_of_le hk HS0.out.size) (by rw [List.mem_singleton]; exact HOF.out k (by rw [<- HA.out]; exact hk)), HS0.out.block hk (by simp)]
theorem newdec (s : ByteArray) (hs : s.size <= 1000000000000) (w : World) (O : Paint) (c : Nat) :
  Calls Tryz.prog 42 #[.string s] w fun x w' => x = .returned (.pointer (some ⟨w.heap.size, 0, none⟩)) /\ ∃ O', Step [] w O w' O' /\ DecAt w' O' c w.heap.size (Dec.read s.data.toList) 0 := by
 refine (newdec_fresh s hs w (fun _ => c + 1) c (fun _ _ => by omega)).mono fun x w' ⟨h1, h2, h3⟩ => ⟨h1, Step.paint O w c, ⟨⟨h2.frame.os, h2.frame.tape, h2.frame.output, h2.size, fun k hk _ => h2.block hk (by simp)⟩, fun k hk => Step.paint_old hk⟩, ?_, fine_read _⟩
 obtain ⟨s', r, hb, hr⟩ := h3
 exact ⟨s', r, ⟨hb.1, Step.paint_new (Nat.le_refl _)⟩, hr⟩
theorem dec_bad {w : World} {O : Paint} {c a tot : Nat} {d : Dec} (h : DecAt w O c a d tot) : Calls Tryz.prog 112 #[.pointer (some ⟨a, 0, none⟩)] w fun x w' => x = .returned (.bool d.bad) /\ w = w' := by
 obtain ⟨⟨h2, h3, h4, h5⟩, _, _, _⟩ := h.1.cells
 clear h h2 h3 h4
 go_enter Tryz.func112, Tryz.ntmps112
 go_wp2
 go_ret
 exact ⟨rfl, rfl⟩
def Dec.done (d : Dec) : Bool := d.rest.isEmpty && d.code == 0
theorem dec_done {w : World} {O : Paint} {c a tot : Nat} {d : Dec} (h : DecAt w O c a d tot) : Calls Tryz.prog 113 #[.pointer (some ⟨a, 0, none⟩)] w fun x w' => x = .returned (.bool d.done) /\ ∃ n, w' = w.drewN n := by
 obtain ⟨⟨s, r, hb, hrest, hr, hs⟩, hf⟩ := h
 obtain ⟨⟨h0, h1, h2, h3, h4, h5⟩, f0, f1, f2, f3, f4, f5⟩ := six hb.1
 have hlt := hb.lt
 have hcd : d.code < 4294967296 := hf.2.2
 by_cases he : r = s.size
 · subst he
   have hd : d.rest = [] := by rw [hrest]; apply List.drop_eq_nil_of_le; simp
   have HD := hid (show d.done = (d.code == 0) by unfold Dec.done; rw [hd]; rfl)
   clear hb hrest hr hf hd h3 h4 h5 f0 f1 f2 f3 f4 f5
   have hI : ((d.code : Int) == 0) = (d.code == 0) := by rw [Bool.eq_iff_iff]; simp only [beq_iff_eq]; omega
   go_enter Tryz.func113, Tryz.ntmps113
   go_wp2
   go_quiet (fail)
   go_wp2
   go_ret
   exact ⟨ret_bool (by rw [HD.out, <- hI]), _, rfl⟩
 · have hne : d.rest.isEmpty = false := by rw [hrest]; simp; omega
   have HD := hid (show d.done = false by unfold Dec.done; rw [hne]; rfl)
   have hI : ((r : Int) == (s.size : Int)) = false := by rw [beq_eq_false_iff_ne]; omega
   clear hb hrest hf h3 h4 h5 f0 f1 f2 f3 f4 f5 hne
   go_enter Tryz.func113, Tryz.ntmps113
   go_wp2
   go_quiet (fail)
   go_wp2
   go_ret
   exact ⟨ret_bool (by rw [HD.out]), _, rfl⟩
def BittenD (w : World) (O : Paint) (c a tot : Nat) (q : Addr) (p : Nat) (d : Dec) (x : Ending) (w' : World) : Prop :=
 x = .returned (.int .i64 ((d.bitOf p : Nat) : Int)) /\ Step [c] (w.setCell q (.int .u16 ((learn p (d.bitOf p) : Nat) : Int))) O w' O /\ DecAt w' O c a (d.getBit p) tot
theorem decbit0 {w : World} {O : Paint} {c a tot : Nat} {d : Dec} {q : Addr} {p : Nat} (h : DecAt w O c a d tot) (hq : w.cell? q = some (.int .u16 p)) (hf : w.frozen? q = false) (hO : O q.block ≠ c) (h1 : 1 <= p) (h2 : p <= 2047) (hB : d.code < d.size / 2048 * p) :
  Calls Tryz.prog 144 #[.pointer (some ⟨a, 0, none⟩), .pointer (some q)] w (BittenD w O c a tot q p d) := by
 obtain ⟨hraw, hfine⟩ := h
 have hb := getBit_raw hfine h1 h2
 rw [if_pos hB] at hb
 have HRAW := hid hraw
 have HF := hid (fine_getBit hfine h1 h2)
 have HBE := hid (show d.getBit p = wide { d with size := d.size / 2048 * p } by unfold Dec.getBit; rw [if_pos hB])
 have HBO := hid (show d.bitOf p = 0 by unfold Dec.bitOf; rw [if_pos hB])
 have HBD := hid (fun W => border_any d.size p W hfine.2.1 h2)
 obtain ⟨⟨hc2, hc3, _, _⟩, ⟨hf2, hf3, _⟩, hal, hoa⟩ := hraw.cells
 have HO := hid hO
 have hne : q.block ≠ a := fun e1 => hO (by rw [e1]; exact hoa)
 generalize d.size / 2048 * p = B at *
 have HB := hid hb
 have hd : decide (d.code < B) = true := by simpa using hB
 clear hraw hfine hb hoa hO hB
 go_enter Tryz.func144, Tryz.ntmps144
 go_wp2_with fail
 refine (isprob_any hq h1 h2).mono ?_
 rintro x w1 ⟨rfl, rfl⟩
 go_wp2_with fail
 go_quiet ((go_at_call 130; exact Calls.quiet_of_same (still (HBD.out _))))
 go_wp2_with fail
 obtain ⟨k1, k2⟩ := (HRAW.out.drewN nq).setSize B
 have hS : Step [c] w O ((w.drewN nq).setCell ⟨a, 3, none⟩ (.int .u32 B)) O := k2.from_drewN
 obtain ⟨c1, c2⟩ := EncRaw.apart hS HO.out hq hf
 generalize (w.drewN nq).setCell ⟨a, 3, none⟩ (.int .u32 B) = W1 at *
 refine (learn_dev c1 c2 h1 h2 (b := 0) (by omega)).mono ?_
 rintro x w2 ⟨rfl, rfl⟩
 have k3 := (k1.other HO.out (.int .u16 ((learn p 0 : Nat) : Int))).drew
 have hS2 := (hS.setCell_both (p := q) (by simpa using HO.out) (.int .u16 ((learn p 0 : Nat) : Int))).drew
 generalize (W1.setCell q (.int .u16 ((learn p 0 : Nat) : Int))).drew = W2 at *
 have K3 := hid k3
 have HS2 := hid hS2
 clear k1 k2 k3 hS hS2 c1 c2
 go_wp2_with fail
 refine (decturn K3.out HB.out).mono ?_
 rintro x w3 ⟨rfl, hst, hen⟩
 have HST := hid hst
 have HEN := hid hen
 clear hst hen
 go_wp2
 go_ret
 exact ⟨by rw [HBO.out]; rfl, by rw [HBO.out]; exact HS2.out.trans HST.out, by rw [HBE.out]; exact HEN.out, HF.out⟩
theorem decbit1 {w : World} {O : Paint} {c a tot : Nat} {d : Dec} {q : Addr} {p : Nat} (h : DecAt w O c a d tot) (hq : w.cell? q = some (.int .u16 p)) (hf : w.frozen? q = false) (hO : O q.block ≠ c) (h1 : 1 <= p) (h2 : p <= 2047) (hB : ¬ d.code < d.size / 2048 * p) :
  Calls Tryz.prog 144 #[.pointer (some ⟨a, 0, none⟩), .pointer (some q)] w (BittenD w O c a tot q p d) := by
 obtain ⟨hraw, hfine⟩ := h
 have hb := getBit_raw hfine h1 h2
 rw [if_neg hB] at hb
 have hbl := bound_lt hfine.1 h2
 have hsz := hfine.2.1
 have hcz := hfine.2.2
 have HRAW := hid hraw
 have HF := hid (fine_getBit hfine h1 h2)
 have HBE := hid (show d.getBit p = wide { d with code := d.code - d.size / 2048 * p, size := d.size - d.size / 2048 * p } by unfold Dec.getBit; rw [if_neg hB])
 have HBO := hid (show d.bitOf p = 1 by unfold Dec.bitOf; rw [if_neg hB])
 have HBD := hid (fun W => border_any d.size p W hfine.2.1 h2)
 obtain ⟨⟨hc2, hc3, _, _⟩, ⟨hf2, hf3, _⟩, hal, hoa⟩ := hraw.cells
 have HO := hid hO
 have hne : q.block ≠ a := fun e1 => hO (by rw [e1]; exact hoa)
 generalize d.size / 2048 * p = B at *
 have HB := hid hb
 have hd : decide (d.code < B) = false := by simpa using hB
 have g1 : (B : Int) <= (d.code : Int) := by omega
 have g2 : (B : Int) < (d.size : Int) := by omega
 have g3 : (d.size : Int) < 4294967296 := by omega
 have g4 : (d.code : Int) < 4294967296 := by omega
 have HC := hid (show (d.code : Int) - (B : Int) = ((d.code - B : Nat) : Int) by omega)
 have HZ := hid (show (d.size : Int) - (B : Int) = ((d.size - B : Nat) : Int) by omega)
 clear hraw hfine hb hoa hO hB
 go_enter Tryz.func144, Tryz.ntmps144
 go_wp2_with fail
 refine (isprob_any hq h1 h2).mono ?_
 rintro x w1 ⟨rfl, rfl⟩
 go_wp2_with fail
 go_quiet ((go_at_call 130; exact Calls.quiet_of_same (still (HBD.out _))))
 go_wp2_with fail
 rw [HC.out, HZ.out]
 obtain ⟨j1, j2⟩ := (HRAW.out.drewN nq).setCode (d.code - B)
 obtain ⟨k1, k2⟩ := j1.setSize (d.size - B)
 have hS : Step [c] w O (((w.drewN nq).setCell ⟨a, 2, none⟩ (.int .u32 ((d.code - B : Nat) : Int))).setCell ⟨a, 3, none⟩ (.int .u32 ((d.size - B : Nat) : Int))) O := (j2.trans k2).from_drewN
 obtain ⟨c1, c2⟩ := EncRaw.apart hS HO.out hq hf
 generalize ((w.drewN nq).setCell ⟨a, 2, none⟩ (.int .u32 ((d.code - B : Nat) : Int))).setCell ⟨a, 3, none⟩ (.int .u32 ((d.size - B : Nat) : Int)) = W1 at *
 refine (learn_dev c1 c2 h1 h2 (b := 1) (by omega)).mono ?_
 rintro x w2 ⟨rfl, rfl⟩
 have k3 := (k1.other HO.out (.int .u16 ((learn p 1 : Nat) : Int))).drew
 have hS2 := (hS.setCell_both (p := q) (by simpa using HO.out) (.int .u16 ((learn p 1 : Nat) : Int))).drew
 generalize (W1.setCell q (.int .u16 ((learn p 1 : Nat) : Int))).drew = W2 at *
 have K3 := hid k3
 have HS2 := hid hS2
 clear k1 k2 k3 hS hS2 c1 c2 j1 j2
 go_wp2_with fail
 refine (decturn K3.out HB.out).mono ?_
 rintro x w3 ⟨rfl, hst, hen⟩
 have HST := hid hst
 have HEN := hid hen
 clear hst hen
 go_wp2
 go_ret
 exact ⟨by rw [HBO.out]; rfl, by rw [HBO.out]; exact HS2.out.trans HST.out, by rw [HBE.out]; exact HEN.out, HF.out⟩
theorem decbit {w : World} {O : Paint} {c a tot : Nat} {d : Dec} {q : Addr} {p : Nat} (h : DecAt w O c a d tot) (hq : w.cell? q = some (.int .u16 p)) (hf : w.frozen? q = false) (hO : O q.block ≠ c) (h1 : 1 <= p) (h2 : p <= 2047) :
  Calls Tryz.prog 144 #[.pointer (some ⟨a, 0, none⟩), .pointer (some q)] w (BittenD w O c a tot q p d) := by
 by_cases hB : d.code < d.size / 2048 * p
 · exact decbit0 h hq hf hO h1 h2 hB
 · exact decbit1 h hq hf hO h1 h2 hB
end Go.Proofs.YtfpoabeihpfeiaaGreat.Rc
end
section
namespace Go.Proofs.YtfpoabeihpfeiaaGreat.Rc
open Go.RowKit
def DirectingD (w : World) (O : Paint) (c a tot : Nat) (d : Dec) (wr : World) : Prop := Step [c] w O wr O /\ DecAt wr O c a d tot
theorem decdirect {w : World} {O : Paint} {c a tot : Nat} {d : Dec} (h : DecAt w O c a d tot) (n : Nat) (hn : n <= 32) :
  Calls Tryz.prog 145 #[.pointer (some ⟨a, 0, none⟩), .int .i64 n] w fun x w' => x = .returned (.int .u32 (((gotN d n).2 : Nat) : Int)) /\ Step [c] w O w' O /\ DecAt w' O c a (gotN d n).1 tot := by
 have H0 := hid h
 have HF := hid (fine_gotN h.2)
 have HL := hid (gotN_lt d)
 clear h
 go_enter Tryz.func145, Tryz.ntmps145
 go_wp2
 go_loopw [5, 13] (fun v i wr => ∃ k : Nat, k <= n /\ i = .int .i64 k /\ v = .int .u32 (((gotN d k).2 : Nat) : Int) /\ DirectingD w O c a tot (gotN d k).1 wr) (fun _ i _ => n - (intOf i).toNat)
 case atStart => exact ⟨0, by omega, rfl, rfl, Step.refl _ _ _, H0.out⟩
 case round =>
  clear H0
  obtain ⟨k, hk, rfl, rfl, hst, hen⟩ := hrel
  by_cases hlt : k < n
  · have HS1 := hid (show (gotN d (k + 1)).1 = (gotN d k).1.getDirect from rfl)
    have HS2 := hid (show (gotN d (k + 1)).2 = 2 * (gotN d k).2 + (gotN d k).1.directOf from rfl)
    have hvl : (gotN d k).2 < 2147483648 := Nat.lt_of_lt_of_le (HL.out k) (Nat.le_trans (Nat.pow_le_pow_right (by omega) (by omega : k <= 31)) (by omega))
    generalize (gotN d k).2 = v at *
    generalize (gotN d k).1 = D at *
    obtain ⟨hraw, hfine⟩ := hen
    obtain ⟨⟨hc2, hc3, _, _⟩, ⟨hf2, hf3, _⟩, hal, hoa⟩ := hraw.cells
    have hsz : D.size < 4294967296 := hfine.2.1
    have hcz : D.code < 4294967296 := hfine.2.2
    have HRB := getDirect_raw hfine
    have HFD := hid (fine_getDirect hfine)
    obtain ⟨j1, j2⟩ := hraw.setSize (D.size / 2)
    have hdiv : ((D.size / 2 : Nat) : Int) = (D.size : Int) / 2 := by simp
    rw [hdiv] at j1 j2
    have J1 := hid j1
    have J2 := hid j2
    have HST := hid hst
    clear hraw hfine hoa hst j1 j2 hdiv
    by_cases hB : D.code < D.size / 2
    · rw [if_pos hB] at HRB
      have HRB' := hid HRB
      have HGE := hid (show D.getDirect = wide { D with size := D.size / 2 } by unfold Dec.getDirect; rw [if_pos hB])
      have HOF := hid (show D.directOf = 0 by unfold Dec.directOf; rw [if_pos hB])
      clear HRB
      go_wp2
      generalize wr.setCell ⟨a, 3, none⟩ (.int .u32 ((D.size : Int) / 2)) = W1 at *
      obtain ⟨⟨m2, m3, _, _⟩, ⟨n2, n3, _⟩, hal1, _⟩ := J1.out.cells
      simp only at m2 m3
      have hd : decide (D.size / 2 <= D.code) = false := by rw [decide_eq_false_iff_not]; omega
      clear hc2 hc3 hf2 hf3 hB
      generalize D.size / 2 = Z at *
      go_quiet (fail)
      go_wp2_with fail
      refine (decturn (J1.out.drewN _) HRB'.out).mono ?_
      rintro x w3 ⟨rfl, hst3, hen3⟩
      have HST3 := hid hst3.from_drewN
      have HEN3 := hid hen3
      clear hst3 hen3
      go_wp2
      go_roundw
      case rel => exact ⟨k + 1, by omega, by go_num, by rw [HS2.out, HOF.out]; go_num, (HST.out.trans J2.out).trans HST3.out, by rw [HS1.out, HGE.out]; exact HEN3.out, by rw [HS1.out]; exact HFD.out⟩
      case measure => simp [intOf]; omega
    · rw [if_neg hB] at HRB
      have HRB' := hid HRB
      have HGE := hid (show D.getDirect = wide { D with code := D.code - D.size / 2, size := D.size / 2 } by unfold Dec.getDirect; rw [if_neg hB])
      have HOF := hid (show D.directOf = 1 by unfold Dec.directOf; rw [if_neg hB])
      clear HRB
      go_wp2
      generalize wr.setCell ⟨a, 3, none⟩ (.int .u32 ((D.size : Int) / 2)) = W1 at *
      obtain ⟨⟨m2, m3, _, _⟩, ⟨n2, n3, _⟩, hal1, _⟩ := J1.out.cells
      simp only at m2 m3
      have hd : decide (D.size / 2 <= D.code) = true := by rw [decide_eq_true_iff]; omega
      clear hc2 hc3 hf2 hf3
      generalize D.size / 2 = Z at *
      have g1 : (Z : Int) <= (D.code : Int) := by omega
      have HC := hid (show (D.code : Int) - (Z : Int) = ((D.code - Z : Nat) : Int) by omega)
      have e4 : IntKind.u32.wrap ((D.code : Int) - (Z : Int)) = (D.code : Int) - (Z : Int) := IntWalk.u32_in _ (by omega)
      clear hB
      go_quiet (fail)
      go_wp2
      go_region
      all_goals
       clear e4
       go_wp2_with fail
       rw [HC.out]
       obtain ⟨o1, o2⟩ := (J1.out.drewN (nq + 1)).setCode (D.code - Z)
       have O2 := hid o2.from_drewN
       refine (decturn o1 HRB'.out).mono ?_
       clear o1 o2
       rintro x w3 ⟨rfl, hst3, hen3⟩
       have HST3 := hid hst3
       have HEN3 := hid hen3
       clear hst3 hen3
       go_wp2
       go_roundw
       case rel => exact ⟨k + 1, by omega, by go_num, by rw [HS2.out, HOF.out]; go_num, ((HST.out.trans J2.out).trans O2.out).trans HST3.out, by rw [HS1.out, HGE.out]; exact HEN3.out, by rw [HS1.out]; exact HFD.out⟩
       case measure => simp [intOf]; omega
  · obtain rfl : k = n := by omega
    have HST := hid hst
    have HEN := hid hen
    clear hst hen
    go_wp2
    go_ret
    exact ⟨rfl, HST.out, HEN.out⟩
end Go.Proofs.YtfpoabeihpfeiaaGreat.Rc
end
section
namespace Go.Proofs.YtfpoabeihpfeiaaGreat
open Go.RowKit
theorem Step.alloc_paint (w : World) (O : Paint) (c : Nat) (o : Obj) : Step [] w O (w.alloc o) (Step.paint O w c) := ((Step.refl [] w O).alloc o).repaint c
theorem Blk.new (w : World) (O : Paint) (c : Nat) (o : Obj) : Blk (w.alloc o) (Step.paint O w c) c w.heap.size o := ⟨heap_alloc_new w o, Step.paint_new (Nat.le_refl _)⟩
structure Run (w0 w : World) (O : Paint) : Prop where
 below : Below w0.heap.size w0 w
 clear : Clear w0.heap.size O
theorem Run.start (w : World) : Run w w (fun _ => 0) := ⟨Below.refl _ _, fun _ _ => rfl⟩
theorem Run.step {w0 w w' : World} {O O' : Paint} {cs : List Nat} (h : Run w0 w O) (hs : Step cs w O w' O') (h0 : 0 ∉ cs) : Run w0 w' O' :=
 ⟨h.clear.below hs h0 h.below.size h.below, h.clear.step hs h.below.size⟩
end Go.Proofs.YtfpoabeihpfeiaaGreat
namespace Go.Proofs.YtfpoabeihpfeiaaGreat.Rc
open Go.RowKit
end Go.Proofs.YtfpoabeihpfeiaaGreat.Rc
end
