/-
  The walk of the statement PacketApplies: for every list and every bound it returns true, and writes nothing that was there.
-/
import Derived.Test.YthejbnodalnnpaaPackAppliesBase
import Derived.Deep.QuietTactic
import Derived.BigQuiet
namespace Go.Proofs.Ythejbnodalnnpaa.Pk
open Go.RowKit
set_option maxRecDepth 100000 in
set_option maxHeartbeats 4000000 in
theorem applies_walk (a0 : Option Addr) (len cap : Nat) (m : Int) (w : World) (ps : List Pt) (hps : ps.length = min len 60) (hpb : ∀ p ∈ ps, p.b < 256) (hlen : len ≤ maxLen) (h : IsPts w a0 ps) (hm : m ≤ 9223372036854775807) :
    Calls Try.prog 5 #[.slice a0 len cap, .int .i64 m] w fun x w' => x = .returned (.bool true) ∧ Below w.heap.size w w' := by
  have HIP := Lib.hid h
  have HPS := Lib.hid hps
  have HPB := Lib.hid hpb
  have h60 : ps.length ≤ 60 := by omega
  unfold maxLen at hlen
  clear h hps hpb
  go_enter Try.func5, Try.ntmps5
  go_wp2_with fail
  refine (speaks6 w repeat_pp).mono ?_
  rintro x w1 ⟨rfl, hb1⟩
  have HB1 := Lib.hid hb1
  have HT := Lib.hid (told_any (cap := cap) HPS.out (by omega) (HIP.out.below hb1))
  clear hb1
  go_wp2_with fail
  refine HT.out.mono ?_
  rintro x w2 ⟨va, vb, rfl, hT⟩
  clear HT HIP
  obtain ⟨aa, ca, rfl, hA⟩ := hT.rowA.slice HPB.out
  obtain ⟨ab, cb, rfl, hB⟩ := hT.rowB.slice HPB.out
  have HB2 := Lib.hid (HB1.out.trans (hT.below.mono HB1.out.size))
  have HA := Lib.hid hA
  have HBB := Lib.hid hB
  clear hT hA hB HB1
  have HAP := Lib.hid (apply_any HA.out (by omega) ca m hm)
  go_wp2_with fail
  refine HAP.out.mono ?_
  rintro x w3 ⟨rfl, hb3⟩
  have HB3 := Lib.hid (HB2.out.trans (hb3.mono HB2.out.size))
  have HA3 := Lib.hid (HA.out.below hb3)
  have HBB3 := Lib.hid (HBB.out.below hb3)
  clear hb3 HAP HA HBB HB2
  have HAP := Lib.hid (rapply_any HBB3.out (by omega) cb m hm)
  go_wp2_with fail
  refine HAP.out.mono ?_
  rintro x w4 ⟨rfl, hb4⟩
  have HB4 := Lib.hid (HB3.out.trans (hb4.mono HB3.out.size))
  have HA4 := Lib.hid (HA3.out.below hb4)
  have HBB4 := Lib.hid (HBB3.out.below hb4)
  clear hb4 HAP HA3 HBB3 HB3
  have HX : Hid (∀ t, applyL m.toNat ps [] ⟨1, 1, 1, 1⟩ = (t, 0) → repL ps 0 ⟨1, 1, 1, 1⟩ ⟨1, 1, 1, 1⟩ = rrep ps ⟨1, 1, 1, 1⟩ ⟨1, 1, 1, 1⟩ ∧ applyL m.toNat (repL ps 0 ⟨1, 1, 1, 1⟩ ⟨1, 1, 1, 1⟩) [] ⟨1, 1, 1, 1⟩ = (t, 0)) := Lib.hid fun t ht => rep_same m.toNat t ps [] ⟨1, 1, 1, 1⟩ ⟨1, 1, 1, 1⟩ (by unfold Rp.pos; simp) (by unfold Rp.pos; simp) (by unfold Rp.small; simp) rfl ht
  have HFT : Hid (∀ t, applyL m.toNat ps [] ⟨1, 1, 1, 1⟩ = (t, 0) → ∀ W : World, Below w4.heap.size w4 W → Calls Try.prog 40 #[.slice aa ps.length ca, .slice ab ps.length cb] W fun x w' => x = .returned (.bool true) ∧ Below W.heap.size W w') := Lib.hid fun t ht W hb => fits_law (HA4.out.below hb) (HBB4.out.below hb) h60 ca cb m.toNat t ht
  obtain ⟨⟨t, e⟩, hx⟩ : ∃ x, x = applyL m.toNat ps [] ⟨1, 1, 1, 1⟩ := ⟨_, rfl⟩
  rw [← hx] at HX HFT
  rw [← hx]
  have HXE := Lib.hid hx
  clear hx
  have h1 : ((⟨t.toArray⟩ : ByteArray).toList != (⟨t.toArray⟩ : ByteArray).toList) = false := by simp
  by_cases he : e = 0
  · subst he
    obtain ⟨hrr, hap⟩ := HX.out t rfl
    have HRR := Lib.hid hrr
    have HAPP := Lib.hid hap
    have HFF := Lib.hid (HFT.out t rfl)
    have hrl : (repL ps 0 ⟨1, 1, 1, 1⟩ ⟨1, 1, 1, 1⟩).length = ps.length := by rw [hrr, rrep_length]
    have hrb : ∀ p ∈ repL ps 0 ⟨1, 1, 1, 1⟩ ⟨1, 1, 1, 1⟩, p.b < 256 := by rw [hrr]; exact rrep_bytes ps _ _ HPB.out
    have HRP := Lib.hid (repeat_any HA4.out h60 ca hrb hrl)
    have HRL := Lib.hid hrl
    have HRB := Lib.hid hrb
    clear hrr hap HX HFT hrl hrb
    go_wp2_with fail
    refine HRP.out.mono ?_
    rintro x w5 ⟨Z, rfl, hb5, hI5⟩
    have HB5 := Lib.hid (HB4.out.trans (hb5.mono HB4.out.size))
    have HA5 := Lib.hid (HA4.out.below hb5)
    have HBB5 := Lib.hid (HBB4.out.below hb5)
    have HI5 := Lib.hid hI5
    have HB45 := Lib.hid hb5
    clear hb5 hI5 HRP HB4 HA4 HBB4
    have HAP := Lib.hid (rrepeat_any HBB5.out (by omega) cb)
    go_wp2_with fail
    refine HAP.out.mono ?_
    rintro x w6 ⟨vd, rfl, hP6, hb6⟩
    rw [← HRR.out] at hP6
    obtain ⟨ad, cd, rfl, hD6⟩ := hP6.slice HRB.out
    rw [HRL.out]
    have HB6 := Lib.hid (HB5.out.trans (hb6.mono HB5.out.size))
    have HI6 := Lib.hid (HI5.out.below hb6)
    have HD6 := Lib.hid hD6
    have HB46 := Lib.hid (HB45.out.trans (hb6.mono HB45.out.size))
    clear hb6 hD6 hP6 HAP HB5 HA5 HBB5 HI5 HB45 HRR
    generalize repL ps 0 ⟨1, 1, 1, 1⟩ ⟨1, 1, 1, 1⟩ = qs at *
    have hlq : qs.length ≤ 60 := by rw [HRL.out]; exact h60
    rw [← HRL.out]
    rw [← HRL.out] at HFF
    go_wp2_with fail
    go_loopw [13] (fun i wr => ∃ k n : Nat, k ≤ qs.length ∧ i = .int .i64 k ∧ wr = w6.drewN n) (fun i _ => qs.length - (intOf i).toNat)
    case atStart => exact ⟨0, 0, by omega, rfl, rfl⟩
    case round =>
      obtain ⟨k, n, hk, rfl, rfl⟩ := hrel
      by_cases hlt : k < qs.length
      · rcases HI6.out with h0 | ⟨bz, oz, hz, hc⟩
        · rw [h0] at hlt; simp at hlt
        · rcases HD6.out with h0 | ⟨bd, od, rfl, hd⟩
          · rw [h0] at hlt; simp at hlt
          · simp only [Option.some.injEq, Addr.mk.injEq, and_true] at hz
            obtain ⟨rfl, rfl⟩ := hz
            obtain ⟨p0, p1, p2, p3, _⟩ := hc k hlt
            obtain ⟨q0, q1, q2, q3, _⟩ := hd k hlt
            rw [Nat.zero_add] at p0 p1 p2 p3
            have hq := eq_pt qs[k]
            clear hc hd
            generalize qs[k] = p at *
            go_wp2
            go_quiet (fail)
            clear hq
            go_wp2
            go_roundw
            case rel => exact ⟨k + 1, _, by omega, by go_num, rfl⟩
            case measure => simp [intOf]; omega
      · obtain ⟨k', hk'⟩ : ∃ k' : Nat, k' = k := ⟨k, rfl⟩
        obtain rfl : k = qs.length := by omega
        clear hk'
        have hbn : Below w6.heap.size w6 (w6.drewN n) := below_drewN (Below.refl _ _) n
        have HB7 := Lib.hid (HB6.out.trans (hbn.mono HB6.out.size))
        have HB47 := Lib.hid (HB46.out.trans (hbn.mono HB46.out.size))
        have HI7 := Lib.hid (HI6.out.below hbn)
        clear hbn HB6 HB46 HI6 HD6
        generalize w6.drewN n = w7 at *
        have HAP := Lib.hid (apply_any HI7.out (by omega) qs.length m hm)
        rw [HAPP.out] at HAP
        go_wp2_with fail
        refine HAP.out.mono ?_
        rintro x w8 ⟨rfl, hb8⟩
        have HB8 := Lib.hid (HB7.out.trans (hb8.mono HB7.out.size))
        have HF8 := Lib.hid (HFF.out w8 (HB47.out.trans (hb8.mono HB47.out.size)))
        clear hb8 HAP HB7 HB47 HI7 HFF HAPP
        have h2 : ((⟨t.toArray⟩ : ByteArray).toList == (⟨t.toArray⟩ : ByteArray).toList) = true := by simp
        go_wp2_with fail
        refine HF8.out.mono ?_
        rintro x w9 ⟨rfl, hb9⟩
        have HB9 := Lib.hid (HB8.out.trans (hb9.mono HB8.out.size))
        clear hb9
        go_wp2_with fail
        go_ret
        exact ⟨rfl, HB9.out⟩
  · have he2 : ((e : Int) != 0) = true := by simp; omega
    have he3 : ((e : Int) != (e : Int)) = false := by simp
    clear HX HFT
    go_wp2_with fail
    go_ret
    exact ⟨rfl, HB4.out⟩
end Go.Proofs.Ythejbnodalnnpaa.Pk
