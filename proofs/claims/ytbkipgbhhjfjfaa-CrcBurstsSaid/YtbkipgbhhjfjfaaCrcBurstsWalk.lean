/-
  The walk of the statement CrcBursts: for every text, place and bits it returns true, and writes nothing that was there.
-/
import Derived.Test.YtbkipgbhhjfjfaaCrcTells
import Derived.RegionTactic
import Derived.ChangeAlike
import Derived.Lib.ConvBytes
namespace Go.Proofs.Ytbkipgbhhjfjfaa.Crc
open Go.RowKit

/-- The text's bytes, turned by the bits of D, lie in block B. -/
def Lies (B : Nat) (l : List UInt8) (w : World) : Prop :=
  (∀ j (h : j < l.length), w.cell? ⟨B, j, none⟩ = some (.int .u8 (l[j].toNat : Int))) ∧ (∀ j, j < l.length → w.frozen? ⟨B, j, none⟩ = false) ∧ B < w.heap.size
theorem conv_bytes (w : World) (t : ByteArray) : ∃ (cap : Nat) (w2 : World), (convert 9 29 (.string t)).run Try.prog w = .ok (.slice (some ⟨w.heap.size, 0, none⟩) t.size cap) w2 ∧ Lies w.heap.size t.data.toList w2 ∧ Below w.heap.size w w2 := by
  refine ⟨_, _, Lib.run_convert_string_bytes w 9 29 5 t Try.underlying9 Try.underlying29 Try.underlying5, ⟨?_, ?_, ?_⟩, ?_⟩
  · intro j h
    have hj : j < t.size := by simpa using h
    rw [Lib.bytesWorld_cell w _ t j hj]
    simp [List.getD, hj]
  · intro j h
    have hj : j < t.size := by simpa using h
    have hb := Lib.bytesWorld_at_new w 5 t
    simp [World.frozen?, hb]
    simp [Lib.bytesCells]
    omega
  · rw [Lib.bytesWorld_size]; omega
  · exact ⟨rfl, rfl, rfl, by rw [Lib.bytesWorld_size]; omega, fun k hk => Lib.bytesWorld_at_old w _ t k hk⟩
theorem Lies.set {B : Nat} {l : List UInt8} {w : World} (h : Lies B l w) (m : Nat) (hm : m < l.length) (b : UInt8) : Lies B (l.set m b) (w.setCell ⟨B, m, none⟩ (.int .u8 (b.toNat : Int))) := by
  obtain ⟨hc, hf, hB⟩ := h
  refine ⟨?_, ?_, ?_⟩
  · intro j hj
    have hj' : j < l.length := by simpa using hj
    by_cases e : m = j
    · subst e
      have := hc m hm
      rw [World.cell?_setCell_same _ _ _ this]
      simp
    · rw [World.cell?_setCell_other _ _ _ _ (by intro h; exact e (congrArg Addr.off h)), hc j hj', List.getElem_set_ne e]
  · intro j hj
    rw [World.frozen?_setCell]
    exact hf j (by simpa using hj)
  · rw [World.size_setCell]; exact hB
theorem Lies.drew {B : Nat} {l : List UInt8} {w : World} (h : Lies B l w) : Lies B l w.drew := h
theorem ret_bool {a : Bool} (h : a = true) : Ending.returned (.bool a) = .returned (.bool true) := by rw [h]
theorem sum_list (u : List UInt8) (w : World) (hs : u.length ≤ 200) :
    Calls Try.prog 10 #[.string ⟨u.toArray⟩] w fun e w' => e = .returned (.int .u32 ((sum u : Nat) : Int)) ∧ w = w' :=
  sum_any ⟨u.toArray⟩ w (by unfold maxLen; show u.toArray.size ≤ _; simp; omega)
theorem xor_cell (c k : Nat) (x : UInt8) : bits .xor .u8 (x.toNat : Int) (2 ^ ((c + k) % 8) % 256) = ((UInt8.ofNat (x.toNat ^^^ 2 ^ ((c + k) % 8))).toNat : Int) := by
  have hp : 2 ^ ((c + k) % 8) < 256 := Nat.pow_lt_pow_right (a := 2) (m := (c + k) % 8) (n := 8) (by omega) (by omega)
  rw [UInt8.toNat_ofNat_of_lt' (part_byte c k x), ← u8_xor_nat _ _ (nat_lt x) hp]
  congr 1
  rw [show ((2 : Int) ^ ((c + k) % 8)) = ((2 ^ ((c + k) % 8) : Nat) : Int) from by simp]
  have key : ∀ P : Nat, P < 256 → ((P : Int) % 256) = (P : Int) := fun P h => by omega
  exact key _ hp
set_option maxHeartbeats 1000000 in
theorem bursts_walk (s : ByteArray) (c W : Nat) (w : World) (hs : s.size ≤ maxLen) (hc : c < 65536) (hW : W < 4294967296) :
    Calls Try.prog 4 #[.string s, .int .u16 (c : Int), .int .u32 (W : Int)] w fun e w' => e = .returned (.bool true) ∧ Below w.heap.size w w' := by
  have hs' := hs
  unfold maxLen at hs'
  have hS := conv_bytes
  have HC := Lib.hid hS
  clear hS
  by_cases h200 : 200 < s.size
  all_goals
    go_enter Try.func4, Try.ntmps4
    go_wp2_with fail
    refine (speaks_any _).mono ?_
    rintro e w1 ⟨rfl, hb1⟩
    first
      | (have hh : 200 < s.size := by assumption
         obtain ⟨cap, w2, hcv, hlie, hb2⟩ := HC.out w1 (s.extract 0 200)
         have ht : (s.extract 0 200).size ≤ 200 := by simp; omega
         have HL := Lib.hid hlie
         clear hlie HC)
      | (have hh : ¬ 200 < s.size := by assumption
         obtain ⟨cap, w2, hcv, hlie, hb2⟩ := HC.out w1 s
         have ht : s.size ≤ 200 := by omega
         have HL := Lib.hid hlie
         clear hlie HC)
    go_wp2
    clear hcv
    first
      | (have hh : 200 < s.size := by assumption
         rw [show min 200 s.size = (s.extract 0 200).size from by simp]
         generalize s.extract 0 200 = t at *)
      | (have hh : ¬ 200 < s.size := by assumption
         generalize s = t at *)
    clear hs hs' h200
    generalize hB : w1.heap.size = B at *
    have HB := Lib.hid hB
    clear hB hh
    go_loopw [2, 8, 9] (fun b i _ wr => ∃ k : Nat, k ≤ 32 ∧ i = .int .i64 k ∧ b = .int .u32 ((W / 2 ^ k : Nat) : Int) ∧ Lies B (part t.data.toList c W k) wr ∧ Below B w1 wr) (fun _ i _ _ => 32 - (intOf i).toNat)
    case atStart => exact ⟨0, by omega, rfl, by simp, by rw [part_zero]; exact HL.out, hb2⟩
    case round =>
      obtain ⟨k, hk, rfl, rfl, hlie, hbr⟩ := hrel
      by_cases hlt : k < 32
      · have hy : W / 2 ^ k < 4294967296 := Nat.lt_of_le_of_lt (Nat.div_le_self _ _) hW
        have hh : W / 2 ^ k / 2 = W / 2 ^ (k + 1) := by rw [Nat.div_div_eq_div_mul, Nat.pow_succ]
        have HH := Lib.hid hh
        clear hh
        have HLi := Lib.hid hlie
        clear hlie
        rcases Nat.mod_two_eq_zero_or_one (W / 2 ^ k) with hp | hp
        · have hpk := part_keep t.data.toList c W k hp
          have hb := low0 hy hp
          have HP := Lib.hid hpk
          clear hpk hp
          generalize W / 2 ^ k = y at *
          go_wp2
          go_roundw
          case rel => exact ⟨k + 1, by omega, by go_num, by rw [← HH.out]; go_num, by rw [HP.out]; exact HLi.out, hbr⟩
          case measure => simp [intOf]; omega
        · have hb := low1 hy hp
          by_cases hin : (c + k) / 8 < t.size
          · have hpt := part_turn t.data.toList c W k hp
            have HP := Lib.hid hpt
            have hlen : (c + k) / 8 < (part t.data.toList c W k).length := by rw [part_length]; simpa using hin
            have hcell := HLi.out.1 _ hlen
            have hfr := HLi.out.2.1 _ hlen
            have hgd : (part t.data.toList c W k).getD ((c + k) / 8) 0 = (part t.data.toList c W k)[(c + k) / 8] := by simp [List.getD, hlen]
            rw [hgd] at HP
            clear hpt hp hgd
            generalize W / 2 ^ k = y at *
            generalize (part t.data.toList c W k)[(c + k) / 8] = x at *
            have hpb := part_byte c k x
            go_wp2
            go_region
            rw [xor_cell c k x]
            generalize UInt8.ofNat (x.toNat ^^^ 2 ^ ((c + k) % 8)) = z at *
            go_wp2
            go_roundw
            case rel => exact ⟨k + 1, by omega, by go_num, by rw [← HH.out]; go_num, by rw [HP.out]; exact (HLi.out.set _ hlen _).drew, (hbr.setCell (Nat.le_refl _) _).drew⟩
            case measure => simp [intOf]; omega
          · have hpt := part_out t.data.toList c W k hp (by simpa using hin)
            have HP := Lib.hid hpt
            clear hpt hp
            generalize W / 2 ^ k = y at *
            go_wp2
            go_roundw
            case rel => exact ⟨k + 1, by omega, by go_num, by rw [← HH.out]; go_num, by rw [HP.out]; exact HLi.out, hbr⟩
            case measure => simp [intOf]; omega
      · have hpa := part_all t.data.toList c W hW
        rw [show k = 32 from by omega, hpa] at hlie
        have hmath := bursts t.data.toList W c hW
        have hsz : (turned t.data.toList (W * 2 ^ c)).length = t.size := by rw [turned_length]; simp
        have hback : ∀ n, (convert 29 9 (.slice (some ⟨B, 0, none⟩) t.size cap)).run Try.prog (wr.drewN n) = .ok (.string ⟨(turned t.data.toList (W * 2 ^ c)).toArray⟩) (wr.drewN n) := fun n => by
          rw [← hsz]
          exact run_convert_bytes_back _ 29 9 5 ⟨B, 0, none⟩ cap _ Try.underlying29 Try.underlying5 Try.underlying9 (fun j hj => by
            have hplain : (⟨B, 0, none⟩ : Addr).add j = ⟨B, j, none⟩ := by unfold Addr.add; split <;> simp_all
            rw [hplain]
            have := hlie.1 j hj
            simpa using this)
        generalize turned t.data.toList (W * 2 ^ c) = u at *
        have HM := Lib.hid hmath
        have HZ := Lib.hid hsz
        clear hmath hlie hpa hsz
        have htm : t.size ≤ maxLen := by unfold maxLen; omega
        have hul : u.length ≤ 200 := by have := HZ.out; omega
        go_wp2
        go_quiet ((go_at_call 10; first | exact Calls.quiet_of_same (still (sum_list _ _ hul)) | exact Calls.quiet_of_same (still (sum_any _ _ htm))))
        go_wp2
        go_ret
        refine ⟨ret_bool ?_, below_drewN (hb1.trans (hbr.mono (by rw [← HB.out]; exact hb1.size))) nq⟩
        rw [ByteArray.toList_eq, beq_iff_eq, Bool.eq_iff_iff, beq_iff_eq, beq_iff_eq, ← HM.out]
        omega
theorem bursts_at (s : ByteArray) (c W : Int) (hs : s.size ≤ maxLen) (hc : (Lit.int .u16 c).wf = true) (hW : (Lit.int .u32 W).wf = true) (w : World) :
    Calls Try.prog 4 #[.string s, .int .u16 c, .int .u32 W] w fun e w' => e = .returned (.bool true) ∧ Below w.heap.size w w' := by
  have hx : 0 ≤ c ∧ c ≤ 65535 := by simpa [Lit.wf, IntKind.min, IntKind.max, IntKind.signed, IntKind.bits] using hc
  have hy : 0 ≤ W ∧ W ≤ 4294967295 := by simpa [Lit.wf, IntKind.min, IntKind.max, IntKind.signed, IntKind.bits] using hW
  obtain ⟨n, rfl⟩ := Int.eq_ofNat_of_zero_le hx.1
  obtain ⟨m, rfl⟩ := Int.eq_ofNat_of_zero_le hy.1
  exact bursts_walk s n m w hs (by omega) (by omega)
end Go.Proofs.Ytbkipgbhhjfjfaa.Crc
