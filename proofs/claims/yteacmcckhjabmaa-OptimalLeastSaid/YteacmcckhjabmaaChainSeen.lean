/-
  The document's answer for layer 7: contracts of Matches and At.
  Layer 7's statements: speaks.
  The walk of the statement ChainFinds: for every text, window and cut it returns true, and writes nothing that was there.
-/
import Derived.Test.YteacmcckhjabmaaChainFound
import Derived.Laws.StructEq
section
namespace Go.Proofs.Yteacmcckhjabmaa.Ch
open Go.RowKit Go.Maps
open Mt
set_option maxHeartbeats 2000000 in
theorem matches_any (s : ByteArray) (p d : Nat) (hp : p ≤ s.size) (hd : d ≤ p) (hs : s.size ≤ 1000000000000) (w : World) :
    Calls Try.prog 28 #[.string s, .int .i64 (p : Int), .int .i64 (d : Int)] w fun x w' => x = .returned (.int .i64 (mat (bt s) p (p - d) 0 (min (s.size - p) 273) : Int)) ∧ ∃ n, w' = w.drewN n := by
  obtain ⟨most, hmost⟩ : ∃ most, most = min (s.size - p) 273 := ⟨_, rfl⟩
  rw [← hmost]
  have hm1 : p + most ≤ s.size := by omega
  have hm2 : most ≤ 273 := by omega
  have hm3 : most = 273 ∨ p + most = s.size := by omega
  have HM3 := Lib.hid hm3
  clear hmost hm3
  go_enter Try.func28, Try.ntmps28
  go_wp2
  go_loopw [7] (fun i wr => ∃ k n : Nat, k ≤ most ∧ mat (bt s) p (p - d) k (most - k) = mat (bt s) p (p - d) 0 most ∧ i = .int .i64 k ∧ wr = w.drewN n) (fun i _ => most - (intOf i).toNat)
  case atStart => exact ⟨0, 0, by omega, rfl, rfl, rfl⟩
  case round =>
    obtain ⟨k, n, hk, hmat, rfl, rfl⟩ := hrel
    have HM := Lib.hid hmat
    clear hmat
    have e4 : IntKind.i64.wrap ((p : Int) + (k : Int)) = (p : Int) + (k : Int) := IntWalk.i64_in _ (by omega)
    by_cases hlt : k < most
    · have hpk : p + k < s.size := by omega
      have hqk : p + k - d < s.size := by omega
      have e1 : (0 : Int) ≤ (p : Int) + (k : Int) := by omega
      have e2 : (p : Int) + (k : Int) < (s.size : Int) := by omega
      have e3 : ((p : Int) + (k : Int)).toNat = p + k := by omega
      have d1 : (0 : Int) ≤ (p : Int) + (k : Int) - (d : Int) := by omega
      have d1' : (d : Int) ≤ (p : Int) + (k : Int) := by omega
      have d2 : (p : Int) + (k : Int) - (d : Int) < (s.size : Int) := by omega
      have d3 : ((p : Int) + (k : Int) - (d : Int)).toNat = p + k - d := by omega
      have d4 : IntKind.i64.wrap ((p : Int) + (k : Int) - (d : Int)) = (p : Int) + (k : Int) - (d : Int) := IntWalk.i64_in _ (by omega)
      have hlt1 : decide ((p : Int) + (k : Int) < (s.size : Int)) = true := by simpa using e2
      have hlt2 : (k : Int) < 273 := by omega
      by_cases he : bt s (p + k) = bt s (p - d + k)
      · have HE : Hid (mat (bt s) p (p - d) (k + 1) (most - (k + 1)) = mat (bt s) p (p - d) 0 most) := Lib.hid (by
          rw [← HM.out, show most - k = (most - (k + 1)) + 1 from by omega, mat, if_pos he])
        have hbe : ((s[p + k].toNat : Int) == (s[p + k - d].toNat : Int)) = true := by
          rw [bt_at, bt_at, he, show p + k - d = p - d + k from by omega]; simp
        clear he HM
        go_wp2
        go_quiet (fail)
        clear e4 d4
        go_wp2
        go_roundw
        case rel => exact ⟨k + 1, _, by omega, HE.out, by go_num, rfl⟩
        case measure => simp [intOf]; omega
      · have HE : Hid (mat (bt s) p (p - d) 0 most = k) := Lib.hid (by
          rw [← HM.out, show most - k = (most - (k + 1)) + 1 from by omega, mat, if_neg he])
        have hbe : ((s[p + k].toNat : Int) == (s[p + k - d].toNat : Int)) = false := by
          rw [bt_at, bt_at, beq_eq_false_iff_ne, show p + k - d = p - d + k from by omega]; omega
        clear he HM
        go_wp2
        go_quiet (fail)
        clear e4 d4
        go_wp2
        go_ret
        exact ⟨ret_num (by rw [HE.out]), _, by rw [World.drewN_drewN]⟩
    · obtain rfl : k = most := by omega
      have HE : Hid (mat (bt s) p (p - d) 0 k = k) := Lib.hid (by rw [← HM.out, Nat.sub_self, mat])
      clear HM
      by_cases hz : p + k < s.size
      · have hz1 : decide ((p : Int) + (k : Int) < (s.size : Int)) = true := by simp; omega
        have hz2 : k = 273 := by rcases HM3.out with h | h <;> omega
        have hz3 : ¬ ((k : Int) < 273) := by omega
        have hz4 : decide ((k : Int) < 273) = false := by simpa using hz3
        clear hz2
        go_wp2
        go_quiet (fail)
        clear e4
        go_wp2
        go_ret
        exact ⟨ret_num (by rw [HE.out]), _, by rw [World.drewN_drewN]⟩
      · have hz1 : decide ((p : Int) + (k : Int) < (s.size : Int)) = false := by simp; omega
        go_wp2
        go_quiet (fail)
        clear e4
        go_wp2
        go_ret
        exact ⟨ret_num (by rw [HE.out]), _, by rw [World.drewN_drewN]⟩
theorem three_toList {s : ByteArray} {q : Nat} (h : q + 3 ≤ s.size) : (s.extract q (q + 3)).toList = [s[q], s[q + 1], s[q + 2]] := by
  rw [ByteArray.toList_eq]
  have e : (s.extract q (q + 3)).data.toList = (s.data.toList.drop q).take 3 := by
    simp [ByteArray.data_extract]
  rw [e, List.drop_eq_getElem_cons (by simp; omega), List.drop_eq_getElem_cons (by simp; omega), List.drop_eq_getElem_cons (by simp; omega)]
  rfl
theorem three_ne {s : ByteArray} {p q : Nat} (hp : p + 3 ≤ s.size) (hq : q + 3 ≤ s.size) : ((s.extract p (p + 3)).toList == (s.extract q (q + 3)).toList) = heads (bt s) p q := by
  rw [three_toList hp, three_toList hq]
  have hb : ∀ {i j : Nat} (hi : i < s.size) (hj : j < s.size), (s[i] == s[j]) = (bt s i == bt s j) := fun {i j} hi hj => by
    rw [← bt_at hi, ← bt_at hj, Bool.eq_iff_iff, beq_iff_eq, beq_iff_eq]
    exact ⟨fun h => by rw [h], fun h => UInt8.toNat_inj.1 h⟩
  unfold heads
  rw [← hb (by omega) (by omega), ← hb (by omega) (by omega), ← hb (by omega) (by omega)]
  simp
end Go.Proofs.Yteacmcckhjabmaa.Ch
end
section
namespace Go.Proofs.Yteacmcckhjabmaa.Ch
open Go.RowKit Go.Maps
open Mt
def abc : ByteArray := ⟨#[97, 98, 99, 97, 98, 99, 100]⟩
theorem abc_size : abc.size = 7 := rfl
theorem abc_0 : foundL abc 99 9 0 = [] := by kernel_rfl
theorem abc_1 : foundL abc 99 9 1 = [] := by kernel_rfl
theorem abc_2 : foundL abc 99 9 2 = [] := by kernel_rfl
theorem abc_found : ∀ k, k < 3 → foundL abc 99 9 k = [] := by
  intro k hk
  have : k = 0 ∨ k = 1 ∨ k = 2 := by omega
  rcases this with rfl | rfl | rfl
  · exact abc_0
  · exact abc_1
  · exact abc_2
theorem abc_three : foundL abc 99 9 3 = [(3, 3)] := by kernel_rfl
end Go.Proofs.Yteacmcckhjabmaa.Ch
end
section
namespace Go.Proofs.Yteacmcckhjabmaa.Ch
open Go.RowKit Go.Maps
open Mt
theorem Founds.small {t : TypeId} {w0 w : World} {v : Value} {l : List (Nat × Nat)} (h : Founds t w0 w v l) : l.length ≤ 9223372036854775807 := by
  rcases h.row.2 with ⟨_, h2⟩ | ⟨g, cap, cur, _, _, _, h1, h2, _⟩
  · omega
  · unfold maxLen at h2; omega
theorem Founds.cells {t : TypeId} {w0 w : World} {A : Option Addr} {n cap : Nat} {l : List (Nat × Nat)} (h : Founds t w0 w (.slice A n cap) l) (hn : 0 < l.length) : ∃ g, A = some ⟨g, 0, none⟩ ∧ ∀ i (hi : i < l.length), w.cell? ⟨g, i * 2, none⟩ = some (.int .i64 (l[i].1 : Int)) ∧ w.cell? ⟨g, i * 2 + 1, none⟩ = some (.int .i64 (l[i].2 : Int)) := by
  rcases h.form with ⟨_, rfl⟩ | ⟨g, cap', e, _⟩
  · simp at hn
  · have e' := e
    simp only [Value.slice.injEq] at e'
    obtain ⟨rfl, _, _⟩ := e'
    exact ⟨g, rfl, fun i hi => h.cell i hi⟩
theorem ret_bool {a b : Bool} (h : a = b) : Ending.returned (.bool a) = .returned (.bool b) := by rw [h]
end Go.Proofs.Yteacmcckhjabmaa.Ch
end
