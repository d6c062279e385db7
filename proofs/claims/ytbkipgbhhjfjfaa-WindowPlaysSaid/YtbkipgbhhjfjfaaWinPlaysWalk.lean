/-
  The walk of the statement WindowPlays: for every bound and every list of acts it returns true, and writes nothing that was there.
-/
import Derived.Test.YtbkipgbhhjfjfaaWinSpeaks
import Derived.Deep.DeepCutAuto
import Derived.Deep.CutBlock
namespace Go.Proofs.Ytbkipgbhhjfjfaa.Wnd
open Go.RowKit
theorem copy_not {w : World} {b : Nat} {v : Value} {most : Nat} {l : List UInt8} (h : Win w b v most l) (d n : Int) (hl : l.length ≤ most) (hm : most ≤ 9223372036854775807) (hno : ¬ (1 ≤ d ∧ d ≤ l.length ∧ 0 ≤ n ∧ n ≤ (most : Int) - l.length)) :
    Calls Try.prog 14 #[.pointer (some ⟨b, 0, none⟩), .int .i64 d, .int .i64 n] w fun e w' => e = .returned (.bool false) ∧ ∃ q, w' = w.drewN q := by
  by_cases ht : 1 ≤ d ∧ d ≤ l.length
  · have ht' : there d l.length = true := by simp [there, ht]
    by_cases h0 : n < 0
    · exact copy_neg h d n ht' h0
    · exact copy_over h d n ht' (by omega) hl hm (by omega)
  · exact copy_far h d n (by simp [there]; omega)
theorem copy_at {w : World} {b : Nat} {v : Value} {most : Nat} {l : List UInt8} (h : Win w b v most l) (d n : Int) (hm : most ≤ 9223372036854775807) (h1 : 1 ≤ d) (h2 : d ≤ l.length) (h3 : 0 ≤ n) (h4 : n ≤ (most : Int) - l.length) (hs : (l.length : Int) + n ≤ 1099511627776) :
    Calls Try.prog 14 #[.pointer (some ⟨b, 0, none⟩), .int .i64 d, .int .i64 n] w fun e w' => e = .returned (.bool true) ∧ Grew w b most v (copied l d.toNat n.toNat) w' :=
  copy_of h d.toNat n.toNat d n (by omega) (by omega) (by omega) (by omega) (by omega) hm (by omega)

/-- What an act is in memory. -/
def IsAct (w : World) (b o : Nat) (x y : Nat) (d n : Int) : Prop :=
  w.cell? ⟨b, o, none⟩ = some (.int .u8 (x : Int)) ∧ w.cell? ⟨b, o + 1, none⟩ = some (.int .u8 (y : Int)) ∧ w.cell? ⟨b, o + 2, none⟩ = some (.int .i64 d) ∧ w.cell? ⟨b, o + 3, none⟩ = some (.int .i64 n) ∧
    x < 256 ∧ y < 256 ∧ -9223372036854775808 ≤ d ∧ d ≤ 9223372036854775807 ∧ -9223372036854775808 ≤ n ∧ n ≤ 9223372036854775807
/-- What the walk is told of the list of acts that came in. -/
def IsActs (w : World) (a : Option Addr) (len : Nat) : Prop :=
  len ≤ maxLen ∧ (len = 0 ∨ ∃ b off, a = some ⟨b, off, none⟩ ∧ b < w.heap.size ∧ ∀ i, i < len → ∃ (x y : Nat) (d n : Int), IsAct w b (off + i * 4) x y d n)
theorem below_all {w w1 W w' : World} {B most : Nat} {l : List UInt8} {o : Obj} (h : Below w.heap.size w w1) (hB : w1.heap.size = B) (hW : w1.alloc o = W) (hG : Grew W B most (.slice none 0 0) l w') : Below w.heap.size w w' := by
  subst hB hW
  exact h.trans (hG.fresh.mono h.size)
theorem conv1 (w : World) (b : UInt8) (n : Int) (h : n = (b.toNat : Int)) :
    (convert 29 9 (.slice (some ⟨w.heap.size, 0, none⟩) 1 1)).run Try.prog (w.alloc (.cells #[.int .u8 n] 5)) = .ok (.string ⟨#[b]⟩) (w.alloc (.cells #[.int .u8 n] 5)) := by
  subst h
  exact run_convert_bytes_back _ 29 9 5 ⟨w.heap.size, 0, none⟩ 1 [b] Try.underlying29 Try.underlying5 Try.underlying9 (fun j hj => by
    match j, hj with
    | 0, _ => simp [Addr.add])
theorem one_more (l : List UInt8) (b : UInt8) : (⟨l.toArray⟩ : ByteArray) ++ ⟨#[b]⟩ = ⟨(l ++ [b]).toArray⟩ := by
  apply ByteArray.ext
  apply Array.toList_inj.1
  simp
theorem Grew.alloc {w w' : World} {b most : Nat} {v : Value} {l' : List UInt8} (h : Grew w b most v l' w') (o : Obj) : Grew w b most v l' (w'.alloc o) := by
  obtain ⟨v', hw, hF, hM⟩ := h
  exact ⟨v', hw.frame (own := fun _ => False) ((Frame.refl _ _).alloc _) (fun _ _ => id), hF.alloc o, hM⟩
/-- A new block beside a window: the window is as it was, and owns nothing of the block. -/
theorem beside {w : World} {b : Nat} {v : Value} {most : Nat} {l : List UInt8} (h : Win w b v most l) (cs : Array Value) (t : TypeId) :
    Win (w.alloc (.cells cs t)) b v most l ∧ w.heap.size ≠ b ∧ v.ownBlock ≠ some w.heap.size := by
  have hlt := h.lt
  refine ⟨h.frame (own := fun _ => False) ((Frame.refl _ _).alloc _) (fun _ _ => id), by omega, fun e => ?_⟩
  have := ownsRow_lt h.2.1 _ e
  omega
theorem Grew.keeps {w w' : World} {b most : Nat} {v : Value} {l' : List UInt8} (h : Grew w b most v l' w') {p : Addr} (hp : p.block < w.heap.size) (hb : p.block ≠ b) (hv : v.ownBlock ≠ some p.block) : w'.cell? p = w.cell? p := by
  obtain ⟨_, _, hF, _⟩ := h
  exact hF.cell hp (fun ho => by
    rcases ho with ho | ho
    · exact hb ho
    · exact hv ho)
theorem grow_text (l : List UInt8) (d j : Nat) (h1 : 1 ≤ d) (h2 : d ≤ l.length) (U : ByteArray) (hU : U = ⟨(copied l d j).toArray⟩) : U ++ U.extract (U.size - d) (U.size - d + 1) = ⟨(copied l d (j + 1)).toArray⟩ := by
  subst hU
  have hL := copied_length l d j
  apply ByteArray.ext
  apply Array.toList_inj.1
  have hs : ByteArray.size ⟨(copied l d j).toArray⟩ = (copied l d j).length := by simp [ByteArray.size]
  rw [hs]
  have hlt : (copied l d j).length - d < (copied l d j).length := by omega
  simp [copied, List.getD, hlt]
  rw [List.drop_eq_getElem_cons hlt]
  rfl
set_option maxRecDepth 100000 in
set_option maxHeartbeats 4000000 in
theorem plays_walk (m : Int) (a : Option Addr) (len cap : Nat) (w : World) (hm0 : -9223372036854775808 ≤ m) (hm1 : m ≤ 9223372036854775807) (ha : IsActs w a len) :
    Calls Try.prog 5 #[.int .i64 m, .slice a len cap] w fun e w' => e = .returned (.bool true) ∧ Below w.heap.size w w' := by
  obtain ⟨hlen, hacts⟩ := ha
  unfold maxLen at hlen
  have HA := Lib.hid hacts
  clear hacts
  have hmn := new_any m
  have HN := Lib.hid hmn
  clear hmn
  obtain ⟨most, hmost⟩ : ∃ k : Nat, k = m.toNat := ⟨_, rfl⟩
  have hmle : most ≤ 9223372036854775807 := by omega
  have HM := Lib.hid hmost
  clear hmost
  go_enter Try.func5, Try.ntmps5
  go_wp2_with fail
  refine (speaks_any _).mono ?_
  rintro e w1 ⟨rfl, hb1⟩
  go_wp2_with fail
  refine (HN.out w1).mono ?_
  rintro e w2 ⟨rfl, hw2⟩
  have G0 : Grew (w1.alloc (.cells #[.slice none 0 0, .int .i64 (most : Int)] 47)) w1.heap.size most (.slice none 0 0) [] w2 := by rw [hw2, ← HM.out]; exact Grew.refl (win_new w1 most)
  have H0 := Lib.hid G0
  clear hw2 G0 HN
  generalize hW : w1.alloc (.cells #[.slice none 0 0, .int .i64 (most : Int)] 47) = W at *
  have HW := Lib.hid hW
  clear hW
  generalize hB : w1.heap.size = B at *
  have HB := Lib.hid hB
  clear hB
  go_upto_region 4 with (fail)
  go_cut [6] (fun r wx => r = .int .i64 (most : Int) ∧ wx = w2)
  case first =>
    as_aux_lemma =>
      go_wp2_with fail
      all_goals
        go_meet
        exact ⟨congrArg (Value.int .i64) (by have := HM.out; omega), rfl⟩
  case rest =>
  obtain ⟨rfl, rfl⟩ := hcut
  go_wp2_with fail
  go_loopw [7, 8] (fun s i wr => ∃ (k : Nat) (l : List UInt8), k ≤ len ∧ k ≤ 60 ∧ s = .string ⟨l.toArray⟩ ∧ i = .int .i64 k ∧ l.length ≤ 300 * k ∧ l.length ≤ most ∧ Grew W B most (.slice none 0 0) l wr) (fun _ i _ => len - (intOf i).toNat)
  case atStart => exact ⟨0, [], by omega, by omega, rfl, rfl, by simp, by simp, H0.out⟩
  case round =>
    obtain ⟨k, l, hk, hk60, rfl, rfl, hll, hlm, hgrew⟩ := hrel
    have hbw := below_all hb1 HB.out HW.out hgrew
    by_cases hlt : k < len ∧ k < 60
    · obtain ⟨hlt, hlt60⟩ := hlt
      have hex := HA.out
      rcases hex with h0 | ⟨b, off, rfl, hbl, hact⟩
      · omega
      · obtain ⟨x, y, d, n, hc0, hc1, hc2, hc3, hx, hy, hd0, hd1, hn0, hn1⟩ := hact k hlt
        rw [← hbw.cell (p := ⟨b, _, none⟩) hbl] at hc0 hc1 hc2 hc3
        have HGr := Lib.hid hgrew
        have HBw := Lib.hid hbw
        clear hgrew hbw hact
        have hmod : x % 4 < 4 := by omega
        go_upto_block 2 with (fail)
        go_cut [7] (fun s wx => ∃ l' : List UInt8, s = .string ⟨l'.toArray⟩ ∧ l'.length ≤ 300 * (k + 1) ∧ l'.length ≤ most ∧ Grew W B most (.slice none 0 0) l' wx)
        case first =>
          by_cases h2 : x % 4 = 2
          · as_aux_lemma =>
              have hb2 : ((x : Int) % 4 == 2) = true := by rw [beq_iff_eq]; omega
              obtain ⟨nn, hnn⟩ : ∃ nn : Int, (300 < n → nn = 300) ∧ (n ≤ 300 → nn = n) := by
                by_cases hn : 300 < n
                · exact ⟨300, fun _ => rfl, fun h => absurd hn (by omega)⟩
                · exact ⟨n, fun h => absurd h hn, fun _ => rfl⟩
              have hnl : -9223372036854775808 ≤ nn := by rcases Int.lt_or_le 300 n with h | h <;> simp [h, hnn] <;> omega
              have hnu : nn ≤ 300 := by rcases Int.lt_or_le 300 n with h | h <;> simp [h, hnn] <;> omega
              obtain ⟨ok, hok⟩ : ∃ ok : Bool, ok = decide (1 ≤ d ∧ d ≤ l.length ∧ 0 ≤ nn ∧ nn ≤ (most : Int) - l.length) := ⟨_, rfl⟩
              have HNN := Lib.hid hnn
              have HOK := Lib.hid hok
              clear h2 hnn hok
              go_upto_if 65 with (fail)
              go_cut [10] (fun t wx => t = .int .i64 nn ∧ wx = wr.alloc (.cells #[.int .u8 (x : Int), .int .u8 (y : Int), .int .i64 d, .int .i64 n] 35))
              case first =>
                as_aux_lemma =>
                  go_wp2_with fail
                  all_goals
                    go_meet
                    exact ⟨congrArg (Value.int .i64) (by first | exact (HNN.out.1 (by omega)).symm | exact (HNN.out.2 (by omega)).symm), rfl⟩
              case rest =>
                obtain ⟨rfl, rfl⟩ := hcut
                go_upto_region 20 with (fail)
                go_cut [11] (fun t wx => t = .bool ok ∧ wx = wr.alloc (.cells #[.int .u8 (x : Int), .int .u8 (y : Int), .int .i64 d, .int .i64 n] 35))
                case first =>
                  as_aux_lemma =>
                    go_wp2_with fail
                    all_goals
                      go_meet
                      exact ⟨congrArg Value.bool (by rw [HOK.out]; first | exact (decide_eq_false (by omega)).symm | exact decide_eq_decide.2 (by omega)), rfl⟩
                case rest =>
                  obtain ⟨rfl, rfl⟩ := hcut
                  obtain ⟨v1, a1, f1, m1⟩ := HGr.out
                  obtain ⟨A1, hXB, hXv⟩ := beside a1 #[.int .u8 (x : Int), .int .u8 (y : Int), .int .i64 d, .int .i64 n] 35
                  have HA1 := Lib.hid A1
                  have HF1 := Lib.hid (f1.alloc (.cells #[.int .u8 (x : Int), .int .u8 (y : Int), .int .i64 d, .int .i64 n] 35))
                  clear a1 A1 f1
                  rcases Bool.eq_false_or_eq_true ok with rfl | rfl
                  · as_aux_lemma =>
                      have hyes : 1 ≤ d ∧ d ≤ l.length ∧ 0 ≤ nn ∧ nn ≤ (most : Int) - l.length := of_decide_eq_true HOK.out.symm
                      obtain ⟨y1, y2, y3, y4⟩ := hyes
                      obtain ⟨dn, rfl⟩ := Int.eq_ofNat_of_zero_le (show 0 ≤ d by omega)
                      obtain ⟨nk, rfl⟩ := Int.eq_ofNat_of_zero_le y3
                      go_wp2_with fail
                      refine (copy_at HA1.out dn nk hmle y1 y2 y3 y4 (by omega)).mono ?_
                      rintro e w4 ⟨rfl, g4⟩
                      simp only [Int.toNat_natCast] at g4
                      have hX2 : w4.cell? ⟨wr.heap.size, 2, none⟩ = some (.int .i64 (dn : Int)) := by
                        rw [g4.keeps (p := ⟨wr.heap.size, 2, none⟩) (by simp) hXB hXv]
                        simp
                      have HG4 := Lib.hid (Grew.trans HF1.out m1 g4)
                      clear g4 m1
                      go_wp2_with fail
                      go_loop [7, 12] (fun s i => ∃ j : Nat, j ≤ nk ∧ i = .int .i64 j ∧ s = .string ⟨(copied l dn j).toArray⟩) (fun _ i => nk - (intOf i).toNat)
                      case atStart => exact ⟨0, by omega, rfl, rfl⟩
                      case round =>
                        obtain ⟨j, hj, rfl, rfl⟩ := hrel
                        by_cases hlj : j < nk
                        · as_aux_lemma =>
                            have hU := copied_length l dn j
                            have hst := grow_text l dn j (by omega) (by omega)
                            have HST := Lib.hid hst
                            obtain ⟨U, hUe⟩ : ∃ U : ByteArray, U = ⟨(copied l dn j).toArray⟩ := ⟨_, rfl⟩
                            have hUs : U.size = l.length + j := by rw [hUe, ← hU]; simp [ByteArray.size]
                            rw [← hUe]
                            have HUe := Lib.hid hUe
                            have hN1 : U.size ≤ l.length + j := by omega
                            have hN2 : l.length + j ≤ U.size := by omega
                            clear hst hUe hUs hU
                            go_wp2_with fail
                            exact ⟨⟨j + 1, by omega, by go_num, congrArg Value.string (HST.out U HUe.out)⟩, by simp [intOf]; omega⟩
                        · as_aux_lemma =>
                            obtain rfl : j = nk := by omega
                            go_wp2_with fail
                            go_meet
                            exact ⟨_, rfl, by rw [copied_length]; omega, by rw [copied_length]; omega, HG4.out⟩
                  · as_aux_lemma =>
                      have hno : ¬ (1 ≤ d ∧ d ≤ l.length ∧ 0 ≤ nn ∧ nn ≤ (most : Int) - l.length) := of_decide_eq_false HOK.out.symm
                      have HNO := Lib.hid hno
                      clear hno
                      go_wp2_with fail
                      refine (copy_not HA1.out d nn hlm hmle HNO.out).mono ?_
                      rintro e w4 ⟨rfl, q, hq⟩
                      have HG4 := Lib.hid (show Grew W B most (.slice none 0 0) l w4 from by rw [hq]; exact ⟨v1, HA1.out, HF1.out.drewN q, m1⟩)
                      clear hq
                      go_wp2_with fail
                      refine wp_loop_rounds 1 ?_
                      rw [rounds_succ]
                      go_wp2_with fail
                      go_meet
                      exact ⟨l, rfl, by omega, hlm, HG4.out⟩
          · have hb2 : ((x : Int) % 4 == 2) = false := by rw [beq_eq_false_iff_ne]; omega
            obtain ⟨v1, a1, f1, m1⟩ := HGr.out
            obtain ⟨A1, hXB, hXv⟩ := beside a1 #[.int .u8 (x : Int), .int .u8 (y : Int), .int .i64 d, .int .i64 n] 35
            have HA1 := Lib.hid A1
            have HF1 := Lib.hid (f1.alloc (.cells #[.int .u8 (x : Int), .int .u8 (y : Int), .int .i64 d, .int .i64 n] 35))
            clear a1 A1 f1
            by_cases h3 : x % 4 = 3
            · have hb3 : ((x : Int) % 4 == 3) = true := by rw [beq_iff_eq]; omega
              clear h2 h3
              by_cases hth : 1 ≤ d ∧ d ≤ l.length
              · as_aux_lemma =>
                  obtain ⟨y1, y2⟩ := hth
                  obtain ⟨dn, rfl⟩ := Int.eq_ofNat_of_zero_le (show 0 ≤ d by omega)
                  have hzl : l.length - dn < l.length := by omega
                  obtain ⟨z, hz⟩ : ∃ z, l[l.length - dn]? = some z := ⟨_, List.getElem?_eq_getElem hzl⟩
                  have hat := at_yes HA1.out dn y1 y2 (by omega) z (by simpa using hz)
                  unfold byte at hat
                  have HAT := Lib.hid hat
                  obtain ⟨U, hUe⟩ : ∃ U : ByteArray, U = ⟨l.toArray⟩ := ⟨_, rfl⟩
                  have hUs : U.size = l.length := by rw [hUe]; simp [ByteArray.size]
                  have hUz : ∀ h : U.size - dn < U.size, U[U.size - dn] = z := by
                    intro h
                    have h9 : (l.toArray)[U.size - dn]? = some z := by rw [hUs]; simpa using hz
                    obtain ⟨h8, h7⟩ := Array.getElem?_eq_some_iff.1 h9
                    subst hUe
                    exact h7
                  have hN1 : U.size ≤ l.length := by omega
                  have hN2 : l.length ≤ U.size := by omega
                  clear hUs
                  have hidx : U.size - dn < U.size := by omega
                  have hbz : ((z.toNat : Int) != ((U[U.size - dn]'hidx).toNat : Int)) = false := by rw [hUz hidx]; simp
                  have HUe := Lib.hid hUe
                  rw [← hUe]
                  clear hat hz hUz hUe hzl
                  go_wp2_with fail
                  refine HAT.out.mono ?_
                  rintro e w4 ⟨rfl, q, hq⟩
                  have HG4 := Lib.hid (show Grew W B most (.slice none 0 0) l w4 from by rw [hq]; exact ⟨v1, HA1.out, HF1.out.drewN q, m1⟩)
                  have hX2 : w4.cell? ⟨wr.heap.size, 2, none⟩ = some (.int .i64 (dn : Int)) := by rw [hq]; simp
                  clear hq m1
                  go_wp2_with fail
                  go_meet
                  exact ⟨l, congrArg Value.string HUe.out, by omega, hlm, HG4.out⟩
              · as_aux_lemma =>
                  have hno : there d l.length = false := by simp [there]; omega
                  have hat := at_no HA1.out d hno
                  have HAT := Lib.hid hat
                  clear hat hno
                  go_wp2_with fail
                  refine HAT.out.mono ?_
                  rintro e w4 ⟨rfl, hq⟩
                  have HG4 := Lib.hid (show Grew W B most (.slice none 0 0) l w4 from by rw [← hq]; exact ⟨v1, HA1.out, HF1.out, m1⟩)
                  have hX2 : w4.cell? ⟨wr.heap.size, 2, none⟩ = some (.int .i64 d) := by rw [← hq]; simp
                  clear hq m1
                  go_wp2_with fail
                  all_goals
                    go_meet
                    exact ⟨l, rfl, by omega, hlm, HG4.out⟩
            · have hb3 : ((x : Int) % 4 == 3) = false := by rw [beq_eq_false_iff_ne]; omega
              clear h2 h3
              by_cases hroom : l.length < most
              · as_aux_lemma =>
                  have hyn : (y : Int) = ((UInt8.ofNat y).toNat : Int) := by simp; omega
                  have hput := put_of HA1.out hroom hmle (by omega) (UInt8.ofNat y) y hyn
                  have HP := Lib.hid hput
                  have HYN := Lib.hid hyn
                  have HTX := Lib.hid (one_more l (UInt8.ofNat y))
                  clear hput hyn
                  go_wp2_with fail
                  refine HP.out.mono ?_
                  rintro e w4 ⟨rfl, g4⟩
                  have hX1 : w4.cell? ⟨wr.heap.size, 1, none⟩ = some (.int .u8 (y : Int)) := by
                    rw [g4.keeps (p := ⟨wr.heap.size, 1, none⟩) (by simp) hXB hXv]
                    simp
                  have hcv := conv1 w4 (UInt8.ofNat y) y HYN.out
                  have HG4 := Lib.hid ((Grew.trans HF1.out m1 g4).alloc (.cells #[.int .u8 (y : Int)] 5))
                  generalize UInt8.ofNat y = yb at *
                  clear g4 m1
                  go_wp2_with fail
                  go_meet
                  exact ⟨l ++ [yb], congrArg Value.string HTX.out, by simp; omega, by simp; omega, HG4.out⟩
              · as_aux_lemma =>
                  have hput := put_no HA1.out (by omega) hmle (.int .u8 (y : Int))
                  have HP := Lib.hid hput
                  clear hput
                  go_wp2_with fail
                  refine HP.out.mono ?_
                  rintro e w4 ⟨rfl, q, hq⟩
                  have HG4 := Lib.hid (show Grew W B most (.slice none 0 0) l w4 from by rw [hq]; exact ⟨v1, HA1.out, HF1.out.drewN q, m1⟩)
                  clear hq m1
                  go_wp2_with fail
                  all_goals
                    go_meet
                    exact ⟨l, rfl, by omega, hlm, HG4.out⟩
        case rest =>
         as_aux_lemma =>
          obtain ⟨l', rfl, hll', hlm', hg'⟩ := hcut
          have HG' := Lib.hid hg'
          obtain ⟨v', a', _, _⟩ := hg'
          have A' := Lib.hid a'
          clear a'
          go_wp2_with fail
          refine (len_any A'.out).mono ?_
          rintro e w5 ⟨rfl, rfl⟩
          go_wp2_with fail
          refine (text_any A'.out).mono ?_
          rintro e w5 ⟨rfl, rfl⟩
          go_wp2
          go_roundw
          case rel => exact ⟨k + 1, l', by omega, by omega, rfl, by go_num, hll', hlm', HG'.out⟩
          case measure => simp [intOf]; omega
    · as_aux_lemma =>
        have HBw := Lib.hid hbw
        clear hbw hgrew
        have hor : len ≤ k ∨ (60 ≤ k ∧ k < len) := by omega
        rcases hor with ho | ⟨ho, ho2⟩
        all_goals
          go_wp2_with fail
          refine (nil_at _).mono ?_
          rintro e w5 ⟨rfl, rfl⟩
          go_wp2_with fail
          refine (nil_put _ _).mono ?_
          rintro e w5 ⟨rfl, rfl⟩
          go_wp2_with fail
          refine (nil_copy _ _).mono ?_
          rintro e w5 ⟨rfl, rfl⟩
          go_wp2_with fail
          refine (nil_len _).mono ?_
          rintro e w5 ⟨rfl, rfl⟩
          go_wp2_with fail
          refine (nil_text _).mono ?_
          rintro e w5 ⟨rfl, rfl⟩
          go_wp2
          go_ret
          exact ⟨rfl, HBw.out⟩
end Go.Proofs.Ytbkipgbhhjfjfaa.Wnd
