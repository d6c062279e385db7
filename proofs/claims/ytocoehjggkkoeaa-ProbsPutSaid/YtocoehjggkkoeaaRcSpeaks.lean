/-
  Layer 3's statements: their first lines (speaks) return true; the part of a step.
-/
import Derived.Test.YtocoehjggkkoeaaRcDecD
import Derived.Test.YtocoehjggkkoeaaRcBackMath
namespace Go.Proofs.Ytocoehjggkkoeaa
open Go.RowKit
theorem Step.alloc_paint (w : World) (O : Paint) (c : Nat) (o : Obj) : Step [] w O (w.alloc o) (Step.paint O w c) := ((Step.refl [] w O).alloc o).repaint c
theorem Blk.new (w : World) (O : Paint) (c : Nat) (o : Obj) : Blk (w.alloc o) (Step.paint O w c) c w.heap.size o := ⟨heap_alloc_new w o, Step.paint_new (Nat.le_refl _)⟩
/-- Since w0 nothing that was there was written, and nobody owns it. -/
structure Run (w0 w : World) (O : Paint) : Prop where
  below : Below w0.heap.size w0 w
  clear : Clear w0.heap.size O
theorem Run.start (w : World) : Run w w (fun _ => 0) := ⟨Below.refl _ _, fun _ _ => rfl⟩
theorem Run.step {w0 w w' : World} {O O' : Paint} {cs : List Nat} (h : Run w0 w O) (hs : Step cs w O w' O') (h0 : 0 ∉ cs) : Run w0 w' O' :=
  ⟨h.clear.below hs h0 h.below.size h.below, h.clear.step hs h.below.size⟩
end Go.Proofs.Ytocoehjggkkoeaa
namespace Go.Proofs.Ytocoehjggkkoeaa.Rc
open Go.RowKit
theorem k_bits : (Dec.read (Enc.start.bit 1024 1).bytes).bitOf 1024 = 1 ∧ learn 1024 1 = 992 ∧ ((Dec.read (Enc.start.bit 1024 1).bytes).getBit 1024).done = true ∧ ((Dec.read (Enc.start.bit 1024 1).bytes).getBit 1024).bad = false := by decide +kernel
theorem k_bytes : Enc.start.bytes = [0, 0, 0, 0, 0] := by decide +kernel
set_option maxHeartbeats 1000000 in
theorem speaks3 (w : World) : Calls Try.prog 9 #[] w fun x w' => x = .returned (.bool true) ∧ Below w.heap.size w w' := by
  have HRUN := Lib.hid (Run.start w)
  go_enter Try.func9, Try.ntmps9
  go_wp2_with fail
  refine (new_enc w (fun _ => 0) 1).mono ?_
  rintro x w1 ⟨a, rfl, ha, O1, hs1, he1⟩
  have HR1 := Lib.hid (HRUN.out.step hs1 (by simp))
  have HE1 := Lib.hid he1
  clear hs1 he1 HRUN
  go_wp2_with fail
  refine (enc_end HE1.out (by decide)).mono ?_
  rintro x w2 ⟨rfl, hb2⟩
  rw [k_bytes]
  have hs2 := Step.of_below_same hb2 O1
  have HR2 := Lib.hid (HR1.out.step hs2 (by simp))
  have HE2 := Lib.hid (HE1.out.step hs2 (by simp))
  clear hb2 hs2 HR1 HE1
  go_wp2_with fail
  have hs3 := Step.alloc_paint w2 O1 2 (.cells #[.int .u16 1024] 31)
  have hb3 := Blk.new w2 O1 2 (.cells #[.int .u16 1024] 31)
  have he3 := HE2.out.step hs3 (by simp)
  have hr3 := HR2.out.step hs3 (by simp)
  have hz3 : (w2.alloc (.cells #[.int .u16 1024] 31)).heap.size = w2.heap.size + 1 := World.size_alloc _ _
  generalize w2.alloc (.cells #[.int .u16 1024] 31) = W3 at *
  generalize Step.paint O1 w2 2 = O3 at *
  have hs4 := Step.alloc_paint W3 O3 3 (.cells #[.int .u16 1024] 31)
  have hq4 := Blk.new W3 O3 3 (.cells #[.int .u16 1024] 31)
  have hb4 := hb3.step hs4 (by simp)
  have he4 := he3.step hs4 (by simp)
  have hr4 := hr3.step hs4 (by simp)
  rw [hz3] at hq4
  generalize W3.alloc (.cells #[.int .u16 1024] 31) = W4 at *
  generalize Step.paint O3 W3 3 = O4 at *
  generalize w2.heap.size = P at *
  clear hs3 hb3 he3 hr3 hz3 hs4 HE2 HR2
  refine (encbit he4 (by decide) (p := 1024) (b := 1) (hb4.cell 0) (hb4.free 0) (by show O4 P ≠ 1; rw [hb4.2]; decide) (by omega) (by omega) (by omega)).mono ?_
  rintro x w5 ⟨rfl, O5, hs5, he5⟩
  obtain ⟨kb, kl, kd, kbad⟩ := k_bits
  have hst5 := Step.store W4 O4 ⟨P, 0, none⟩ (.int .u16 ((learn 1024 1 : Nat) : Int))
  simp only [hb4.2] at hst5
  have hr5 := (hr4.step hst5 (by simp)).step hs5 (by simp)
  have hb5 := (hb4.setCell 0 (.int .u16 ((learn 1024 1 : Nat) : Int))).step hs5 (by simp)
  have hq5 := (hq4.step hst5 (by simp)).step hs5 (by simp)
  rw [kl] at hb5
  have HE5 := Lib.hid he5
  have HR5 := Lib.hid hr5
  have HB5 := Lib.hid hb5
  have HQ5 := Lib.hid hq5
  have KB := Lib.hid kb
  have KL := Lib.hid kl
  have KD := Lib.hid kd
  have KBAD := Lib.hid kbad
  clear he5 hr5 hb5 hq5 hst5 hs5 hb4 he4 hr4 hq4 kb kl kd kbad
  go_wp2_with fail
  refine (enc_end HE5.out (by decide +kernel)).mono ?_
  rintro x w6 ⟨rfl, hb6⟩
  have hs6 := Step.of_below_same hb6 O5
  have HR6 := Lib.hid (HR5.out.step hs6 (by simp))
  have HB6 := Lib.hid (HB5.out.step hs6 (by simp))
  have HQ6 := Lib.hid (HQ5.out.step hs6 (by simp))
  clear hs6 hb6 HE5 HR5 HB5 HQ5
  go_wp2_with fail
  refine (newdec ⟨(Enc.start.bit 1024 1).bytes.toArray⟩ (by decide +kernel) _ O5 4).mono ?_
  rintro x w7 ⟨rfl, O7, hs7, hd7⟩
  generalize w6.heap.size = D at *
  have HR7 := Lib.hid (HR6.out.step hs7 (by simp))
  have hb7 := HB6.out.step hs7 (by simp)
  have hq7 := HQ6.out.step hs7 (by simp)
  generalize hDD : Dec.read (ByteArray.data ⟨(Enc.start.bit 1024 1).bytes.toArray⟩).toList = DD at *
  have p7 : w7.cell? ⟨P, 0, none⟩ = some (.int .u16 992) := hb7.cell 0
  have q7 : w7.cell? ⟨P + 1, 0, none⟩ = some (.int .u16 1024) := hq7.cell 0
  have HB7 := Lib.hid hb7
  have HQ7 := Lib.hid hq7
  have HD7 := Lib.hid hd7
  clear hs7 hd7 hb7 hq7 HR6 HB6 HQ6 hDD
  go_wp2_with fail
  refine (decbit HD7.out (p := 1024) q7 (HQ7.out.free 0) (by show O7 (P + 1) ≠ 4; rw [HQ7.out.2]; decide) (by omega) (by omega)).mono ?_
  rintro x w8 ⟨rfl, hs8, hd8⟩
  rw [KB.out, KL.out] at hs8
  rw [KB.out]
  have hst8 := Step.store w7 O7 ⟨P + 1, 0, none⟩ (.int .u16 ((992 : Nat) : Int))
  simp only [HQ7.out.2] at hst8
  have HR8 := Lib.hid ((HR7.out.step hst8 (by simp)).step hs8 (by simp))
  have hb8 := (HB7.out.step hst8 (by simp)).step hs8 (by simp)
  have hq8 := (HQ7.out.setCell 0 (.int .u16 ((992 : Nat) : Int))).step hs8 (by simp)
  have p8 : w8.cell? ⟨P, 0, none⟩ = some (.int .u16 992) := hb8.cell 0
  have q8 : w8.cell? ⟨P + 1, 0, none⟩ = some (.int .u16 992) := hq8.cell 0
  have HD8 := Lib.hid hd8
  clear hst8 hs8 hd8 hb8 hq8 p7 q7 HB7 HQ7 HR7 HD7
  go_wp2_with fail
  refine (dec_done HD8.out).mono ?_
  rw [KD.out]
  rintro x w9 ⟨rfl, n, hn⟩
  have hs9 : Step [] w8 O7 w9 O7 := by rw [hn]; exact (Step.refl _ _ _).drewN n
  have HR9 := Lib.hid (HR8.out.step hs9 (by simp))
  have HD9 := Lib.hid (HD8.out.step hs9 (by simp))
  clear hs9 hn HR8 HD8 p8 q8
  go_wp2_with fail
  refine (dec_bad HD9.out).mono ?_
  rw [KBAD.out]
  rintro x w10 ⟨rfl, rfl⟩
  go_wp2
  go_ret
  exact ⟨rfl, HR9.out.below⟩
end Go.Proofs.Ytocoehjggkkoeaa.Rc
