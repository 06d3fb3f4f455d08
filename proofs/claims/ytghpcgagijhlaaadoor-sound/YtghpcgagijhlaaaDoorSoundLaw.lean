/- P5's own promise, the statement Sound, as a contract: for all raw numbers and every root of at most 2^47 - 4096 bytes thicketkeep.Sound returns true and touches nothing that was in memory; the two tables lie in memory as the program's text lays them. -/
import Derived.Test.YtghpcgagijhlaaaDoorBuilt
import Derived.Test.YtghpcgagijhlaaaDoorSoundTwo
import Derived.Test.YtghpcgagijhlaaaDoorKnownLaw
namespace Go.Proofs.YtghpcgagijhlaaaDoor
open Go.RowKit Sha

set_option maxRecDepth 100000 in
set_option maxHeartbeats 2000000 in
theorem Sound_any (kd1 val1 oth1 kd2 val2 oth2 wid num : Int) (v1 v2 : Value) (xs1 xs2 : List Int) (root : ByteArray) (w : World)
    (a1 : -9223372036854775808 ≤ kd1) (a2 : kd1 ≤ 9223372036854775807) (a3 : -9223372036854775808 ≤ val1) (a4 : val1 ≤ 9223372036854775807) (a5 : -9223372036854775808 ≤ oth1) (a6 : oth1 ≤ 9223372036854775807)
    (c1 : -9223372036854775808 ≤ kd2) (c2 : kd2 ≤ 9223372036854775807) (c3 : -9223372036854775808 ≤ val2) (c4 : val2 ≤ 9223372036854775807) (c5 : -9223372036854775808 ≤ oth2) (c6 : oth2 ≤ 9223372036854775807)
    (d1 : -9223372036854775808 ≤ wid) (d2 : wid ≤ 9223372036854775807) (d3 : -9223372036854775808 ≤ num) (d4 : num ≤ 9223372036854775807)
    (hr1 : RawAt w v1 xs1) (hr2 : RawAt w v2 xs2) (hroot : root.size ≤ 140737488351232) (hT : Tabs w) :
    Calls Tryd.prog 7 #[.agg (builtCells kd1 v1 val1 oth1), .agg (builtCells kd2 v2 val2 oth2), .int .i64 wid, .int .i64 num, .string root] w fun e w' => e = .returned (.bool true) ∧ Below w.heap.size w w' := by
  have HT : Hid (Tabs w) := hT
  have R1 : Hid (RawAt w v1 xs1) := hr1
  have R2 : Hid (RawAt w v2 xs2) := hr2
  clear hT hr1 hr2
  have b0 : Hid (Below w.heap.size w ((w.alloc (.cells (builtCells kd1 v1 val1 oth1) 33)).alloc (.cells (builtCells kd2 v2 val2 oth2) 33))) := ((Below.refl _ _).alloc (Nat.le_refl _) _).alloc (by simp) _
  have k0 : Hid (Blk ((w.alloc (.cells (builtCells kd1 v1 val1 oth1) 33)).alloc (.cells (builtCells kd2 v2 val2 oth2) 33)) w.heap.size 33 (builtCells kd1 v1 val1 oth1)) := (Blk.new _ _ _).alloc _
  have l0 : Hid (Blk ((w.alloc (.cells (builtCells kd1 v1 val1 oth1) 33)).alloc (.cells (builtCells kd2 v2 val2 oth2) 33)) (w.heap.size + 1) 33 (builtCells kd2 v2 val2 oth2)) := by
    have := Blk.new (w.alloc (.cells (builtCells kd1 v1 val1 oth1) 33)) 33 (builtCells kd2 v2 val2 oth2)
    rw [size_alloc] at this
    exact this
  go_enter Tryd.func7, Tryd.ntmps7
  go_wp2_with fail
  generalize (w.alloc (.cells (builtCells kd1 v1 val1 oth1) 33)).alloc (.cells (builtCells kd2 v2 val2 oth2) 33) = w0 at *
  refine (known_any w0 (HT.out.below b0.out (Nat.le_refl _))).mono ?_
  rintro e w1 ⟨rfl, hb⟩
  have b1 := below_then' b0.out hb b0.out.size
  have k1 : Hid (Blk w1 w.heap.size 33 (builtCells kd1 v1 val1 oth1)) := k0.out.below hb k0.out.lt
  have l1 : Hid (Blk w1 (w.heap.size + 1) 33 (builtCells kd2 v2 val2 oth2)) := l0.out.below hb l0.out.lt
  clear hb b0 k0 l0
  go_wp2_with fail
  refine (pick_any wid 32 w1 d1 d2 (by omega) (by omega)).mono ?_
  rintro e w2 ⟨rfl, hw2⟩
  obtain rfl : w1 = w2 := hw2.symm
  clear hw2
  obtain ⟨m, hm, hm32⟩ := pickZ_nat wid 32 (by omega)
  rw [show pickZ wid 32 = (m : Int) from hm]
  clear hm
  obtain ⟨k, hk⟩ : ∃ k, 1 + m = k := ⟨_, rfl⟩
  have hki : (1 : Int) + (m : Int) = (k : Int) := by omega
  have hk1 : 1 ≤ k := by omega
  have hk2 : k ≤ 32 := by omega
  have Hki : Hid ((1 : Int) + (m : Int) = (k : Int)) := hki
  clear hk hki
  go_wp2_with fail
  rw [Hki.out]
  refine (indexOf_any num w1 d3 d4).mono ?_
  rintro e w2 ⟨rfl, hb⟩
  have b2 := below_then' b1.out hb b1.out.size
  have k2 : Hid (Blk w2 w.heap.size 33 (builtCells kd1 v1 val1 oth1)) := k1.out.below hb k1.out.lt
  have l2 : Hid (Blk w2 (w.heap.size + 1) 33 (builtCells kd2 v2 val2 oth2)) := l1.out.below hb l1.out.lt
  clear hb b1 k1 l1
  have hIl := idxOf_length num
  go_wp2_with (refine wpList_load_row rfl 33 _ rfl w.heap.size rfl _ _ _ _ k2.out Tryd.underlying33 rfl (by kernel_rfl) ?_)
  refine (Text_any k kd1 val1 oth1 num v1 xs1 w2 hk1 hk2 a1 a2 a3 a4 a5 a6 d3 d4 (R1.out.below b2.out (Nat.le_refl _)) (HT.out.below b2.out (Nat.le_refl _))).mono ?_
  rintro e w3 ⟨hb, rfl⟩
  have b3 := below_then' b2.out hb b2.out.size
  have l3 : Hid (Blk w3 (w.heap.size + 1) 33 (builtCells kd2 v2 val2 oth2)) := l2.out.below hb l2.out.lt
  clear hb b2 k2 l2
  have hm1 := (encode_len hk2 (built_made k (idxOf num) (pickZ kd1 3).toNat (xs1.take 20) val1 oth1 hk2 hIl (by rw [List.length_take]; omega))).2
  have hm2 := (encode_len hk2 (built_made k (idxOf num) (pickZ kd2 3).toNat (xs2.take 20) val2 oth2 hk2 hIl (by rw [List.length_take]; omega))).2
  have hp1 : ((builtPW k (idxOf num) (pickZ kd1 3).toNat (xs1.take 20) val1 oth1).root k (idxOf num)).length = k := dg_length k _ hk2
  have hp2 : ((builtPW k (idxOf num) (pickZ kd2 3).toNat (xs2.take 20) val2 oth2).root k (idxOf num)).length = k := dg_length k _ hk2
  have Hm2 : Hid ((encode k (builtPW k (idxOf num) (pickZ kd2 3).toNat (xs2.take 20) val2 oth2)).length ≤ 1200) := hm2
  have Hp2 : Hid (((builtPW k (idxOf num) (pickZ kd2 3).toNat (xs2.take 20) val2 oth2).root k (idxOf num)).length = k) := hp2
  clear hm2 hp2
  generalize encode k (builtPW k (idxOf num) (pickZ kd1 3).toNat (xs1.take 20) val1 oth1) = S1 at *
  generalize (builtPW k (idxOf num) (pickZ kd1 3).toNat (xs1.take 20) val1 oth1).root k (idxOf num) = Q1 at *
  go_wp2_with (refine wpList_load_row rfl 33 _ rfl (w.heap.size + 1) rfl _ _ _ _ l3.out Tryd.underlying33 rfl (by kernel_rfl) ?_)
  refine (Text_any k kd2 val2 oth2 num v2 xs2 w3 hk1 hk2 c1 c2 c3 c4 c5 c6 d3 d4 (R2.out.below b3.out (Nat.le_refl _)) (HT.out.below b3.out (Nat.le_refl _))).mono ?_
  rintro e w4 ⟨hb, rfl⟩
  have b4 := below_then' b3.out hb b3.out.size
  clear hb b3 l3
  have hm2 := Hm2.out
  have hp2 := Hp2.out
  clear Hm2 Hp2
  generalize encode k (builtPW k (idxOf num) (pickZ kd2 3).toNat (xs2.take 20) val2 oth2) = S2 at *
  generalize (builtPW k (idxOf num) (pickZ kd2 3).toNat (xs2.take 20) val2 oth2).root k (idxOf num) = Q2 at *
  generalize idxOf num = I at *
  go_wp2_with fail
  refine (sound_any ⟨Q1.toArray⟩ ⟨I.toArray⟩ ⟨S1.toArray⟩ ⟨S2.toArray⟩ w4 (by show S1.length ≤ _; omega) (by show S2.length ≤ _; omega) (by show Q1.length ≤ _; omega) (HT.out.below b4.out (Nat.le_refl _))).mono ?_
  rintro e w5 ⟨rfl, hb⟩
  have b5 := below_then' b4.out hb b4.out.size
  clear hb b4
  go_wp2_with fail
  refine (sound_any ⟨Q2.toArray⟩ ⟨I.toArray⟩ ⟨S1.toArray⟩ ⟨S2.toArray⟩ w5 (by show S1.length ≤ _; omega) (by show S2.length ≤ _; omega) (by show Q2.length ≤ _; omega) (HT.out.below b5.out (Nat.le_refl _))).mono ?_
  rintro e w6 ⟨rfl, hb⟩
  have b6 := below_then' b5.out hb b5.out.size
  clear hb b5
  go_wp2_with fail
  refine (sound_any root ⟨I.toArray⟩ ⟨S1.toArray⟩ ⟨S2.toArray⟩ w6 (by show S1.length ≤ _; omega) (by show S2.length ≤ _; omega) hroot (HT.out.below b6.out (Nat.le_refl _))).mono ?_
  rintro e w7 ⟨rfl, hb⟩
  have b7 := below_then' b6.out hb b6.out.size
  clear hb b6
  go_wp2
  go_ret
  exact ⟨rfl, b7.out⟩
end Go.Proofs.YtghpcgagijhlaaaDoor
