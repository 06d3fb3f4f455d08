/- P4, the statement Taken, as a contract: for all raw numbers thicketkeep.Taken returns true and touches nothing that was in memory; the two tables lie in memory as the program's text lays them. -/
import Derived.Test.YtghpcgagijhlaaaDoorBuilt
import Derived.Test.YtghpcgagijhlaaaDoorKnownLaw
namespace Go.Proofs.YtghpcgagijhlaaaDoor
open Go.RowKit Sha

def flip1 (x : UInt8) : UInt8 := UInt8.ofNat (x.toNat ^^^ 1)
theorem flip1_ne (x : UInt8) : flip1 x ≠ x := by
  have H : ∀ x : Fin 256, (x.val ^^^ 1) % 256 ≠ x.val := by decide +kernel
  intro h
  have h1 := congrArg UInt8.toNat h
  rw [flip1, UInt8.toNat_ofNat'] at h1
  exact H ⟨x.toNat, x.toNat_lt⟩ h1
theorem xor_one (x : UInt8) : bits .xor .u8 (x.toNat : Int) 1 = ((flip1 x).toNat : Int) := by
  have H : ∀ x : Fin 256, bits .xor .u8 (x.val : Int) 1 = (((x.val ^^^ 1) % 256 : Nat) : Int) := by decide +kernel
  rw [flip1, UInt8.toNat_ofNat']
  exact H ⟨x.toNat, x.toNat_lt⟩
theorem built_kind (k : Nat) (I : List UInt8) (m : Nat) (ys : List Int) (val oth : Int) (hm : m ≤ 2) : (builtPW k I m ys val oth).kind = m := by
  unfold builtPW
  split
  · rename_i h; exact h.symm
  · split
    · rename_i h; exact h.symm
    · show 0 = m; omega
theorem built_said (k : Nat) (I : List UInt8) (m : Nat) (ys : List Int) (val oth : Int) (hm : m ≤ 2) : (builtPW k I m ys val oth).said = if m = 1 then (1, valOf val) else (2, []) := by
  rw [PW.said, built_kind _ _ _ _ _ _ hm]
  split
  · rename_i h
    unfold builtPW
    rw [if_pos h]
  · rfl
theorem built_value (k : Nat) (I : List UInt8) (m : Nat) (ys : List Int) (val oth : Int) : (builtPW k I m ys val oth).value.length ≤ 4 := by
  have := valOf_length val
  unfold builtPW
  split
  · exact this
  · split <;> simp
theorem built_one (k : Nat) (I : List UInt8) (ys : List Int) (val oth : Int) : (builtPW k I 1 ys val oth).value = valOf val := rfl

set_option maxRecDepth 100000 in
set_option maxHeartbeats 4000000 in
theorem Taken_any (kd val oth wid num : Int) (v : Value) (xs : List Int) (w : World)
    (a1 : -9223372036854775808 ≤ kd) (a2 : kd ≤ 9223372036854775807) (a3 : -9223372036854775808 ≤ val) (a4 : val ≤ 9223372036854775807) (a5 : -9223372036854775808 ≤ oth) (a6 : oth ≤ 9223372036854775807)
    (d1 : -9223372036854775808 ≤ wid) (d2 : wid ≤ 9223372036854775807) (d3 : -9223372036854775808 ≤ num) (d4 : num ≤ 9223372036854775807)
    (hr : RawAt w v xs) (hT : Tabs w) :
    Calls Tryd.prog 5 #[.agg (builtCells kd v val oth), .int .i64 wid, .int .i64 num] w fun e w' => e = .returned (.bool true) ∧ Below w.heap.size w w' := by
  have HT : Hid (Tabs w) := hT
  have R1 : Hid (RawAt w v xs) := hr
  clear hT hr
  have b0 : Hid (Below w.heap.size w (w.alloc (.cells (builtCells kd v val oth) 33))) := (Below.refl _ _).alloc (Nat.le_refl _) _
  have k0 : Hid (Blk (w.alloc (.cells (builtCells kd v val oth) 33)) w.heap.size 33 (builtCells kd v val oth)) := Blk.new _ _ _
  go_enter Tryd.func5, Tryd.ntmps5
  go_wp2_with fail
  generalize w.alloc (.cells (builtCells kd v val oth) 33) = w0 at *
  refine (known_any w0 (HT.out.below b0.out (Nat.le_refl _))).mono ?_
  rintro e w1 ⟨rfl, hb⟩
  have b1 := below_then' b0.out hb b0.out.size
  have k1 : Hid (Blk w1 w.heap.size 33 (builtCells kd v val oth)) := k0.out.below hb k0.out.lt
  clear hb b0 k0
  go_wp2_with fail
  refine (pick_any wid 32 w1 d1 d2 (by omega) (by omega)).mono ?_
  rintro e w2 ⟨rfl, hw2⟩
  obtain rfl : w1 = w2 := hw2.symm
  clear hw2
  obtain ⟨m0, hm, hm32⟩ := pickZ_nat wid 32 (by omega)
  rw [show pickZ wid 32 = (m0 : Int) from hm]
  clear hm
  obtain ⟨k, hk⟩ : ∃ k, 1 + m0 = k := ⟨_, rfl⟩
  have hki : (1 : Int) + (m0 : Int) = (k : Int) := by omega
  have hk1 : 1 ≤ k := by omega
  have hk2 : k ≤ 32 := by omega
  have Hki : Hid ((1 : Int) + (m0 : Int) = (k : Int)) := hki
  clear hk hki
  go_wp2_with fail
  rw [Hki.out]
  refine (indexOf_any num w1 d3 d4).mono ?_
  rintro e w2 ⟨rfl, hb⟩
  have b2 := below_then' b1.out hb b1.out.size
  have k2 : Hid (Blk w2 w.heap.size 33 (builtCells kd v val oth)) := k1.out.below hb k1.out.lt
  clear hb b1 k1
  have hIl := idxOf_length num
  go_wp2_with (refine wpList_load_row rfl 33 _ rfl w.heap.size rfl _ _ _ _ k2.out Tryd.underlying33 rfl (by kernel_rfl) ?_)
  refine (Text_any k kd val oth num v xs w2 hk1 hk2 a1 a2 a3 a4 a5 a6 d3 d4 (R1.out.below b2.out (Nat.le_refl _)) (HT.out.below b2.out (Nat.le_refl _))).mono ?_
  rintro e w3 ⟨hb, rfl⟩
  have b3 := below_then' b2.out hb b2.out.size
  have k3 : Hid (Blk w3 w.heap.size 33 (builtCells kd v val oth)) := k2.out.below hb k2.out.lt
  clear hb b2 k2
  obtain ⟨m, hm, hm3⟩ := pickZ_nat kd 3 (by omega)
  have hmt : (pickZ kd 3).toNat = m := by have h : pickZ kd 3 = (m : Int) := hm; omega
  have Hm : Hid (pickZ kd 3 = (m : Int)) := hm
  rw [hmt]
  clear hm hmt
  have HMd : Hid (Made k (idxOf num) (builtPW k (idxOf num) m (xs.take 20) val oth)) := built_made k _ m _ val oth hk2 hIl (by rw [List.length_take]; omega)
  have HKd : Hid ((builtPW k (idxOf num) m (xs.take 20) val oth).kind = m) := built_kind _ _ _ _ _ _ (by omega)
  have HSd : Hid ((builtPW k (idxOf num) m (xs.take 20) val oth).said = if m = 1 then (1, valOf val) else (2, [])) := built_said _ _ _ _ _ _ (by omega)
  have HVl : Hid ((builtPW k (idxOf num) m (xs.take 20) val oth).value.length ≤ 4) := built_value _ _ _ _ _ _
  have HV1 : Hid (m = 1 → (builtPW k (idxOf num) m (xs.take 20) val oth).value = valOf val) := fun h => by rw [h]; rfl
  generalize builtPW k (idxOf num) m (xs.take 20) val oth = p at *
  generalize idxOf num = I at *
  have Hv1 : Hid (verdict (p.root k I) I (encode k p) = (p.said.1, p.said.2, 0)) := made_verdict hk1 hk2 hIl HMd.out
  have Ho : Hid (∀ R : List UInt8, R.length = k → R ≠ p.root k I → verdict R I (encode k p) = (0, [], 3)) := fun R h1 h2 => made_other hk1 hk2 hIl HMd.out h1 h2
  have HQl : (p.root k I).length = k := dg_length k _ hk2
  have Hs2 : Hid (verdict (p.root k I) I ((encode k p).take 2) = (0, [], 2)) := short_verdict (by omega) (by omega) hIl (by rw [List.length_take]; omega)
  obtain ⟨hl0, hl1⟩ := longer_verdict hk1 hk2 hIl HMd.out HVl.out
  have HL0 : Hid (p.kind ≠ 1 → verdict (p.root k I) I (encode k p ++ [0]) = (0, [], 2)) := hl0
  have HL1 : Hid (p.kind = 1 → verdict (p.root k I) I (encode k p ++ [0]) = (0, [], 3) ∨ verdict (p.root k I) I (encode k p ++ [0]) = (1, p.value ++ [0], 0)) := hl1
  obtain ⟨hS3, hS12⟩ := encode_len hk2 HMd.out
  clear hl0 hl1
  generalize encode k p = S at *
  generalize p.root k I = Q at *
  go_wp2_with fail
  refine (pVerify_any ⟨Q.toArray⟩ ⟨I.toArray⟩ ⟨S.toArray⟩ w3 (by show S.length ≤ _; omega) (by show Q.length ≤ _; omega) (HT.out.below b3.out (Nat.le_refl _))).mono ?_
  rintro e w4 ⟨hb, rfl⟩
  have b4 := below_then' b3.out hb b3.out.size
  have k4 : Hid (Blk w4 w.heap.size 33 (builtCells kd v val oth)) := k3.out.below hb k3.out.lt
  clear hb b3 k3
  rw [show verdict (⟨Q.toArray⟩ : ByteArray).data.toList (⟨I.toArray⟩ : ByteArray).data.toList (⟨S.toArray⟩ : ByteArray).data.toList = (p.said.1, p.said.2, 0) from Hv1.out]
  by_cases hm1 : m = 1
  · skip
    obtain rfl := hm1
    have hsd := HSd.out
    rw [if_pos rfl] at hsd
    rw [hsd]
    have hvl := valOf_length val
    have HVV : Hid (p.value = valOf val) := HV1.out rfl
    have HL : Hid (verdict Q I (S ++ [0]) = (0, [], 3) ∨ verdict Q I (S ++ [0]) = (1, valOf val ++ [0], 0)) := by have := HL1.out HKd.out; rw [HVV.out] at this; exact this
    clear hsd HSd HL0 HL1 HV1
    generalize hVv : valOf val = V at *
    have HVv : Hid (valOf val = V) := hVv
    clear hVv
    have b5 : Hid (Below w.heap.size w ((w4.alloc (.cells #[.int .i64 1, .string ⟨V.toArray⟩] 39)).alloc (.cells #[.int .i64 2, .string ⟨#[]⟩] 39))) := (b4.out.alloc b4.out.size _).alloc (by rw [size_alloc]; have := b4.out.size; omega) _
    have k5 : Hid (Blk ((w4.alloc (.cells #[.int .i64 1, .string ⟨V.toArray⟩] 39)).alloc (.cells #[.int .i64 2, .string ⟨#[]⟩] 39)) w.heap.size 33 (builtCells kd v val oth)) := (k4.out.alloc _).alloc _
    have g5 : Hid (Blk ((w4.alloc (.cells #[.int .i64 1, .string ⟨V.toArray⟩] 39)).alloc (.cells #[.int .i64 2, .string ⟨#[]⟩] 39)) w4.heap.size 39 #[.int .i64 1, .string ⟨V.toArray⟩]) := (Blk.new _ _ _).alloc _
    have h5 : Hid (Blk ((w4.alloc (.cells #[.int .i64 1, .string ⟨V.toArray⟩] 39)).alloc (.cells #[.int .i64 2, .string ⟨#[]⟩] 39)) (w4.heap.size + 1) 39 #[.int .i64 2, .string ⟨#[]⟩]) := by
      have := Blk.new (w4.alloc (.cells #[.int .i64 1, .string ⟨V.toArray⟩] 39)) 39 #[.int .i64 2, .string ⟨#[]⟩]
      rw [size_alloc] at this
      exact this
    have e0 : ((w4.alloc (.cells #[.int .i64 1, .string ⟨V.toArray⟩] 39)).alloc (.cells #[.int .i64 2, .string ⟨#[]⟩] 39)).cell? ⟨w.heap.size, 0, none⟩ = some (.int .i64 kd) := (k5.out.cell 0).trans rfl
    have hlt4 : w.heap.size < w4.heap.size := k4.out.lt
    clear b4 k4
    simp only [verdictCells]
    go_wp2_with fail
    generalize ((w4.alloc (.cells #[.int .i64 1, .string ⟨V.toArray⟩] 39)).alloc (.cells #[.int .i64 2, .string ⟨#[]⟩] 39)) = w5 at *
    generalize w4.heap.size = gv at *
    refine (pick_any kd 3 w5 a1 a2 (by omega) (by omega)).mono ?_
    rintro e w6 ⟨rfl, hw6⟩
    obtain rfl : w5 = w6 := hw6.symm
    clear hw6
    rw [Hm.out]
    have e2 : w5.cell? ⟨w.heap.size, 2, none⟩ = some (.int .i64 val) := (k5.out.cell 2).trans rfl
    go_wp2_with fail
    refine (valueOf_any val w5 a3 a4).mono ?_
    rw [HVv.out]
    rintro e w6 ⟨rfl, hb⟩
    have b6' := below_then' b5.out hb b5.out.size
    have k6' : Hid (Blk w6 w.heap.size 33 (builtCells kd v val oth)) := k5.out.below hb k5.out.lt
    have g6' : Hid (Blk w6 gv 39 #[.int .i64 1, .string ⟨V.toArray⟩]) := g5.out.below hb g5.out.lt
    have h6' : Hid (Blk w6 (gv + 1) 39 #[.int .i64 2, .string ⟨#[]⟩]) := h5.out.below hb h5.out.lt
    clear hb b5 k5 g5 h5 e0 e2
    have b6 : Hid (Below w.heap.size w (w6.setRow (gv + 1) #[.int .i64 1, .string ⟨V.toArray⟩])) := below_setRow b6'.out (by omega) _
    have k6 : Hid (Blk (w6.setRow (gv + 1) #[.int .i64 1, .string ⟨V.toArray⟩]) w.heap.size 33 (builtCells kd v val oth)) := k6'.out.row_other _ (by omega)
    have g6 : Hid (Blk (w6.setRow (gv + 1) #[.int .i64 1, .string ⟨V.toArray⟩]) gv 39 #[.int .i64 1, .string ⟨V.toArray⟩]) := g6'.out.row_other _ (by omega)
    have h6 : Hid (Blk (w6.setRow (gv + 1) #[.int .i64 1, .string ⟨V.toArray⟩]) (gv + 1) 39 #[.int .i64 1, .string ⟨V.toArray⟩]) := h6'.out.row_same _
    go_upto_region 9 with (refine wpList_store_row rfl 39 _ _ rfl (gv + 1) #[.int .i64 1, .string ⟨V.toArray⟩] rfl rfl _ _ h6'.out (by kernel_rfl) rfl (by simp [Value.oneCell']) ?_)
    clear b6' k6' g6' h6'
    generalize w6.setRow (gv + 1) #[.int .i64 1, .string ⟨V.toArray⟩] = w7 at *
    have q0 : w7.cell? ⟨gv, 0, none⟩ = some (.int .i64 1) := (g6.out.cell 0).trans rfl
    have q1 : w7.cell? ⟨gv, 1, none⟩ = some (.string ⟨V.toArray⟩) := (g6.out.cell 1).trans rfl
    have q2 : w7.cell? ⟨gv + 1, 0, none⟩ = some (.int .i64 1) := (h6.out.cell 0).trans rfl
    have q3 : w7.cell? ⟨gv + 1, 1, none⟩ = some (.string ⟨V.toArray⟩) := (h6.out.cell 1).trans rfl
    have hcv := fun W ss => Lib.run_convert_string_bytes (P := Tryd.prog) W 9 42 5 ss Tryd.underlying9 Tryd.underlying42 Tryd.underlying5
    have sQ : (⟨Q.toArray⟩ : ByteArray).size = k := HQl
    have b8 : Hid (Below w.heap.size w (Lib.bytesWorld w7 5 ⟨Q.toArray⟩)) := b6.out.trans ((below_bytes w7 _ _).mono b6.out.size)
    have k8 : Hid (Blk (Lib.bytesWorld w7 5 ⟨Q.toArray⟩) w.heap.size 33 (builtCells kd v val oth)) := k6.out.below (below_bytes w7 _ _) k6.out.lt
    have g8 : Hid (Blk (Lib.bytesWorld w7 5 ⟨Q.toArray⟩) gv 39 #[.int .i64 1, .string ⟨V.toArray⟩]) := g6.out.below (below_bytes w7 _ _) g6.out.lt
    have o8 : Hid (Own (Lib.bytesWorld w7 5 ⟨Q.toArray⟩) (gv + 1) 5 (.slice (some ⟨w7.heap.size, 0, none⟩) k (grownCap w7 k 0 5)) k (Q.map fun b => .int .u8 (b.toNat : Int))) := by
      have h := own_bytes w7 (gv + 1) 5 ⟨Q.toArray⟩ g6.out.lt
      rw [sQ] at h
      exact h
    go_upto_region 12 with (fail)
    clear hcv b6 k6 g6 h6 q0 q1 q2 q3
    generalize Lib.bytesWorld w7 5 ⟨Q.toArray⟩ = w8 at *
    generalize grownCap w7 k 0 5 = cb at *
    generalize w7.heap.size = gb at *
    have eB : w8.cell? ⟨gb, 0, none⟩ = some (.int .u8 ((Q.getD 0 0).toNat : Int)) := by
      rw [o8.out.cell 0 (by omega), List.getElem?_map, List.getD_eq_getElem?_getD, List.getElem?_eq_getElem (by omega)]
      rfl
    have fB : w8.frozen? ⟨gb, 0, none⟩ = false := o8.out.frozen 0 (by omega)
    have hxo : bits .xor .u8 ((Q.getD 0 0).toNat : Int) 1 = ((flip1 (Q.getD 0 0)).toNat : Int) := xor_one _
    have hk0 : (0 : Int) < (k : Int) := by omega
    obtain ⟨hgb1, hgb2, hcb⟩ := o8.out.base
    have hRl : (Q.set 0 (flip1 (Q.getD 0 0))).length = k := by rw [List.length_set]; exact HQl
    have hRn : Q.set 0 (flip1 (Q.getD 0 0)) ≠ Q := fun h => by
      have h1 := getD_set Q 0 0 (flip1 (Q.getD 0 0)) (by omega)
      rw [h, if_pos rfl] at h1
      exact flip1_ne _ h1.symm
    have HoR : Hid (verdict (Q.set 0 (flip1 (Q.getD 0 0))) I S = (0, [], 3)) := Ho.out _ hRl hRn
    have hx256 := (Q.getD 0 0).toNat_lt
    have o9 : Hid (Own (w8.setCell ⟨gb, 0, none⟩ (.int .u8 ((flip1 (Q.getD 0 0)).toNat : Int))) (gv + 1) 5 (.slice (some ⟨gb, 0, none⟩) k cb) k ((Q.set 0 (flip1 (Q.getD 0 0))).map fun b => .int .u8 (b.toNat : Int))) := by
      have h := o8.out.stored 0 (.int .u8 ((flip1 (Q.getD 0 0)).toNat : Int))
      rw [show (Q.map fun b => Value.int .u8 (b.toNat : Int)).set 0 (.int .u8 ((flip1 (Q.getD 0 0)).toNat : Int)) = (Q.set 0 (flip1 (Q.getD 0 0))).map fun b => .int .u8 (b.toNat : Int) by rw [List.map_set]] at h
      exact h
    clear hRn Ho o8
    generalize Q.set 0 (flip1 (Q.getD 0 0)) = Q2 at *
    generalize flip1 (Q.getD 0 0) = x1 at *
    generalize Q.getD 0 0 = x0 at *
    have b9 : Hid (Below w.heap.size w (w8.setCell ⟨gb, 0, none⟩ (.int .u8 (x1.toNat : Int)))) := b8.out.setCell (by simp only; omega) _
    have k9 : Hid (Blk (w8.setCell ⟨gb, 0, none⟩ (.int .u8 (x1.toNat : Int))) w.heap.size 33 (builtCells kd v val oth)) := k8.out.set_other _ _ (by simp only; omega)
    have g9 : Hid (Blk (w8.setCell ⟨gb, 0, none⟩ (.int .u8 (x1.toNat : Int))) gv 39 #[.int .i64 1, .string ⟨V.toArray⟩]) := g8.out.set_other _ _ (by simp only; omega)
    go_upto_region 13 with (fail)
    clear eB fB hxo hx256 b8 k8 g8
    generalize w8.setCell ⟨gb, 0, none⟩ (.int .u8 (x1.toNat : Int)) = w9 at *
    have hst : (convert 42 9 (.slice (some ⟨gb, 0, none⟩) k cb)).run Tryd.prog w9 = .ok (.string ⟨Q2.toArray⟩) w9 := by
      have h := run_string_of (P := Tryd.prog) w9 42 9 5 gb 0 cb Q2 Tryd.underlying42 Tryd.underlying5 Tryd.underlying9 (fun j hj => by
        rw [Nat.zero_add, o9.out.cell j (by omega), List.getElem?_map, List.getD_eq_getElem?_getD, List.getElem?_eq_getElem hj]
        rfl)
      rw [hRl] at h
      exact h
    go_wp2_with fail
    clear hst o9
    refine (pVerify_any ⟨Q2.toArray⟩ ⟨I.toArray⟩ ⟨S.toArray⟩ w9 (by show S.length ≤ _; omega) (by show Q2.length ≤ _; omega) (HT.out.below b9.out (Nat.le_refl _))).mono ?_
    rintro e wa ⟨hb, rfl⟩
    rw [show verdict (⟨Q2.toArray⟩ : ByteArray).data.toList (⟨I.toArray⟩ : ByteArray).data.toList (⟨S.toArray⟩ : ByteArray).data.toList = (0, [], 3) from HoR.out]
    have ba : Hid (Below w.heap.size w (wa.alloc (.cells #[.int .i64 0, .string ⟨#[]⟩] 39))) := (below_then' b9.out hb b9.out.size).out.alloc (below_then' b9.out hb b9.out.size).out.size _
    have ka : Hid (Blk (wa.alloc (.cells #[.int .i64 0, .string ⟨#[]⟩] 39)) w.heap.size 33 (builtCells kd v val oth)) := (k9.out.below hb k9.out.lt).alloc _
    have ga : Hid (Blk (wa.alloc (.cells #[.int .i64 0, .string ⟨#[]⟩] 39)) gv 39 #[.int .i64 1, .string ⟨V.toArray⟩]) := (g9.out.below hb g9.out.lt).alloc _
    clear hb b9 k9 g9 HoR
    simp only [verdictCells]
    have hex : Hid ((⟨S.toArray⟩ : ByteArray).extract 0 2 = ⟨(S.take 2).toArray⟩) := by
      apply ByteArray.ext
      apply Array.toList_inj.1
      simp
    have i2 : (2 : Int) ≤ ((⟨S.toArray⟩ : ByteArray).size : Int) := by show (2 : Int) ≤ ((S.length : Nat) : Int); omega
    have hSs : (⟨S.toArray⟩ : ByteArray).size ≤ 1200 := hS12
    have hapS : Hid ((⟨S.toArray⟩ : ByteArray) ++ ⟨#[0]⟩ = ⟨(S ++ [0]).toArray⟩) := by
      apply ByteArray.ext
      apply Array.toList_inj.1
      simp [ByteArray.data_append]
    have hS0l : (S ++ [0]).length ≤ 1201 := by rw [List.length_append]; simp only [List.length_cons, List.length_nil]; omega
    generalize S ++ [0] = S0 at *
    obtain ⟨SB, hSB⟩ : ∃ SB : ByteArray, SB = ⟨S.toArray⟩ := ⟨_, rfl⟩
    rw [← hSB] at hex i2 hSs hapS ⊢
    clear hSB
    go_wp2_with fail
    rw [hex.out]
    generalize wa.alloc (.cells #[.int .i64 0, .string ⟨#[]⟩] 39) = wb at *
    refine (pVerify_any ⟨Q.toArray⟩ ⟨I.toArray⟩ ⟨(S.take 2).toArray⟩ wb (by show (S.take 2).length ≤ _; rw [List.length_take]; omega) (by show Q.length ≤ _; omega) (HT.out.below ba.out (Nat.le_refl _))).mono ?_
    rintro e wc ⟨hb, rfl⟩
    rw [show verdict (⟨Q.toArray⟩ : ByteArray).data.toList (⟨I.toArray⟩ : ByteArray).data.toList (⟨(S.take 2).toArray⟩ : ByteArray).data.toList = (0, [], 2) from Hs2.out]
    have bc : Hid (Below w.heap.size w (wc.alloc (.cells #[.int .i64 0, .string ⟨#[]⟩] 39))) := (below_then' ba.out hb ba.out.size).out.alloc (below_then' ba.out hb ba.out.size).out.size _
    have kc : Hid (Blk (wc.alloc (.cells #[.int .i64 0, .string ⟨#[]⟩] 39)) w.heap.size 33 (builtCells kd v val oth)) := (ka.out.below hb ka.out.lt).alloc _
    have gc : Hid (Blk (wc.alloc (.cells #[.int .i64 0, .string ⟨#[]⟩] 39)) gv 39 #[.int .i64 1, .string ⟨V.toArray⟩]) := (ga.out.below hb ga.out.lt).alloc _
    clear hb ba ka ga
    simp only [verdictCells]
    go_wp2_with fail
    rw [hapS.out]
    generalize wc.alloc (.cells #[.int .i64 0, .string ⟨#[]⟩] 39) = wd at *
    refine (pVerify_any ⟨Q.toArray⟩ ⟨I.toArray⟩ ⟨S0.toArray⟩ wd (by show S0.length ≤ _; omega) (by show Q.length ≤ _; omega) (HT.out.below bc.out (Nat.le_refl _))).mono ?_
    rintro e we ⟨hb, rfl⟩
    have be := below_then' bc.out hb bc.out.size
    have ke : Hid (Blk we w.heap.size 33 (builtCells kd v val oth)) := kc.out.below hb kc.out.lt
    have ge : Hid (Blk we gv 39 #[.int .i64 1, .string ⟨V.toArray⟩]) := gc.out.below hb gc.out.lt
    clear hb bc kc gc
    rcases HL.out with hL | hL
    · rw [show verdict (⟨Q.toArray⟩ : ByteArray).data.toList (⟨I.toArray⟩ : ByteArray).data.toList (⟨S0.toArray⟩ : ByteArray).data.toList = (0, [], 3) from hL]
      clear hL HL
      have e0 : (we.alloc (.cells #[.int .i64 0, .string ⟨#[]⟩] 39)).cell? ⟨w.heap.size, 0, none⟩ = some (.int .i64 kd) := ((ke.out.alloc _).cell 0).trans rfl
      simp only [verdictCells]
      go_wp2_with (go_at_call 16; refine (pick_any kd 3 _ a1 a2 (by omega) (by omega)).mono ?_; rintro e wf ⟨rfl, hwf⟩; obtain rfl := hwf.symm; clear hwf; rw [Hm.out])
      go_ret
      exact ⟨rfl, be.out.alloc be.out.size _⟩
    · rw [show verdict (⟨Q.toArray⟩ : ByteArray).data.toList (⟨I.toArray⟩ : ByteArray).data.toList (⟨S0.toArray⟩ : ByteArray).data.toList = (1, V ++ [0], 0) from hL]
      clear hL HL
      have hVne : (V ++ [0] == V) = false := by rw [beq_eq_false_iff_ne]; intro h; have := congrArg List.length h; simp at this
      generalize V ++ [0] = V2 at *
      have e0 : (we.alloc (.cells #[.int .i64 1, .string ⟨V2.toArray⟩] 39)).cell? ⟨w.heap.size, 0, none⟩ = some (.int .i64 kd) := ((ke.out.alloc _).cell 0).trans rfl
      have e1 : (we.alloc (.cells #[.int .i64 1, .string ⟨V2.toArray⟩] 39)).cell? ⟨gv, 0, none⟩ = some (.int .i64 1) := ((ge.out.alloc _).cell 0).trans rfl
      have e2 : (we.alloc (.cells #[.int .i64 1, .string ⟨V2.toArray⟩] 39)).cell? ⟨gv, 1, none⟩ = some (.string ⟨V.toArray⟩) := ((ge.out.alloc _).cell 1).trans rfl
      simp only [verdictCells]
      go_wp2_with (go_at_call 16; refine (pick_any kd 3 _ a1 a2 (by omega) (by omega)).mono ?_; rintro e wf ⟨rfl, hwf⟩; obtain rfl := hwf.symm; clear hwf; rw [Hm.out])
      go_ret
      exact ⟨rfl, be.out.alloc be.out.size _⟩
  · skip
    have hsd := HSd.out
    rw [if_neg hm1] at hsd
    rw [hsd]
    have HL : Hid (verdict Q I (S ++ [0]) = (0, [], 2)) := HL0.out (by rw [HKd.out]; exact hm1)
    have hmq : ((m : Int) == 1) = false := by rw [beq_eq_false_iff_ne]; omega
    clear hsd HSd HL0 HL1 HV1 hm1
    have b5 : Hid (Below w.heap.size w ((w4.alloc (.cells #[.int .i64 2, .string ⟨#[]⟩] 39)).alloc (.cells #[.int .i64 2, .string ⟨#[]⟩] 39))) := (b4.out.alloc b4.out.size _).alloc (by rw [size_alloc]; have := b4.out.size; omega) _
    have k5 : Hid (Blk ((w4.alloc (.cells #[.int .i64 2, .string ⟨#[]⟩] 39)).alloc (.cells #[.int .i64 2, .string ⟨#[]⟩] 39)) w.heap.size 33 (builtCells kd v val oth)) := (k4.out.alloc _).alloc _
    have g5 : Hid (Blk ((w4.alloc (.cells #[.int .i64 2, .string ⟨#[]⟩] 39)).alloc (.cells #[.int .i64 2, .string ⟨#[]⟩] 39)) w4.heap.size 39 #[.int .i64 2, .string ⟨#[]⟩]) := (Blk.new _ _ _).alloc _
    have h5 : Hid (Blk ((w4.alloc (.cells #[.int .i64 2, .string ⟨#[]⟩] 39)).alloc (.cells #[.int .i64 2, .string ⟨#[]⟩] 39)) (w4.heap.size + 1) 39 #[.int .i64 2, .string ⟨#[]⟩]) := by
      have := Blk.new (w4.alloc (.cells #[.int .i64 2, .string ⟨#[]⟩] 39)) 39 #[.int .i64 2, .string ⟨#[]⟩]
      rw [size_alloc] at this
      exact this
    have e0 : ((w4.alloc (.cells #[.int .i64 2, .string ⟨#[]⟩] 39)).alloc (.cells #[.int .i64 2, .string ⟨#[]⟩] 39)).cell? ⟨w.heap.size, 0, none⟩ = some (.int .i64 kd) := (k5.out.cell 0).trans rfl
    have hlt4 : w.heap.size < w4.heap.size := k4.out.lt
    clear b4 k4
    simp only [verdictCells]
    go_wp2_with fail
    generalize ((w4.alloc (.cells #[.int .i64 2, .string ⟨#[]⟩] 39)).alloc (.cells #[.int .i64 2, .string ⟨#[]⟩] 39)) = w5 at *
    generalize w4.heap.size = gv at *
    refine (pick_any kd 3 w5 a1 a2 (by omega) (by omega)).mono ?_
    rintro e w6 ⟨rfl, hw6⟩
    obtain rfl : w5 = w6 := hw6.symm
    clear hw6
    rw [Hm.out]
    go_upto_region 9 with (fail)
    have b6 := b5
    have k6 := k5
    have g6 := g5
    have h6 : Hid (Blk w5 (gv + 1) 39 #[.int .i64 2, .string ⟨#[]⟩]) := h5
    clear b5 k5 g5 h5 e0
    generalize w5 = w7 at *
    have q0 : w7.cell? ⟨gv, 0, none⟩ = some (.int .i64 2) := (g6.out.cell 0).trans rfl
    have q1 : w7.cell? ⟨gv, 1, none⟩ = some (.string ⟨#[]⟩) := (g6.out.cell 1).trans rfl
    have q2 : w7.cell? ⟨gv + 1, 0, none⟩ = some (.int .i64 2) := (h6.out.cell 0).trans rfl
    have q3 : w7.cell? ⟨gv + 1, 1, none⟩ = some (.string ⟨#[]⟩) := (h6.out.cell 1).trans rfl
    have hcv := fun W ss => Lib.run_convert_string_bytes (P := Tryd.prog) W 9 42 5 ss Tryd.underlying9 Tryd.underlying42 Tryd.underlying5
    have sQ : (⟨Q.toArray⟩ : ByteArray).size = k := HQl
    have b8 : Hid (Below w.heap.size w (Lib.bytesWorld w7 5 ⟨Q.toArray⟩)) := b6.out.trans ((below_bytes w7 _ _).mono b6.out.size)
    have k8 : Hid (Blk (Lib.bytesWorld w7 5 ⟨Q.toArray⟩) w.heap.size 33 (builtCells kd v val oth)) := k6.out.below (below_bytes w7 _ _) k6.out.lt
    have g8 : Hid (Blk (Lib.bytesWorld w7 5 ⟨Q.toArray⟩) gv 39 #[.int .i64 2, .string ⟨#[]⟩]) := g6.out.below (below_bytes w7 _ _) g6.out.lt
    have o8 : Hid (Own (Lib.bytesWorld w7 5 ⟨Q.toArray⟩) (gv + 1) 5 (.slice (some ⟨w7.heap.size, 0, none⟩) k (grownCap w7 k 0 5)) k (Q.map fun b => .int .u8 (b.toNat : Int))) := by
      have h := own_bytes w7 (gv + 1) 5 ⟨Q.toArray⟩ g6.out.lt
      rw [sQ] at h
      exact h
    go_upto_region 12 with (fail)
    clear hcv b6 k6 g6 h6 q0 q1 q2 q3
    generalize Lib.bytesWorld w7 5 ⟨Q.toArray⟩ = w8 at *
    generalize grownCap w7 k 0 5 = cb at *
    generalize w7.heap.size = gb at *
    have eB : w8.cell? ⟨gb, 0, none⟩ = some (.int .u8 ((Q.getD 0 0).toNat : Int)) := by
      rw [o8.out.cell 0 (by omega), List.getElem?_map, List.getD_eq_getElem?_getD, List.getElem?_eq_getElem (by omega)]
      rfl
    have fB : w8.frozen? ⟨gb, 0, none⟩ = false := o8.out.frozen 0 (by omega)
    have hxo : bits .xor .u8 ((Q.getD 0 0).toNat : Int) 1 = ((flip1 (Q.getD 0 0)).toNat : Int) := xor_one _
    have hk0 : (0 : Int) < (k : Int) := by omega
    obtain ⟨hgb1, hgb2, hcb⟩ := o8.out.base
    have hRl : (Q.set 0 (flip1 (Q.getD 0 0))).length = k := by rw [List.length_set]; exact HQl
    have hRn : Q.set 0 (flip1 (Q.getD 0 0)) ≠ Q := fun h => by
      have h1 := getD_set Q 0 0 (flip1 (Q.getD 0 0)) (by omega)
      rw [h, if_pos rfl] at h1
      exact flip1_ne _ h1.symm
    have HoR : Hid (verdict (Q.set 0 (flip1 (Q.getD 0 0))) I S = (0, [], 3)) := Ho.out _ hRl hRn
    have hx256 := (Q.getD 0 0).toNat_lt
    have o9 : Hid (Own (w8.setCell ⟨gb, 0, none⟩ (.int .u8 ((flip1 (Q.getD 0 0)).toNat : Int))) (gv + 1) 5 (.slice (some ⟨gb, 0, none⟩) k cb) k ((Q.set 0 (flip1 (Q.getD 0 0))).map fun b => .int .u8 (b.toNat : Int))) := by
      have h := o8.out.stored 0 (.int .u8 ((flip1 (Q.getD 0 0)).toNat : Int))
      rw [show (Q.map fun b => Value.int .u8 (b.toNat : Int)).set 0 (.int .u8 ((flip1 (Q.getD 0 0)).toNat : Int)) = (Q.set 0 (flip1 (Q.getD 0 0))).map fun b => .int .u8 (b.toNat : Int) by rw [List.map_set]] at h
      exact h
    clear hRn Ho o8
    generalize Q.set 0 (flip1 (Q.getD 0 0)) = Q2 at *
    generalize flip1 (Q.getD 0 0) = x1 at *
    generalize Q.getD 0 0 = x0 at *
    have b9 : Hid (Below w.heap.size w (w8.setCell ⟨gb, 0, none⟩ (.int .u8 (x1.toNat : Int)))) := b8.out.setCell (by simp only; omega) _
    have k9 : Hid (Blk (w8.setCell ⟨gb, 0, none⟩ (.int .u8 (x1.toNat : Int))) w.heap.size 33 (builtCells kd v val oth)) := k8.out.set_other _ _ (by simp only; omega)
    have g9 : Hid (Blk (w8.setCell ⟨gb, 0, none⟩ (.int .u8 (x1.toNat : Int))) gv 39 #[.int .i64 2, .string ⟨#[]⟩]) := g8.out.set_other _ _ (by simp only; omega)
    go_upto_region 13 with (fail)
    clear eB fB hxo hx256 b8 k8 g8
    generalize w8.setCell ⟨gb, 0, none⟩ (.int .u8 (x1.toNat : Int)) = w9 at *
    have hst : (convert 42 9 (.slice (some ⟨gb, 0, none⟩) k cb)).run Tryd.prog w9 = .ok (.string ⟨Q2.toArray⟩) w9 := by
      have h := run_string_of (P := Tryd.prog) w9 42 9 5 gb 0 cb Q2 Tryd.underlying42 Tryd.underlying5 Tryd.underlying9 (fun j hj => by
        rw [Nat.zero_add, o9.out.cell j (by omega), List.getElem?_map, List.getD_eq_getElem?_getD, List.getElem?_eq_getElem hj]
        rfl)
      rw [hRl] at h
      exact h
    go_wp2_with fail
    clear hst o9
    refine (pVerify_any ⟨Q2.toArray⟩ ⟨I.toArray⟩ ⟨S.toArray⟩ w9 (by show S.length ≤ _; omega) (by show Q2.length ≤ _; omega) (HT.out.below b9.out (Nat.le_refl _))).mono ?_
    rintro e wa ⟨hb, rfl⟩
    rw [show verdict (⟨Q2.toArray⟩ : ByteArray).data.toList (⟨I.toArray⟩ : ByteArray).data.toList (⟨S.toArray⟩ : ByteArray).data.toList = (0, [], 3) from HoR.out]
    have ba : Hid (Below w.heap.size w (wa.alloc (.cells #[.int .i64 0, .string ⟨#[]⟩] 39))) := (below_then' b9.out hb b9.out.size).out.alloc (below_then' b9.out hb b9.out.size).out.size _
    have ka : Hid (Blk (wa.alloc (.cells #[.int .i64 0, .string ⟨#[]⟩] 39)) w.heap.size 33 (builtCells kd v val oth)) := (k9.out.below hb k9.out.lt).alloc _
    have ga : Hid (Blk (wa.alloc (.cells #[.int .i64 0, .string ⟨#[]⟩] 39)) gv 39 #[.int .i64 2, .string ⟨#[]⟩]) := (g9.out.below hb g9.out.lt).alloc _
    clear hb b9 k9 g9 HoR
    simp only [verdictCells]
    have hex : Hid ((⟨S.toArray⟩ : ByteArray).extract 0 2 = ⟨(S.take 2).toArray⟩) := by
      apply ByteArray.ext
      apply Array.toList_inj.1
      simp
    have i2 : (2 : Int) ≤ ((⟨S.toArray⟩ : ByteArray).size : Int) := by show (2 : Int) ≤ ((S.length : Nat) : Int); omega
    have hSs : (⟨S.toArray⟩ : ByteArray).size ≤ 1200 := hS12
    have hapS : Hid ((⟨S.toArray⟩ : ByteArray) ++ ⟨#[0]⟩ = ⟨(S ++ [0]).toArray⟩) := by
      apply ByteArray.ext
      apply Array.toList_inj.1
      simp [ByteArray.data_append]
    have hS0l : (S ++ [0]).length ≤ 1201 := by rw [List.length_append]; simp only [List.length_cons, List.length_nil]; omega
    generalize S ++ [0] = S0 at *
    obtain ⟨SB, hSB⟩ : ∃ SB : ByteArray, SB = ⟨S.toArray⟩ := ⟨_, rfl⟩
    rw [← hSB] at hex i2 hSs hapS ⊢
    clear hSB
    go_wp2_with fail
    rw [hex.out]
    generalize wa.alloc (.cells #[.int .i64 0, .string ⟨#[]⟩] 39) = wb at *
    refine (pVerify_any ⟨Q.toArray⟩ ⟨I.toArray⟩ ⟨(S.take 2).toArray⟩ wb (by show (S.take 2).length ≤ _; rw [List.length_take]; omega) (by show Q.length ≤ _; omega) (HT.out.below ba.out (Nat.le_refl _))).mono ?_
    rintro e wc ⟨hb, rfl⟩
    rw [show verdict (⟨Q.toArray⟩ : ByteArray).data.toList (⟨I.toArray⟩ : ByteArray).data.toList (⟨(S.take 2).toArray⟩ : ByteArray).data.toList = (0, [], 2) from Hs2.out]
    have bc : Hid (Below w.heap.size w (wc.alloc (.cells #[.int .i64 0, .string ⟨#[]⟩] 39))) := (below_then' ba.out hb ba.out.size).out.alloc (below_then' ba.out hb ba.out.size).out.size _
    have kc : Hid (Blk (wc.alloc (.cells #[.int .i64 0, .string ⟨#[]⟩] 39)) w.heap.size 33 (builtCells kd v val oth)) := (ka.out.below hb ka.out.lt).alloc _
    have gc : Hid (Blk (wc.alloc (.cells #[.int .i64 0, .string ⟨#[]⟩] 39)) gv 39 #[.int .i64 2, .string ⟨#[]⟩]) := (ga.out.below hb ga.out.lt).alloc _
    clear hb ba ka ga
    simp only [verdictCells]
    go_wp2_with fail
    rw [hapS.out]
    generalize wc.alloc (.cells #[.int .i64 0, .string ⟨#[]⟩] 39) = wd at *
    refine (pVerify_any ⟨Q.toArray⟩ ⟨I.toArray⟩ ⟨S0.toArray⟩ wd (by show S0.length ≤ _; omega) (by show Q.length ≤ _; omega) (HT.out.below bc.out (Nat.le_refl _))).mono ?_
    rintro e we ⟨hb, rfl⟩
    have be := below_then' bc.out hb bc.out.size
    have ke : Hid (Blk we w.heap.size 33 (builtCells kd v val oth)) := kc.out.below hb kc.out.lt
    have ge : Hid (Blk we gv 39 #[.int .i64 2, .string ⟨#[]⟩]) := gc.out.below hb gc.out.lt
    clear hb bc kc gc
    rw [show verdict (⟨Q.toArray⟩ : ByteArray).data.toList (⟨I.toArray⟩ : ByteArray).data.toList (⟨S0.toArray⟩ : ByteArray).data.toList = (0, [], 2) from HL.out]
    simp only [verdictCells]
    go_wp2
    go_ret
    exact ⟨rfl, be.out.alloc be.out.size _⟩
end Go.Proofs.YtghpcgagijhlaaaDoor
