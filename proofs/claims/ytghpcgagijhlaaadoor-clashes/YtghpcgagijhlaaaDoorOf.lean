/- The program's digest: Of(width, text) is the first bytes of the plain function's digest; nothing that was in memory turns. Conditions: the width is 1 to 32; the text takes at most 2^47 - 4096 bytes; the two tables lie in memory as the program's text lays them. -/
import Derived.Test.YtghpcgagijhlaaaDoorBlocks
import Derived.Test.YtghpcgagijhlaaaDoorPadding
import Derived.Deep.MidRow
import Derived.Deep.CutRange
namespace Go.Proofs.YtghpcgagijhlaaaDoor
open Go.RowKit Sha

/-- the two tables of the program's, in memory -/
structure Tabs (w : World) : Prop where
  cubes : Table 1 K w
  lt : 0 < w.heap.size
  squares : w.rangeAt 0 0 H0.cells.toList

theorem Tabs.below {w w' : World} {B : Nat} (h : Tabs w) (hb : Below B w w') (hB : w.heap.size ≤ B) : Tabs w' :=
  ⟨h.cubes.below hb hB, Nat.lt_of_lt_of_le h.lt hb.size, fun j v hv => by rw [hb.cell (p := ⟨_, _, none⟩) (Nat.lt_of_lt_of_le h.lt hB)]; exact h.squares j v hv⟩

set_option maxRecDepth 100000 in
set_option maxHeartbeats 1000000 in
theorem Of_any (k : Nat) (m : ByteArray) (w : World) (hk1 : 1 ≤ k) (hk2 : k ≤ 32) (hm : m.size ≤ 140737488351232) (hT : Tabs w) :
    Calls Tryd.prog 25 #[.int .i64 k, .string m] w fun e w' => e = .returned (.string ⟨((sha m.data.toList).take k).toArray⟩) ∧ Below w.heap.size w w' := by
  have HT : Hid (Tabs w) := hT
  clear hT
  go_enter Tryd.func25, Tryd.ntmps25
  go_upto_region 2 with (first
    | refine wpList_load_mid rfl 69 _ rfl 0 0 rfl H0.cells.toList _ HT.out.squares Tryd.underlying69 rfl (by kernel_rfl) ?_
    | refine wpList_store_row rfl 69 _ _ rfl w.heap.size H0.cells rfl rfl _ _ (Blk.new w 69 #[.int .u32 0, .int .u32 0, .int .u32 0, .int .u32 0, .int .u32 0, .int .u32 0, .int .u32 0, .int .u32 0]) (by rw [cells_size]; kernel_rfl) (by rw [cells_size]; rfl) (cells_one _) ?_)
  have b1 : Hid (Below w.heap.size w ((w.alloc (.cells #[.int .u32 0, .int .u32 0, .int .u32 0, .int .u32 0, .int .u32 0, .int .u32 0, .int .u32 0, .int .u32 0] 69)).setRow w.heap.size H0.cells)) := below_setRow ((Below.refl _ _).alloc (Nat.le_refl _) _) (Nat.le_refl _) _
  have b2 : Hid (Blk ((w.alloc (.cells #[.int .u32 0, .int .u32 0, .int .u32 0, .int .u32 0, .int .u32 0, .int .u32 0, .int .u32 0, .int .u32 0] 69)).setRow w.heap.size H0.cells) w.heap.size 69 H0.cells) := (Blk.new w 69 _).row_same _
  generalize (w.alloc (.cells #[.int .u32 0, .int .u32 0, .int .u32 0, .int .u32 0, .int .u32 0, .int .u32 0, .int .u32 0, .int .u32 0] 69)).setRow w.heap.size H0.cells = wr at *
  have hT : Tabs wr := HT.out.below b1.out (Nat.le_refl _)
  have HT1 : Hid (Tabs wr) := hT
  have HTw : Hid (Tabs w) := HT
  clear hT HT
  simp only [Act.put]
  have hLs : Hid (m.data.toList.length = m.size) := by show _ = _; simp
  have Hsha := sha_two m.data.toList
  rw [hLs.out] at Hsha
  have HS : Hid (sha m.data.toList = outBytes (blocksTo (blocksTo H0 (m.data.toList.take (m.size - m.size % 64)) (m.size / 64)) (m.data.toList.drop (m.size - m.size % 64) ++ behind m.size) ((m.size % 64 + 9 + zs m.size) / 64))) := Hsha
  clear Hsha
  have hw0 : m.size - m.size % 64 ≤ m.size := by omega
  have hwi : (m.size : Int) - (m.size : Int) % 64 = ((m.size - m.size % 64 : Nat) : Int) := by omega
  have Hd : Hid ((m.size - m.size % 64) / 64 = m.size / 64) := by show _ = _; omega
  have Hr : Hid (m.size - (m.size - m.size % 64) = m.size % 64) := by show _ = _; omega
  generalize m.size - m.size % 64 = wh at *
  have Hm1 : Hid (∀ (d : Nat) (os : Array Obj), Calls Tryd.prog 39 #[.agg H0.cells, .string (m.extract 0 wh)] (Go.Sort.grow (redrawn wr d) os) fun e w'' => e = .returned (.agg (blocksTo H0 (m.data.toList.take wh) (m.size / 64)).cells) ∧ ∃ p : Regrown, w'' = Go.Sort.grow (redrawn wr p.d) p.os) := fun d os => by
    have h := mixBlocks_any H0 (m.extract 0 wh) (Go.Sort.grow (redrawn wr d) os) (HT1.out.below (below_regrown wr d os) (Nat.le_refl _)).cubes (by simp; omega)
    have e1 : (m.extract 0 wh).data.toList = m.data.toList.take wh := by rw [extract_list, List.drop_zero]
    have e2 : (m.extract 0 wh).size / 64 = m.size / 64 := by rw [← Hd.out]; simp; omega
    rw [e1, e2] at h
    exact Calls.regrown_of h
  go_wp2
  refine Tail.tail_below 5 (by kernel_rfl) (by kernel_rfl) ?_
  simp only [List.take_succ_cons, List.take_zero, List.drop_succ_cons, List.drop_zero]
  refine quiet_load_row rfl 69 _ rfl w.heap.size rfl 69 H0.cells _ (fun W hW => ?_) Tryd.underlying69 rfl (by rw [cells_size]; kernel_rfl) ?_
  · obtain ⟨p, rfl⟩ := hW
    exact b2.out.below (below_regrown wr p.d p.os) b2.out.lt
  simp only [Act.put, List.setIfInBounds_toArray, List.set_cons_zero, List.set_cons_succ]
  repeat (any_goals (first | go_big_quiet_step ((exact Hm1.out _ _)) | quiet_step ((exact Hm1.out _ _))))
  refine wpQuiet_nil ?_
  intro W1 hw'
  obtain ⟨p, hp⟩ := hw'
  have hb : Hid (Below wr.heap.size wr W1) := by rw [hp]; exact below_regrown wr p.d p.os
  clear hp Hm1
  have q4 : Hid (Blk W1 w.heap.size 69 H0.cells) := b2.out.below hb.out b2.out.lt
  generalize blocksTo H0 (m.data.toList.take wh) (m.size / 64) = S1 at *
  go_upto_region 4 with (refine wpList_store_row rfl 69 _ _ rfl w.heap.size _ rfl rfl _ _ q4.out (by rw [cells_size]; kernel_rfl) (by rw [cells_size, cells_size]) (cells_one _) ?_)
  have c1 : Hid (Below w.heap.size w (W1.setRow w.heap.size S1.cells)) := below_setRow (b1.out.trans (hb.out.mono b1.out.size)) (Nat.le_refl _) _
  have c2 : Hid (Blk (W1.setRow w.heap.size S1.cells) w.heap.size 69 S1.cells) := q4.out.row_same _
  have HT2 : Hid (Tabs (W1.setRow w.heap.size S1.cells)) := HTw.out.below c1.out (Nat.le_refl _)
  generalize W1.setRow w.heap.size S1.cells = wr2 at *
  clear b1 b2 hb q4 HT1
  simp only [Act.put]
  have hbl : (behind m.size).length ≤ 72 := by rw [behind_length]; unfold zs; omega
  have Hbl : Hid ((behind m.size).length = 9 + zs m.size) := behind_length m.size
  have Hp : Hid (∀ (d : Nat) (os : Array Obj), Calls Tryd.prog 40 #[.int .i64 (m.size : Nat)] (Go.Sort.grow (redrawn wr2 d) os) fun e w'' => e = .returned (.string ⟨(behind m.size).toArray⟩) ∧ ∃ p : Regrown, w'' = Go.Sort.grow (redrawn wr2 p.d) p.os) := fun d os => Calls.regrown_of (padding_any m.size _ hm)
  generalize behind m.size = BH at *
  have hBs : (⟨BH.toArray⟩ : ByteArray).size = BH.length := by simp [ByteArray.size]
  have HBs : Hid ((⟨BH.toArray⟩ : ByteArray).size = BH.length) := hBs
  clear hBs
  have Hm2 : Hid (∀ (d : Nat) (os : Array Obj), Calls Tryd.prog 39 #[.agg S1.cells, .string (m.extract wh m.size ++ ⟨BH.toArray⟩)] (Go.Sort.grow (redrawn wr2 d) os) fun e w'' => e = .returned (.agg (blocksTo S1 (m.data.toList.drop wh ++ BH) ((m.size % 64 + 9 + zs m.size) / 64)).cells) ∧ ∃ p : Regrown, w'' = Go.Sort.grow (redrawn wr2 p.d) p.os) := fun d os => by
    have h := mixBlocks_any S1 (m.extract wh m.size ++ ⟨BH.toArray⟩) (Go.Sort.grow (redrawn wr2 d) os) (HT2.out.below (below_regrown wr2 d os) (Nat.le_refl _)).cubes (by rw [ByteArray.size_append, HBs.out]; simp; omega)
    have e1 : (m.extract wh m.size ++ ⟨BH.toArray⟩).data.toList = m.data.toList.drop wh ++ BH := by
      rw [ByteArray.data_append, Array.toList_append, extract_list, List.take_of_length_le (by rw [hLs.out]; omega)]
    have e2 : (m.extract wh m.size ++ ⟨BH.toArray⟩).size = m.size % 64 + 9 + zs m.size := by
      rw [← Hr.out, Nat.add_assoc, ← Hbl.out, ByteArray.size_append, HBs.out]
      simp
    rw [e1, e2] at h
    exact Calls.regrown_of h
  refine Tail.tail_below 9 (by kernel_rfl) (by kernel_rfl) ?_
  simp only [List.take_succ_cons, List.take_zero, List.drop_succ_cons, List.drop_zero]
  refine quiet_load_row rfl 69 _ rfl w.heap.size rfl 69 S1.cells _ (fun W hW => ?_) Tryd.underlying69 rfl (by rw [cells_size]; kernel_rfl) ?_
  · obtain ⟨p, rfl⟩ := hW
    exact c2.out.below (below_regrown wr2 p.d p.os) c2.out.lt
  simp only [Act.put, List.setIfInBounds_toArray, List.set_cons_zero, List.set_cons_succ]
  repeat (any_goals (first | go_big_quiet_step ((first | (go_at_call 40; exact Hp.out _ _) | (go_at_call 39; exact Hm2.out _ _))) | quiet_step ((first | (go_at_call 40; exact Hp.out _ _) | (go_at_call 39; exact Hm2.out _ _)))))
  refine wpQuiet_nil ?_
  intro W2 hw'
  obtain ⟨p, hp⟩ := hw'
  have hb : Hid (Below wr2.heap.size wr2 W2) := by rw [hp]; exact below_regrown wr2 p.d p.os
  clear hp Hp Hm2
  have q4 : Hid (Blk W2 w.heap.size 69 S1.cells) := c2.out.below hb.out c2.out.lt
  generalize blocksTo S1 (m.data.toList.drop wh ++ BH) ((m.size % 64 + 9 + zs m.size) / 64) = S2 at *
  go_upto_region 5 with (refine wpList_store_row rfl 69 _ _ rfl w.heap.size _ rfl rfl _ _ q4.out (by rw [cells_size]; kernel_rfl) (by rw [cells_size, cells_size]) (cells_one _) ?_)
  have d1 : Hid (Below w.heap.size w (W2.setRow w.heap.size S2.cells)) := below_setRow (c1.out.trans (hb.out.mono c1.out.size)) (Nat.le_refl _) _
  have d2 : Hid (Blk (W2.setRow w.heap.size S2.cells) w.heap.size 69 S2.cells) := q4.out.row_same _
  generalize W2.setRow w.heap.size S2.cells = wr3 at *
  clear c1 c2 hb q4 HT2
  simp only [Act.put]
  have hol : (outBytes S2).length = 32 := outBytes_length S2
  have Hfin : Hid (Value.string (ByteArray.extract ⟨(outBytes S2).toArray⟩ 0 k) = Value.string ⟨((sha m.data.toList).take k).toArray⟩) := by
    show _ = _
    rw [HS.out]
    congr 1
    apply ByteArray.ext
    simp [ByteArray.data_extract]
  go_wp2_with (first
    | refine wpList_load_row rfl 69 _ rfl w.heap.size rfl _ _ _ _ d2.out Tryd.underlying69 rfl (by rw [cells_size]; kernel_rfl) ?_
    | (go_at_call 41; refine (bytes_any S2 _).mono ?_; rintro e w5 ⟨rfl, hb5⟩))
  go_ret
  exact ⟨congrArg Ending.returned Hfin.out, d1.out.trans (hb5.mono d1.out.size)⟩
end Go.Proofs.YtghpcgagijhlaaaDoor
