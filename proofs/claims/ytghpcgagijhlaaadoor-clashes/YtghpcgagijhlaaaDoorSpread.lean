/- What the program's making of 64 words out of a block of 64 bytes answers: the document's words; nothing that was in memory turns; no condition but that there are 64 bytes. -/
import Derived.Test.YtghpcgagijhlaaaDoorSched
import Derived.Lib.ConvBytes
namespace Go.Proofs.YtghpcgagijhlaaaDoor
open Go.RowKit Sha

theorem take_snoc (s : List UInt8) (j : Nat) (h : j < s.length) : s.take (j + 1) = s.take j ++ [s.getD j 0] := by
  rw [List.take_succ_eq_append_getElem h]; simp [h]
theorem extract_list (s : ByteArray) (a b : Nat) : (s.extract a b).data.toList = (s.data.toList.take b).drop a := by
  simp [ByteArray.data_extract, List.drop_take]

attribute [local go_sem] V_xor V_and V_or V_not V_add V_shr
set_option maxHeartbeats 1000000 in
theorem spread_any (s : ByteArray) (hs : s.size = 64) (w : World) :
    Calls Tryd.prog 55 #[.string s] w fun e w' => e = .returned (.agg (row .u32 (sched s.data.toList 48))) ∧ Below w.heap.size w w' := by
  have hcv := fun W ss => Lib.run_convert_string_bytes (P := Tryd.prog) W 9 42 5 ss Tryd.underlying9 Tryd.underlying42 Tryd.underlying5
  have hcell := fun W ss j => Lib.bytesWorld_cell W 5 ss j
  have Hcell : Hid (∀ W ss j, j < ss.size → (Lib.bytesWorld W 5 ss).cell? ⟨W.heap.size, j, none⟩ = some (.int .u8 (ss.data.toList.getD j 0).toNat)) := hcell
  clear hcell
  go_enter Tryd.func55, Tryd.ntmps55
  go_wp2
  go_loopg [8] 16 (fun k i wr => ∃ t : Nat, t + k = 16 ∧ i = .int .i64 t ∧ Below w.heap.size w wr ∧ w.heap.size + 2 ≤ wr.heap.size ∧ Blk wr (w.heap.size + 1) 84 (row .u32 (heads s.data.toList t)) ∧ ∃ z : Array Value, z.size = 64 ∧ Blk wr w.heap.size 84 z)
  case atStart =>
    refine ⟨0, rfl, rfl, ((Below.refl _ _).alloc (Nat.le_refl _) _).alloc (by simp) _, by simp, ?_, _, rfl, (Blk.new _ _ _).alloc _⟩
    have := Blk.new (w.alloc (.cells (row .u32 (heads s.data.toList 0)) 84)) 84 (row .u32 (heads s.data.toList 0))
    rw [size_alloc] at this
    exact this
  case round =>
    obtain ⟨t, ht, rfl, b1, b2, b3, b4⟩ := hrel
    have B1 : Hid (Below w.heap.size w wr) := b1
    have B3 : Hid (Blk wr (w.heap.size + 1) 84 (row .u32 (heads s.data.toList t))) := b3
    have B4 : Hid (∃ z : Array Value, z.size = 64 ∧ Blk wr w.heap.size 84 z) := b4
    clear b1 b3 b4
    by_cases hlt : t < 16
    · have hm : min (4 * t + 4) 64 - 4 * t = 4 := by omega
      have hw4 : Hid (wordAt s.data.toList t = acc (s.extract (4 * t) (4 * t + 4)).data.toList) := by
        show _ = _
        rw [extract_list, wordAt, List.take_drop]
      go_wp2
      have c1 : Hid (Below w.heap.size w (Lib.bytesWorld wr 5 (s.extract (4 * t) (4 * t + 4)))) := B1.out.trans ((below_bytes _ _ _).mono B1.out.size)
      have hsz : (s.extract (4 * t) (4 * t + 4)).size = 4 := by simp [hs, hm]
      have c3 : Hid (Blk (Lib.bytesWorld wr 5 (s.extract (4 * t) (4 * t + 4))) (w.heap.size + 1) 84 (row .u32 (heads s.data.toList t))) := by
        show _ = _
        rw [Lib.bytesWorld_at_old _ _ _ _ (by omega)]; exact B3.out
      have c4 : Hid (∃ z : Array Value, z.size = 64 ∧ Blk (Lib.bytesWorld wr 5 (s.extract (4 * t) (4 * t + 4))) w.heap.size 84 z) := by
        obtain ⟨z, hz, hb⟩ := B4.out
        refine ⟨z, hz, ?_⟩
        show _ = _
        rw [Lib.bytesWorld_at_old _ _ _ _ (by omega)]; exact hb
      have c5 : Hid (∀ j, j < 4 → (Lib.bytesWorld wr 5 (s.extract (4 * t) (4 * t + 4))).cell? ⟨wr.heap.size, j, none⟩ = some (.int .u8 ((s.extract (4 * t) (4 * t + 4)).data.toList.getD j 0).toNat)) := fun j hj => Hcell.out _ _ j (by rw [hsz]; exact hj)
      have c2 : wr.heap.size + 1 ≤ (Lib.bytesWorld wr 5 (s.extract (4 * t) (4 * t + 4))).heap.size := by rw [Lib.bytesWorld_size]; omega
      have hl : Hid ((s.extract (4 * t) (4 * t + 4)).data.toList.length = 4) := by
        show _ = _
        have := hsz
        rw [← ByteArray.size_data] at this
        rw [Array.length_toList]; exact this
      clear B1 B3 B4 hsz
      generalize Lib.bytesWorld wr 5 (s.extract (4 * t) (4 * t + 4)) = W1 at *
      generalize (s.extract (4 * t) (4 * t + 4)).data.toList = bs at *
      generalize wr.heap.size = g at *
      go_loopg [20] 4 (fun k i wi => ∃ j : Nat, j + k = 4 ∧ i = .int .i64 j ∧ Below w.heap.size w wi ∧ g + 1 ≤ wi.heap.size ∧ Blk wi (w.heap.size + 1) 84 (row .u32 (put (heads s.data.toList t) t (acc (bs.take j)))) ∧ (∃ z : Array Value, z.size = 64 ∧ Blk wi w.heap.size 84 z) ∧ (∀ j, j < 4 → wi.cell? ⟨g, j, none⟩ = some (.int .u8 (bs.getD j 0).toNat)))
      case atStart => exact ⟨0, rfl, rfl, c1.out, c2, by rw [List.take_zero, acc_nil, heads_put_zero]; exact c3.out, c4.out, c5.out⟩
      case round =>
        obtain ⟨j, hj, rfl, d1, d2, d3, d4, d5⟩ := hrel
        clear c1 c2 c3 c4 c5
        have D1 : Hid (Below w.heap.size w wr) := d1
        have D3 : Hid (Blk wr (w.heap.size + 1) 84 (row .u32 (put (heads s.data.toList t) t (acc (bs.take j))))) := d3
        have D4 : Hid (∃ z : Array Value, z.size = 64 ∧ Blk wr w.heap.size 84 z) := d4
        have D5 : Hid (∀ j, j < 4 → wr.cell? ⟨g, j, none⟩ = some (.int .u8 (bs.getD j 0).toNat)) := d5
        clear d1 d3 d4 d5
        by_cases hjlt : j < 4
        · have e1 := D5.out j hjlt
          have e2 : wr.cell? ⟨w.heap.size + 1, t, none⟩ = some (.int .u32 (V (acc (bs.take j)))) := by rw [D3.out.cell, row_get _ _ _ (by omega), put_at]
          have e3 : wr.frozen? ⟨w.heap.size + 1, t, none⟩ = false := D3.out.frozen t
          have hb8 : ((bs.getD j 0).toNat : Int) < 256 := by have := (bs.getD j 0).toNat_lt; omega
          have hb0 : 0 ≤ ((bs.getD j 0).toNat : Int) := Int.natCast_nonneg _
          generalize hy : ((bs.getD j 0).toNat : Int) = y at e1 hb8 hb0
          have Hy : Hid (((bs.getD j 0).toNat : Int) = y) := hy
          clear hy
          go_wp2
          go_roundg (3 - j)
          case measure => omega
          case rel =>
            go_light
            have hg : bits .or .u32 (V (acc (bs.take j)) * 256 % 4294967296) y = V (acc (bs.take (j + 1))) := by
              rw [← Hy.out, gather, take_snoc bs j (by rw [hl.out]; exact hjlt), acc_snoc]
            rw [hg]
            refine ⟨j + 1, by omega, by go_num, D1.out.setCell (by simp) _, by rw [size_setCell]; exact d2, ?_, ?_, fun k hk => ?_⟩
            · have := D3.out.set_same t (.int .u32 (V (acc (bs.take (j + 1)))))
              rw [row_set, put_put] at this
              exact this
            · obtain ⟨z, hz, hb⟩ := D4.out
              exact ⟨z, hz, hb.set_other _ _ (by simp)⟩
            · rw [World.cell?_setCell_other _ _ _ _ (by intro h; injection h; omega)]
              exact D5.out k hk
        · obtain rfl : j = 4 := by omega
          go_wp2
          go_roundg (15 - t)
          case measure => omega
          case rel =>
            go_light
            refine ⟨t + 1, by omega, by go_num, D1.out, by omega, ?_, D4.out⟩
            have := D3.out
            rw [List.take_of_length_le (by rw [hl.out]; omega), ← hw4.out, heads_next] at this
            exact this
    · obtain rfl : t = 16 := by omega
      clear Hcell hcv hs
      go_wp2
      go_loopg [7] 48 (fun k i wi => ∃ n : Nat, n + k = 48 ∧ i = .int .i64 (16 + (n : Int)) ∧ Below w.heap.size w wi ∧ Blk wi (w.heap.size + 1) 84 (row .u32 (sched s.data.toList n)) ∧ ∃ z : Array Value, z.size = 64 ∧ Blk wi w.heap.size 84 z)
      case atStart => exact ⟨0, rfl, rfl, B1.out, B3.out, B4.out⟩
      case round =>
        obtain ⟨n, hn, rfl, d1, d3, d4⟩ := hrel
        clear B1 B3 B4
        have D1 : Hid (Below w.heap.size w wr) := d1
        have D3 : Hid (Blk wr (w.heap.size + 1) 84 (row .u32 (sched s.data.toList n))) := d3
        have D4 : Hid (∃ z : Array Value, z.size = 64 ∧ Blk wr w.heap.size 84 z) := d4
        clear d1 d3 d4
        by_cases hlt : n < 48
        · have e1 : wr.cell? ⟨w.heap.size + 1, 16 + n - 2, none⟩ = some (.int .u32 (V (sched s.data.toList n (16 + n - 2)))) := by rw [D3.out.cell, row_get _ _ _ (by omega)]
          have e2 : wr.cell? ⟨w.heap.size + 1, 16 + n - 7, none⟩ = some (.int .u32 (V (sched s.data.toList n (16 + n - 7)))) := by rw [D3.out.cell, row_get _ _ _ (by omega)]
          have e3 : wr.cell? ⟨w.heap.size + 1, 16 + n - 15, none⟩ = some (.int .u32 (V (sched s.data.toList n (16 + n - 15)))) := by rw [D3.out.cell, row_get _ _ _ (by omega)]
          have e4 : wr.cell? ⟨w.heap.size + 1, n, none⟩ = some (.int .u32 (V (sched s.data.toList n n))) := by rw [D3.out.cell, row_get _ _ _ (by omega)]
          have e5 : wr.cell? ⟨w.heap.size + 1, 16 + n, none⟩ = some (.int .u32 (V (sched s.data.toList n (16 + n)))) := by rw [D3.out.cell, row_get _ _ _ (by omega)]
          have e6 : wr.frozen? ⟨w.heap.size + 1, 16 + n, none⟩ = false := D3.out.frozen _
          go_wp2
          refine Tail.tail_drew 23 (by kernel_rfl) (by kernel_rfl) ?_
          simp only [List.take_succ_cons, List.take_zero, List.drop_succ_cons, List.drop_zero]
          repeat (any_goals (first | go_big_quiet_step ((first | exact Calls.quiet_of_same (s1_any _ _) | exact Calls.quiet_of_same (s0_any _ _))) | quiet_step ((first | exact Calls.quiet_of_same (s1_any _ _) | exact Calls.quiet_of_same (s0_any _ _)))))
          refine wpQuiet_nil ?_
          intro _ hw'
          obtain ⟨nq, rfl⟩ := hw'
          go_wp2
          go_roundg (47 - n)
          case measure => omega
          case rel =>
            go_light
            refine ⟨n + 1, by omega, by go_num, (below_drewN D1.out nq).setCell (by simp) _, ?_, ?_⟩
            · have := (D3.out.drewN nq).set_same (16 + n) (.int .u32 (V (s1 (sched s.data.toList n (16 + n - 2)) + sched s.data.toList n (16 + n - 7) + s0 (sched s.data.toList n (16 + n - 15)) + sched s.data.toList n n)))
              rw [row_set] at this
              have e : sched s.data.toList (n + 1) = put (sched s.data.toList n) (16 + n) (s1 (sched s.data.toList n (16 + n - 2)) + sched s.data.toList n (16 + n - 7) + s0 (sched s.data.toList n (16 + n - 15)) + sched s.data.toList n n) := by
                rw [sched, show 16 + n - 16 = n from by omega]
              rw [e]
              exact this
            · obtain ⟨z, hz, hb⟩ := D4.out
              exact ⟨z, hz, (hb.drewN nq).set_other _ _ (by simp)⟩
        · obtain rfl : n = 48 := by omega
          obtain ⟨z, hz, hb⟩ := D4.out
          have Qb : Hid (Blk wr w.heap.size 84 z) := hb
          clear hb
          have hsz := row_size .u32 (sched s.data.toList 48)
          have Hsz : Hid ((row .u32 (sched s.data.toList 48)).size = 64) := hsz
          clear hsz
          go_wp2_with (first
            | refine wpList_load_row rfl 84 _ rfl (w.heap.size + 1) rfl _ _ _ _ D3.out Tryd.underlying84 rfl (by rw [Hsz.out]; kernel_rfl) ?_
            | refine wpList_store_row rfl 84 _ _ rfl w.heap.size _ rfl rfl _ _ Qb.out (by rw [Hsz.out]; kernel_rfl) (by rw [hz, Hsz.out]) (row_one _ _) ?_)
          refine bodyPost_ret (v := .agg (row .u32 (sched s.data.toList 48))) ?_ rfl ⟨rfl, ?_⟩
          · exact results_cell_row Tryd.results55 _ _ w.heap.size _ _ _ _ rfl (Qb.out.row_same _) Tryd.underlying84 rfl (by rw [Hsz.out]; kernel_rfl)
          · exact below_setRow D1.out (Nat.le_refl _) _
end Go.Proofs.YtghpcgagijhlaaaDoor
