/- What the program's taking of all whole blocks of a text into a state answers: block by block the document's rounds; nothing that was in memory turns. Condition: the table of cube roots lies in memory as the program's text lays it. -/
import Derived.Test.YtghpcgagijhlaaaDoorRefWords
namespace Go.Proofs.YtghpcgagijhlaaaDoor
open Go.RowKit Sha

theorem Table.below {g : Nat} {ks : Nat → BitVec 32} {w w' : World} {B : Nat} (h : Table g ks w) (hb : Below B w w') (hg : w.heap.size ≤ B) : Table g ks w' :=
  ⟨Nat.lt_of_lt_of_le h.1 hb.size, fun t ht => by rw [hb.cell (p := ⟨g, t, none⟩) (Nat.lt_of_lt_of_le h.1 hg)]; exact h.2 t ht⟩

set_option maxHeartbeats 1000000 in
theorem mixBlocks_any (s : R8) (text : ByteArray) (w : World) (hT : Table 1 K w) (_hl : text.size ≤ 9223372036854775807) :
    Calls Tryd.prog 39 #[.agg s.cells, .string text] w fun e w' => e = .returned (.agg (blocksTo s text.data.toList (text.size / 64)).cells) ∧ Below w.heap.size w w' := by
  have HT : Hid (Table 1 K w) := hT
  have hLs : Hid (text.data.toList.length = text.size) := by show _ = _; simp
  clear hT
  generalize hL : text.data.toList = L at *
  have HL : Hid (text.data.toList = L) := hL
  clear hL
  generalize hn : text.size = n at *
  have Hn : Hid (text.size = n) := hn
  clear hn
  go_enter Tryd.func39, Tryd.ntmps39
  go_wp2
  go_loopg [1] (n / 64) (fun q v wr => ∃ (j : Nat) (tt : ByteArray), j + q = n / 64 ∧ v = .string tt ∧ tt.data.toList = L.drop (64 * j) ∧ tt.size = n - 64 * j ∧ Below w.heap.size w wr ∧ Blk wr w.heap.size 69 (blocksTo s L j).cells ∧ ∃ z : Array Value, z.size = 8 ∧ Blk wr (w.heap.size + 1) 69 z)
  case atStart =>
    refine ⟨0, text, by omega, rfl, by rw [HL.out]; rfl, by rw [Hn.out]; rfl, ((Below.refl _ _).alloc (Nat.le_refl _) _).alloc (by simp) _, (Blk.new _ _ _).alloc _, #[.int .u32 0, .int .u32 0, .int .u32 0, .int .u32 0, .int .u32 0, .int .u32 0, .int .u32 0, .int .u32 0], rfl, ?_⟩
    have := Blk.new (w.alloc (.cells s.cells 69)) 69 #[.int .u32 0, .int .u32 0, .int .u32 0, .int .u32 0, .int .u32 0, .int .u32 0, .int .u32 0, .int .u32 0]
    rw [size_alloc] at this
    exact this
  case round =>
    obtain ⟨j, tt, hj, rfl, d1, d2, b1, b2, b3⟩ := hrel
    have D1 : Hid (tt.data.toList = L.drop (64 * j)) := d1
    have D2 : Hid (tt.size = n - 64 * j) := d2
    have B1 : Hid (Below w.heap.size w wr) := b1
    have B2 : Hid (Blk wr w.heap.size 69 (blocksTo s L j).cells) := b2
    have B3 : Hid (∃ z : Array Value, z.size = 8 ∧ Blk wr (w.heap.size + 1) 69 z) := b3
    clear d1 d2 b1 b2 b3
    have hle : tt.size ≤ n := by rw [D2.out]; omega
    by_cases hlt : j < n / 64
    · have h64 : 64 ≤ tt.size := by rw [D2.out]; omega
      have hsb : (tt.extract 0 64).data.toList = blk L j := by
        rw [extract_list, List.drop_zero, D1.out]; rfl
      have Hsb : Hid ((tt.extract 0 64).data.toList = blk L j) := hsb
      clear hsb
      have Hs : Hid (∀ (d : Nat) (os : Array Obj), Calls Tryd.prog 55 #[.string (tt.extract 0 64)] (Go.Sort.grow (redrawn wr d) os) fun e w'' => e = .returned (.agg (row .u32 (sched (blk L j) 48))) ∧ ∃ p : Regrown, w'' = Go.Sort.grow (redrawn wr p.d) p.os) := fun d os => by
        have h := spread_any (tt.extract 0 64) (by simp; omega) (Go.Sort.grow (redrawn wr d) os)
        rw [Hsb.out] at h
        exact Calls.regrown_of h
      have Hm : Hid (∀ (d : Nat) (os : Array Obj), Calls Tryd.prog 54 #[.agg (blocksTo s L j).cells, .agg (row .u32 (sched (blk L j) 48))] (Go.Sort.grow (redrawn wr d) os) fun e w'' => e = .returned (.agg (blocksTo s L (j + 1)).cells) ∧ ∃ p : Regrown, w'' = Go.Sort.grow (redrawn wr p.d) p.os) := fun d os =>
        Calls.regrown_of (mix_any (blocksTo s L j) (row .u32 (sched (blk L j) 48)) (sched (blk L j) 48) K _ (fun t ht => row_get _ _ _ ht) ((HT.out.below B1.out (Nat.le_refl _)).below (below_regrown wr d os) (Nat.le_refl _)))
      go_wp2
      refine Tail.tail_below 5 (by kernel_rfl) (by kernel_rfl) ?_
      simp only [List.take_succ_cons, List.take_zero, List.drop_succ_cons, List.drop_zero]
      refine quiet_load_row rfl 69 _ rfl w.heap.size rfl 69 (blocksTo s L j).cells _ (fun W hW => ?_) Tryd.underlying69 rfl (by rw [cells_size]; kernel_rfl) ?_
      · obtain ⟨p, rfl⟩ := hW
        exact B2.out.below (below_regrown wr p.d p.os) B2.out.lt
      simp only [Act.put, List.setIfInBounds_toArray, List.set_cons_zero, List.set_cons_succ]
      repeat (any_goals (first | go_big_quiet_step ((first | (go_at_call 55; exact Hs.out _ _) | (go_at_call 54; exact Hm.out _ _))) | quiet_step ((first | (go_at_call 55; exact Hs.out _ _) | (go_at_call 54; exact Hm.out _ _)))))
      refine wpQuiet_nil ?_
      intro W1 hw'
      obtain ⟨p, hp⟩ := hw'
      have hb : Hid (Below wr.heap.size wr W1) := by rw [hp]; exact below_regrown wr p.d p.os
      clear hp Hs Hm
      have q4 : Hid (Blk W1 w.heap.size 69 (blocksTo s L j).cells) := B2.out.below hb.out B2.out.lt
      go_wp2_with (refine wpList_store_row rfl 69 _ _ rfl w.heap.size _ rfl rfl _ _ q4.out (by rw [cells_size]; kernel_rfl) (by rw [cells_size, cells_size]) (cells_one _) ?_)
      go_roundg (n / 64 - (j + 1))
      case measure => omega
      case rel =>
        go_light
        refine ⟨j + 1, _, by omega, rfl, ?_, ?_, below_setRow (B1.out.trans (hb.out.mono B1.out.size)) (Nat.le_refl _) _, q4.out.row_same _, ?_⟩
        · rw [extract_list, List.take_of_length_le (by simp), D1.out, List.drop_drop, show 64 * j + 64 = 64 * (j + 1) from by omega]
        · have := D2.out
          simp
          omega
        · obtain ⟨z, hz, hbz⟩ := B3.out
          exact ⟨z, hz, (hbz.below hb.out hbz.lt).row_other _ (by omega)⟩
    · obtain rfl : j = n / 64 := by omega
      have h64 : tt.size < 64 := by rw [D2.out]; omega
      obtain ⟨z, hz, hbz⟩ := B3.out
      have Qb : Hid (Blk wr (w.heap.size + 1) 69 z) := hbz
      clear hbz
      go_wp2_with (first
        | refine wpList_load_row rfl 69 _ rfl w.heap.size rfl _ _ _ _ B2.out Tryd.underlying69 rfl (by rw [cells_size]; kernel_rfl) ?_
        | refine wpList_store_row rfl 69 _ _ rfl (w.heap.size + 1) _ rfl rfl _ _ Qb.out (by rw [cells_size]; kernel_rfl) (by rw [hz, cells_size]) (cells_one _) ?_)
      refine bodyPost_ret (v := .agg (blocksTo s L (n / 64)).cells) ?_ rfl ⟨rfl, ?_⟩
      · exact results_cell_row Tryd.results39 _ _ (w.heap.size + 1) _ _ _ _ rfl (Qb.out.row_same _) Tryd.underlying69 rfl (by rw [cells_size]; kernel_rfl)
      · exact below_setRow B1.out (by omega) _
end Go.Proofs.YtghpcgagijhlaaaDoor
