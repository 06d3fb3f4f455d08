/- The document's own answer for a digest: H(width, m) is the first bytes of the plain function's digest; nothing that was in memory turns. Conditions: the width is 1 to 32; the text takes at most 2^47 - 4096 bytes. -/
import Derived.Test.YtghpcgagijhlaaaDoorRefWords
import Derived.Deep.CutRange
import Derived.Deep.RegionHeld3
import Derived.Deep.DrawnRows
namespace Go.Proofs.YtghpcgagijhlaaaDoor
open Go.RowKit Sha

/-- what stands behind a text so far -/
def pre (l : List UInt8) (z : Nat) : List UInt8 := l ++ 128 :: List.replicate z 0
theorem pre_length (l : List UInt8) (z : Nat) : (pre l z).length = l.length + 1 + z := by simp [pre]; omega
theorem pre_next (l : List UInt8) (z : Nat) : pre l (z + 1) = pre l z ++ [0] := by simp [pre, List.replicate_succ']
theorem padded_pre (l : List UInt8) : padded l = pre l (zs l.length) ++ lenBytes l.length := by simp [padded, pre, behind]

set_option maxRecDepth 100000 in
set_option maxHeartbeats 1000000 in
theorem H_any (k : Nat) (m : ByteArray) (w : World) (hk1 : 1 ≤ k) (hk2 : k ≤ 32) (hm : m.size ≤ 140737488351232) :
    Calls Tryd.prog 26 #[.int .i64 k, .string m] w fun e w' => e = .returned (.string ⟨((sha m.data.toList).take k).toArray⟩) ∧ Below w.heap.size w w' := by
  have hcv := fun W ss => Lib.run_convert_string_bytes (P := Tryd.prog) W 9 42 5 ss Tryd.underlying9 Tryd.underlying42 Tryd.underlying5
  go_enter Tryd.func26, Tryd.ntmps26
  go_upto_region 3 with (go_at_call 42; refine (words_any _).mono ?_; rintro e w' ⟨rfl, rfl⟩)
  have b1 : Hid (Below w.heap.size w ((w.alloc (.cells (row .u64 K) 74)).alloc (.cells H0.cells64 75))) := ((Below.refl _ _).alloc (Nat.le_refl _) _).alloc (by simp) _
  have b2 : Hid (Blk ((w.alloc (.cells (row .u64 K) 74)).alloc (.cells H0.cells64 75)) w.heap.size 74 (row .u64 K)) := (Blk.new _ _ _).alloc _
  have b3 : Hid (Blk ((w.alloc (.cells (row .u64 K) 74)).alloc (.cells H0.cells64 75)) (w.heap.size + 1) 75 H0.cells64) := by
    have := Blk.new (w.alloc (.cells (row .u64 K) 74)) 75 H0.cells64
    rw [size_alloc] at this
    exact this
  have b4 : w.heap.size + 2 ≤ ((w.alloc (.cells (row .u64 K) 74)).alloc (.cells H0.cells64 75)).heap.size := by rw [size_alloc, size_alloc]; omega
  rw [show (#[.int .u64 1779033703, .int .u64 3144134277, .int .u64 1013904242, .int .u64 2773480762, .int .u64 1359893119, .int .u64 2600822924, .int .u64 528734635, .int .u64 1541459225] : Array Value) = H0.cells64 from by kernel_rfl]
  generalize (w.alloc (.cells (row .u64 K) 74)).alloc (.cells H0.cells64 75) = W at *
  have o1 : Hid (Own (Lib.bytesWorld W 5 m) (w.heap.size + 2) 5 (.slice (some ⟨W.heap.size, 0, none⟩) m.size (grownCap W m.size 0 5)) m.size (bv m.data.toList)) := own_bytes W _ _ m b4
  have d1 : Hid (Below w.heap.size w (Lib.bytesWorld W 5 m)) := b1.out.trans ((below_bytes W _ m).mono b1.out.size)
  have d2 : Hid (Blk (Lib.bytesWorld W 5 m) w.heap.size 74 (row .u64 K)) := b2.out.below (below_bytes W _ m) b2.out.lt
  have d3 : Hid (Blk (Lib.bytesWorld W 5 m) (w.heap.size + 1) 75 H0.cells64) := b3.out.below (below_bytes W _ m) b3.out.lt
  have d4 : Hid (w.heap.size + 2 ≤ (Lib.bytesWorld W 5 m).heap.size) := by show _ ≤ _; rw [Lib.bytesWorld_size]; omega
  clear b1 b2 b3
  go_wp2_with (at_builtin; refine append_bytes rfl _ _ rfl (w.heap.size + 2) _ _ _ rfl o1.out [.int .u8 128] 1 rfl (by decide) (by simp [Value.oneCell']) (by simp; omega) d4.out ?_; intro v' w' hown hgr)
  have e1 : Hid (Below w.heap.size w w') := below_grown d1.out o1.out hgr (by omega) d1.out.size
  have e2 : Hid (Blk w' w.heap.size 74 (row .u64 K)) := d2.out.grown hgr (grown_row o1.out _ (by omega))
  have e3 : Hid (Blk w' (w.heap.size + 1) 75 H0.cells64) := d3.out.grown hgr (grown_row o1.out _ (by omega))
  have e4 : Hid (w.heap.size + 2 ≤ w'.heap.size) := Nat.le_trans d4.out hgr.size
  have e5 : Hid (∃ g cap, v' = .slice (some ⟨g, 0, none⟩) (m.size + 1) cap ∧ Own w' (w.heap.size + 2) 5 (.slice (some ⟨g, 0, none⟩) (m.size + 1) cap) (m.size + 1) (bv (pre m.data.toList 0))) := by
    obtain ⟨g, cap, rfl⟩ := hown.form (by simp)
    exact ⟨g, cap, rfl, by
      have := hown
      rw [show bv m.data.toList ++ [Value.int .u8 128] = bv (pre m.data.toList 0) from by rw [pre, bv_app]; rfl] at this
      exact this⟩
  clear o1 d1 d2 d3 d4 hown hgr
  have hml : Hid (m.data.toList.length = m.size) := by show _ = _; simp
  go_loopg [7] 63 (fun q v wr => ∃ (z g cap : Nat), z + q = 63 ∧ z ≤ zs m.size ∧ v = .slice (some ⟨g, 0, none⟩) (m.size + 1 + z) cap ∧ Own wr (w.heap.size + 2) 5 (.slice (some ⟨g, 0, none⟩) (m.size + 1 + z) cap) (m.size + 1 + z) (bv (pre m.data.toList z)) ∧ Below w.heap.size w wr ∧ Blk wr w.heap.size 74 (row .u64 K) ∧ Blk wr (w.heap.size + 1) 75 H0.cells64 ∧ w.heap.size + 2 ≤ wr.heap.size)
  case atStart =>
    obtain ⟨g, cap, hv, ho⟩ := e5.out
    exact ⟨0, g, cap, rfl, by omega, hv, ho, e1.out, e2.out, e3.out, e4.out⟩
  case round =>
    obtain ⟨z, g, cap, hz, hzs, rfl, c1, c2, c3, c4, c5⟩ := hrel
    clear e1 e2 e3 e4 e5
    have C1 : Hid (Own wr (w.heap.size + 2) 5 (.slice (some ⟨g, 0, none⟩) (m.size + 1 + z) cap) (m.size + 1 + z) (bv (pre m.data.toList z))) := c1
    have C2 : Hid (Below w.heap.size w wr) := c2
    have C3 : Hid (Blk wr w.heap.size 74 (row .u64 K)) := c3
    have C4 : Hid (Blk wr (w.heap.size + 1) 75 H0.cells64) := c4
    have C5 : Hid (w.heap.size + 2 ≤ wr.heap.size) := c5
    clear c1 c2 c3 c4 c5
    have hzz : zs m.size ≤ 63 := by unfold zs; omega
    have hmod : (m.size + 1 + zs m.size) % 64 = 56 := by unfold zs; omega
    have hlt' : z < zs m.size → (m.size + 1 + z) % 64 ≠ 56 := by unfold zs; omega
    have Hmod : Hid ((m.size + 1 + zs m.size) % 64 = 56) := hmod
    have Hlt : Hid (z < zs m.size → (m.size + 1 + z) % 64 ≠ 56) := hlt'
    clear hmod hlt'
    by_cases hlt : z < zs m.size
    · have hne : (((m.size : Int) + 1 + (z : Int)) % 64 != 56) = true := by
        have := Hlt.out hlt
        rw [bne_iff_ne]; omega
      go_wp2_with (at_builtin; refine append_bytes rfl _ _ rfl (w.heap.size + 2) _ _ _ rfl C1.out [.int .u8 0] 1 rfl (by decide) (by simp [Value.oneCell']) (by simp; omega) C5.out ?_; intro v' w' hown hgr)
      go_roundg (62 - z)
      case measure => omega
      case rel =>
        go_light
        obtain ⟨g', cap', rfl⟩ := hown.form (by simp)
        refine ⟨z + 1, g', cap', by omega, by omega, rfl, ?_, below_grown C2.out C1.out hgr (by omega) C2.out.size, C3.out.grown hgr (grown_row C1.out _ (by omega)), C4.out.grown hgr (grown_row C1.out _ (by omega)), Nat.le_trans C5.out hgr.size⟩
        have := hown
        rw [show bv (pre m.data.toList z) ++ [Value.int .u8 0] = bv (pre m.data.toList (z + 1)) from by rw [pre_next, bv_app]; rfl] at this
        exact this
    · obtain rfl : z = zs m.size := by omega
      have hne : (((m.size : Int) + 1 + (zs m.size : Int)) % 64 != 56) = false := by
        have := Hmod.out
        rw [bne_eq_false_iff_eq]; omega
      clear Hmod Hlt hzs hlt
      go_wp2
      have hpl : Hid ((pre m.data.toList (zs m.size)).length = m.size + 1 + zs m.size) := by show _ = _; rw [pre_length, hml.out]
      generalize hN : m.size + 1 + zs m.size = N at *
      have HN : Hid (m.size + 1 + zs m.size = N) := hN
      have hNb : N ≤ 140737488351296 := by omega
      clear hN hne
      go_loopg [7, 8] 8 (fun q v i wr => ∃ (j g cap : Nat), j + q = 8 ∧ i = .int .i64 (7 - (j : Int)) ∧ v = .slice (some ⟨g, 0, none⟩) (N + j) cap ∧ Own wr (w.heap.size + 2) 5 (.slice (some ⟨g, 0, none⟩) (N + j) cap) (N + j) (bv (pre m.data.toList (zs m.size) ++ (lenBytes m.size).take j)) ∧ Below w.heap.size w wr ∧ Blk wr w.heap.size 74 (row .u64 K) ∧ Blk wr (w.heap.size + 1) 75 H0.cells64 ∧ w.heap.size + 2 ≤ wr.heap.size)
      case atStart =>
        exact ⟨0, g, cap, rfl, rfl, rfl, by rw [List.take_zero, List.append_nil]; exact C1.out, C2.out, C3.out, C4.out, C5.out⟩
      case round =>
        obtain ⟨j, g, cap, hj, rfl, rfl, c1, c2, c3, c4, c5⟩ := hrel
        clear C1 C2 C3 C4 C5
        have C1 : Hid (Own wr (w.heap.size + 2) 5 (.slice (some ⟨g, 0, none⟩) (N + j) cap) (N + j) (bv (pre m.data.toList (zs m.size) ++ (lenBytes m.size).take j))) := c1
        have C2 : Hid (Below w.heap.size w wr) := c2
        have C3 : Hid (Blk wr w.heap.size 74 (row .u64 K)) := c3
        have C4 : Hid (Blk wr (w.heap.size + 1) 75 H0.cells64) := c4
        have C5 : Hid (w.heap.size + 2 ≤ wr.heap.size) := c5
        clear c1 c2 c3 c4 c5
        by_cases hlt : j < 8
        · go_wp2_with (at_builtin; refine append_bytes rfl _ _ rfl (w.heap.size + 2) _ _ _ rfl C1.out [_] 1 rfl (by simp) (by simp [Value.oneCell']) (by simp; omega) C5.out ?_; intro v' w' hown hgr)
          go_roundg (7 - j)
          case measure => omega
          case rel =>
            go_light
            obtain ⟨g', cap', rfl⟩ := hown.form (by simp)
            refine ⟨j + 1, g', cap', by omega, by go_num, rfl, ?_, below_grown C2.out C1.out hgr (by omega) C2.out.size, C3.out.grown hgr (grown_row C1.out _ (by omega)), C4.out.grown hgr (grown_row C1.out _ (by omega)), Nat.le_trans C5.out hgr.size⟩
            have hb : 8 * (m.size : Int) / 2 ^ (8 * (7 - j)) % 256 = (((lenBytes m.size).getD j 0).toNat : Int) := by
              have e : (lenBytes m.size).getD j 0 = lenByte m.size j := by simp [lenBytes, hlt]
              rw [e, lenByte_int]
            have ht := take_snoc (lenBytes m.size) j (by simp [lenBytes]; exact hlt)
            have := hown
            rw [hb, show bv (pre m.data.toList (zs m.size) ++ (lenBytes m.size).take j) ++ [Value.int .u8 (((lenBytes m.size).getD j 0).toNat : Int)] = bv (pre m.data.toList (zs m.size) ++ (lenBytes m.size).take (j + 1)) from by rw [ht, ← List.append_assoc, bv_app (_ ++ _)]; rfl] at this
            exact this
        · obtain rfl : j = 8 := by omega
          go_wp2
          have hp : Hid (pre m.data.toList (zs m.size) ++ (lenBytes m.size).take 8 = padded m.data.toList) := by
            show _ = _
            rw [padded_pre, hml.out, List.take_of_length_le (by simp [lenBytes])]
          have hpl' : Hid ((padded m.data.toList).length = N + 8) := by show _ = _; rw [padded_length, hml.out, ← HN.out]; omega
          rw [hp.out] at C1
          have hdiv : ∃ nb, N + 8 = 64 * nb := ⟨(N + 8) / 64, by have h1 := padded_mod m.data.toList; rw [hpl'.out] at h1; omega⟩
          obtain ⟨nb, hnb⟩ := hdiv
          have Hnb : Hid (N + 8 = 64 * nb) := hnb
          rw [hnb] at C1 ⊢
          clear hp hpl hnb
          generalize hL : padded m.data.toList = L at *
          have HL : Hid (padded m.data.toList = L) := hL
          have hLl : Hid (L.length = 64 * nb) := by show _ = _; rw [hpl'.out, Hnb.out]
          have hnbb : 64 * nb ≤ 140737488355328 := by rw [← Hnb.out]; omega
          clear hL hpl'
          go_loopg [9] nb (fun q i wr => ∃ j : Nat, j + q = nb ∧ i = .int .i64 (64 * (j : Int)) ∧ Own wr (w.heap.size + 2) 5 (.slice (some ⟨g, 0, none⟩) (64 * nb) cap) (64 * nb) (bv L) ∧ Below w.heap.size w wr ∧ Blk wr w.heap.size 74 (row .u64 K) ∧ Blk wr (w.heap.size + 1) 75 (blocksTo H0 L j).cells64 ∧ w.heap.size + 2 ≤ wr.heap.size)
          case atStart => exact ⟨0, by omega, rfl, C1.out, C2.out, C3.out, C4.out, C5.out⟩
          case round =>
            obtain ⟨j, hj, rfl, c1, c2, c3, c4, c5⟩ := hrel
            clear C1 C2 C3 C4 C5
            have C1 : Hid (Own wr (w.heap.size + 2) 5 (.slice (some ⟨g, 0, none⟩) (64 * nb) cap) (64 * nb) (bv L)) := c1
            have C2 : Hid (Below w.heap.size w wr) := c2
            have C3 : Hid (Blk wr w.heap.size 74 (row .u64 K)) := c3
            have C4 : Hid (Blk wr (w.heap.size + 1) 75 (blocksTo H0 L j).cells64) := c4
            have C5 : Hid (w.heap.size + 2 ≤ wr.heap.size) := c5
            clear c1 c2 c3 c4 c5
            by_cases hlt : j < nb
            · obtain ⟨hg1, hg2, hcap⟩ := C1.out.base
              have Hblk : Hid (∀ (d : Nat) (os : Array Obj), Calls Tryd.prog 43 #[.agg (blocksTo H0 L j).cells64, .slice (some ⟨w.heap.size, 0, none⟩) 64 64, .slice (some ⟨g, 64 * j, none⟩) 64 (cap - 64 * j)] (Go.Sort.grow (redrawn wr d) os) fun e w'' => e = .returned (.agg (blocksTo H0 L (j + 1)).cells64) ∧ ∃ p : Regrown, w'' = Go.Sort.grow (redrawn wr p.d) p.os) := fun d os => by
                have hb := below_regrown wr d os
                refine Calls.regrown_of (block_any (blocksTo H0 L j) (blk L j) K w.heap.size g (64 * j) 64 (cap - 64 * j) _ (blk_length L j (by rw [hLl.out]; omega)) (fun t ht => ?_) (fun i hi => ?_) (Nat.lt_of_lt_of_le C3.out.lt hb.size) (Nat.lt_of_lt_of_le hg2 hb.size))
                · rw [(C3.out.below hb C3.out.lt).cell, row_get _ _ _ ht]
                · rw [(C1.out.below hb (Nat.le_refl _)).cell _ (by omega), bv_get _ _ (by rw [hLl.out]; omega), blk_get _ _ _ hi]
              go_wp2
              refine Tail.tail_below 8 (by kernel_rfl) (by kernel_rfl) ?_
              simp only [List.take_succ_cons, List.take_zero, List.drop_succ_cons, List.drop_zero]
              refine quiet_load_row rfl 75 _ rfl (w.heap.size + 1) rfl 75 (blocksTo H0 L j).cells64 _ (fun W hW => ?_) Tryd.underlying75 rfl (by rw [cells64_size]; kernel_rfl) ?_
              · obtain ⟨p, rfl⟩ := hW
                exact C4.out.below (below_regrown wr p.d p.os) C4.out.lt
              simp only [Act.put, List.setIfInBounds_toArray, List.set_cons_zero, List.set_cons_succ]
              repeat (any_goals (first | go_big_quiet_step ((exact Hblk.out _ _)) | quiet_step ((exact Hblk.out _ _))))
              refine wpQuiet_nil ?_
              intro W1 hw'
              obtain ⟨p, hp⟩ := hw'
              have hb : Hid (Below wr.heap.size wr W1) := by rw [hp]; exact below_regrown wr p.d p.os
              clear hp Hblk
              have q4 : Hid (Blk W1 (w.heap.size + 1) 75 (blocksTo H0 L j).cells64) := C4.out.below hb.out C4.out.lt
              go_wp2_with (refine wpList_store_row rfl 75 _ _ rfl (w.heap.size + 1) _ rfl rfl _ _ q4.out (by rw [cells64_size]; kernel_rfl) (by rw [cells64_size, cells64_size]) (cells64_one _) ?_)
              go_roundg (nb - (j + 1))
              case measure => omega
              case rel =>
                go_light
                refine ⟨j + 1, by omega, by go_num, (C1.out.below hb.out (Nat.le_refl _)).setRow _ _ (by omega), below_setRow (C2.out.trans (hb.out.mono C2.out.size)) (by omega) _, (C3.out.below hb.out C3.out.lt).row_other _ (by omega), q4.out.row_same _, by rw [size_setRow]; exact Nat.le_trans C5.out hb.out.size⟩
            · obtain rfl : j = nb := by omega
              clear C1
              have Hsha : Hid (sha m.data.toList = outBytes (blocksTo H0 L j)) := by
                show _ = _
                rw [sha, HL.out, hLl.out, Nat.mul_div_cancel_left _ (by omega)]
              generalize blocksTo H0 L j = S at *
              go_wp2
              go_loopg [10, 11] 8 (fun q v i wr => ∃ j : Nat, j + q = 8 ∧ i = .int .i64 (j : Int) ∧ Own wr (w.heap.size + 2) 5 v (4 * j) (bv ((outBytes S).take (4 * j))) ∧ Below w.heap.size w wr ∧ Blk wr (w.heap.size + 1) 75 S.cells64 ∧ w.heap.size + 2 ≤ wr.heap.size)
              case atStart => exact ⟨0, rfl, rfl, Own.nil _ _ _, C2.out, C4.out, C5.out⟩
              case round =>
                obtain ⟨j, hj, rfl, c1, c2, c4, c5⟩ := hrel
                clear C2 C3 C4 C5
                have C1 : Hid (Own wr (w.heap.size + 2) 5 u10 (4 * j) (bv ((outBytes S).take (4 * j)))) := c1
                have C2 : Hid (Below w.heap.size w wr) := c2
                have C4 : Hid (Blk wr (w.heap.size + 1) 75 S.cells64) := c4
                have C5 : Hid (w.heap.size + 2 ≤ wr.heap.size) := c5
                clear c1 c2 c4 c5
                by_cases hlt : j < 8
                · have f1 : wr.cell? ⟨w.heap.size + 1, j, none⟩ = some (.int .u64 (V (S.get j))) := by rw [C4.out.cell, state_cell64 _ _ hlt]
                  have q0 := V_nonneg (S.get j)
                  go_wp2
                  have o1 : Hid (Own wr.drew (w.heap.size + 2) 5 u10 (4 * j) (bv ((outBytes S).take (4 * j)))) := C1.out.kept fun _ _ => rfl
                  have hne : some (w.heap.size + 1) ≠ u10.ownBlock := grown_row C1.out _ (by omega)
                  go_region_held3 (fun w' => w'.cell? ⟨w.heap.size + 1, j, none⟩ = some (.int .u64 (V (S.get j)))) (first | go_keep | exact hgr.cell (by assumption) hne)
                    ((refine step_append_bytes (by rfl) _ _ (by rfl) (w.heap.size + 2) _ _ _ (by rfl) o1.out [_, _, _, _] 4 (by rfl) (by simp) (by simp [Value.oneCell']) (by simp; omega) C5.out ?_; intro v' w' hown hgr))
                  go_wp2
                  go_roundg (7 - j)
                  case measure => omega
                  case rel =>
                    go_light
                    refine ⟨j + 1, by omega, by go_num, ?_, below_grown (B := w.heap.size) (w := wr.drew) C2.out.drew o1.out hgr (by omega) C2.out.size, Blk.grown (w := wr.drew) C4.out hgr hne, Nat.le_trans C5.out hgr.size⟩
                    have := hown
                    rw [IntKind.wrap_u8', IntKind.wrap_u8', IntKind.wrap_u8', IntKind.wrap_u8', out_byte0, out_byte1, out_byte2, out_byte3] at this
                    rw [out_four S j hlt, bv_app]
                    exact this
                · obtain rfl : j = 8 := by omega
                  obtain ⟨g1, cap1, rfl⟩ := C1.out.form (by omega)
                  obtain ⟨_, _, hcap⟩ := C1.out.base
                  have hst := run_string_of (P := Tryd.prog) wr 42 9 5 g1 0 cap1 ((outBytes S).take k) Tryd.underlying42 Tryd.underlying5 Tryd.underlying9 (fun i hi => by
                    have hi' : i < k := by have := hi; simp at this; omega
                    have h32 : (outBytes S).length = 32 := outBytes_length S
                    have := C1.out.cell i (by omega)
                    rw [List.take_of_length_le (by omega), bv_get _ _ (by omega)] at this
                    rw [Nat.zero_add, this]
                    simp [List.getD, hi'])
                  rw [show ((outBytes S).take k).length = k from by rw [List.length_take, outBytes_length]; omega] at hst
                  have Hst : Hid (Value.string ⟨((outBytes S).take k).toArray⟩ = Value.string ⟨((sha m.data.toList).take k).toArray⟩) := by show _ = _; rw [Hsha.out]
                  go_wp2
                  go_ret
                  exact ⟨congrArg Ending.returned Hst.out, C2.out⟩
end Go.Proofs.YtghpcgagijhlaaaDoor
