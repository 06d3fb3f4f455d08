/- What the document's own answer makes of one block and a state: the same 64 rounds as the program's; nothing that was in memory turns. Conditions: the table of words and the block's bytes lie in memory. -/
import Derived.Test.YtghpcgagijhlaaaDoorSpread
namespace Go.Proofs.YtghpcgagijhlaaaDoor
open Go.RowKit Sha

def R8.cells64 (s : R8) : Array Value := #[.int .u64 (V s.a), .int .u64 (V s.b), .int .u64 (V s.c), .int .u64 (V s.d), .int .u64 (V s.e), .int .u64 (V s.f), .int .u64 (V s.g), .int .u64 (V s.h)]
theorem part_cell64 (s u : R8) (t : Nat) (h : t < 8) : (s.part u t).cells64[t]? = some (.int .u64 (V (s.get t))) := by
  match t, h with
  | 0, _ | 1, _ | 2, _ | 3, _ | 4, _ | 5, _ | 6, _ | 7, _ => rfl
theorem part_next64 (s u : R8) (t : Nat) (h : t < 8) : (s.part u t).cells64.setIfInBounds t (.int .u64 (V (s.get t + u.get t))) = (s.part u (t + 1)).cells64 := by
  match t, h with
  | 0, _ | 1, _ | 2, _ | 3, _ | 4, _ | 5, _ | 6, _ | 7, _ => rfl
theorem state_cell64 (s : R8) (t : Nat) (h : t < 8) : s.cells64[t]? = some (.int .u64 (V (s.get t))) := by
  match t, h with
  | 0, _ | 1, _ | 2, _ | 3, _ | 4, _ | 5, _ | 6, _ | 7, _ => rfl

theorem acc_step (l : List UInt8) (b : UInt8) (h : (acc l).toNat < 16777216) : (acc (l ++ [b])).toNat = (acc l).toNat * 256 + b.toNat := by
  have hb := b.toNat_lt
  rw [acc_snoc, BitVec.toNat_or, BitVec.toNat_shiftLeft, BitVec.toNat_ofNat, Nat.mod_eq_of_lt (by omega : b.toNat < 2 ^ 32), Nat.shiftLeft_eq, Nat.mod_eq_of_lt (by omega), ← Nat.shiftLeft_eq, ← Nat.shiftLeft_add_eq_or_of_lt hb, Nat.shiftLeft_eq]
theorem acc_four (a b c d : UInt8) : V (acc [a, b, c, d]) = (a.toNat : Int) * 16777216 + (b.toNat : Int) * 65536 + (c.toNat : Int) * 256 + (d.toNat : Int) := by
  have ha := a.toNat_lt; have hb := b.toNat_lt; have hc := c.toNat_lt
  have h1 : (acc [a]).toNat = a.toNat := by have := acc_step [] a (by decide); simpa [acc_nil] using this
  have h2 : (acc [a, b]).toNat = a.toNat * 256 + b.toNat := by have := acc_step [a] b (by omega); rw [h1] at this; exact this
  have h3 : (acc [a, b, c]).toNat = (a.toNat * 256 + b.toNat) * 256 + c.toNat := by have := acc_step [a, b] c (by omega); rw [h2] at this; exact this
  have h4 : (acc [a, b, c, d]).toNat = ((a.toNat * 256 + b.toNat) * 256 + c.toNat) * 256 + d.toNat := by have := acc_step [a, b, c] d (by omega); rw [h3] at this; exact this
  unfold V
  rw [h4]; omega
theorem four_of (l : List UInt8) (h : 4 ≤ l.length) : l.take 4 = [l.getD 0 0, l.getD 1 0, l.getD 2 0, l.getD 3 0] := by
  match l, h with
  | a :: b :: c :: d :: r, _ => rfl
theorem wordAt_four (l : List UInt8) (t : Nat) (h : 4 * t + 4 ≤ l.length) : V (wordAt l t) = ((l.getD (4 * t) 0).toNat : Int) * 16777216 + ((l.getD (4 * t + 1) 0).toNat : Int) * 65536 + ((l.getD (4 * t + 2) 0).toNat : Int) * 256 + ((l.getD (4 * t + 3) 0).toNat : Int) := by
  have e : ∀ j, (l.drop (4 * t)).getD j 0 = l.getD (4 * t + j) 0 := fun j => by simp [List.getD, List.getElem?_drop]
  rw [wordAt, four_of _ (by simp; omega), acc_four, e 0, e 1, e 2, e 3, Nat.add_zero]

theorem sum4 (a b c d : BitVec 32) : (V a + V b + V c + V d) % 4294967296 = V (a + b + c + d) := by
  simp only [V, BitVec.toNat_add]; omega
theorem sum7 (a b c d e f g : BitVec 32) : (V a + V b + V c + V d + V e + (V f + V g)) % 4294967296 = V (a + b + c + d + e + (f + g)) := by
  simp only [V, BitVec.toNat_add]; omega
theorem sum15 (x a b c d e : BitVec 32) : (V x + (V a + V b + V c + V d + V e)) % 4294967296 = V (x + (a + b + c + d + e)) := by
  simp only [V, BitVec.toNat_add]; omega
theorem great1_any (x : BitVec 32) (w : World) : Calls Tryd.prog 59 #[.int .u64 (V x), .int .i64 6, .int .i64 11, .int .i64 25] w fun e w' => e = .returned (.int .u64 (V (S1 x))) ∧ ∃ k, w' = w.drewN k :=
  great_any x 6 11 25 w (by decide) (by decide) (by decide)
theorem great0_any (x : BitVec 32) (w : World) : Calls Tryd.prog 59 #[.int .u64 (V x), .int .i64 2, .int .i64 13, .int .i64 22] w fun e w' => e = .returned (.int .u64 (V (S0 x))) ∧ ∃ k, w' = w.drewN k :=
  great_any x 2 13 22 w (by decide) (by decide) (by decide)
theorem little1_any (x : BitVec 32) (w : World) : Calls Tryd.prog 58 #[.int .u64 (V x), .int .i64 17, .int .i64 19, .int .i64 10] w fun e w' => e = .returned (.int .u64 (V (s1 x))) ∧ ∃ k, w' = w.drewN k :=
  little_any x 17 19 10 w (by decide) (by decide) (by decide)
theorem little0_any (x : BitVec 32) (w : World) : Calls Tryd.prog 58 #[.int .u64 (V x), .int .i64 7, .int .i64 18, .int .i64 3] w fun e w' => e = .returned (.int .u64 (V (s0 x))) ∧ ∃ k, w' = w.drewN k :=
  little_any x 7 18 3 w (by decide) (by decide) (by decide)

attribute [local go_sem] V64_xor V64_and V64_not V64_wrap
set_option maxRecDepth 100000 in
set_option maxHeartbeats 3000000 in
theorem block_any (s : R8) (l : List UInt8) (ks : Nat → BitVec 32) (gt gb ob ck cb : Nat) (w : World) (hl : l.length = 64)
    (hk : ∀ t : Nat, t < 64 → w.cell? ⟨gt, t, none⟩ = some (.int .u64 (V (ks t)))) (hb : ∀ j : Nat, j < 64 → w.cell? ⟨gb, ob + j, none⟩ = some (.int .u8 ((l.getD j 0).toNat : Int))) (hgt : gt < w.heap.size) (hgb : gb < w.heap.size) :
    Calls Tryd.prog 43 #[.agg s.cells64, .slice (some ⟨gt, 0, none⟩) 64 ck, .slice (some ⟨gb, ob, none⟩) 64 cb] w fun e w' => e = .returned (.agg (s.mix ks (sched l 48)).cells64) ∧ Below w.heap.size w w' := by
  have HK : Hid (∀ t : Nat, t < 64 → w.cell? ⟨gt, t, none⟩ = some (.int .u64 (V (ks t)))) := hk
  have HB : Hid (∀ j : Nat, j < 64 → w.cell? ⟨gb, ob + j, none⟩ = some (.int .u8 ((l.getD j 0).toNat : Int))) := hb
  have HL : Hid (l.length = 64) := hl
  clear hk hb hl
  go_enter Tryd.func43, Tryd.ntmps43
  go_wp2
  go_loopg [8] 64 (fun k i wr => ∃ (t : Nat) (f : Nat → BitVec 32), t + k = 64 ∧ i = .int .i64 t ∧ Below w.heap.size w wr ∧ wr.heap.size = w.heap.size + 3 ∧ Blk wr w.heap.size 75 s.cells64 ∧ (∃ z : Array Value, z.size = 8 ∧ Blk wr (w.heap.size + 1) 75 z) ∧ Blk wr (w.heap.size + 2) 89 (row .u64 f) ∧ (t ≤ 16 → f = heads l t) ∧ (16 ≤ t → f = sched l (t - 16)))
  case atStart =>
    refine ⟨0, heads l 0, rfl, rfl, (((Below.refl _ _).alloc (Nat.le_refl _) _).alloc (by simp) _).alloc (by simp; omega) _, by simp, ((Blk.new _ _ _).alloc _).alloc _, ⟨#[.int .u64 0, .int .u64 0, .int .u64 0, .int .u64 0, .int .u64 0, .int .u64 0, .int .u64 0, .int .u64 0], rfl, ?_⟩, ?_, fun _ => rfl, fun h => by omega⟩
    · have := (Blk.new (w.alloc (.cells s.cells64 75)) 75 #[.int .u64 0, .int .u64 0, .int .u64 0, .int .u64 0, .int .u64 0, .int .u64 0, .int .u64 0, .int .u64 0]).alloc (.cells (row .u64 (heads l 0)) 89)
      rw [size_alloc] at this
      exact this
    · have := Blk.new ((w.alloc (.cells s.cells64 75)).alloc (.cells #[.int .u64 0, .int .u64 0, .int .u64 0, .int .u64 0, .int .u64 0, .int .u64 0, .int .u64 0, .int .u64 0] 75)) 89 (row .u64 (heads l 0))
      rw [size_alloc, size_alloc] at this
      exact this
  case round =>
    obtain ⟨t, f, ht, rfl, b1, b2, b3, b4, b5, b6, b7⟩ := hrel
    have B1 : Hid (Below w.heap.size w wr) := b1
    have B2 : Hid (wr.heap.size = w.heap.size + 3) := b2
    have B3 : Hid (Blk wr w.heap.size 75 s.cells64) := b3
    have B4 : Hid (∃ z : Array Value, z.size = 8 ∧ Blk wr (w.heap.size + 1) 75 z) := b4
    have B5 : Hid (Blk wr (w.heap.size + 2) 89 (row .u64 f)) := b5
    have B6 : Hid ((t ≤ 16 → f = heads l t) ∧ (16 ≤ t → f = sched l (t - 16))) := ⟨b6, b7⟩
    clear b1 b2 b3 b4 b5 b6 b7
    by_cases hlt : t < 64
    · have e0 : wr.cell? ⟨w.heap.size + 2, t, none⟩ = some (.int .u64 (V (f t))) := by rw [B5.out.cell, row_get _ _ _ (by omega)]
      have e9 : wr.frozen? ⟨w.heap.size + 2, t, none⟩ = false := B5.out.frozen _
      by_cases h16 : t < 16
      · have q : ∀ j, j < 64 → wr.cell? ⟨gb, ob + j, none⟩ = some (.int .u8 ((l.getD j 0).toNat : Int)) := fun j hj => by
          rw [B1.out.cell (p := ⟨gb, ob + j, none⟩) hgb]; exact HB.out j hj
        have e1 := q (4 * t) (by omega)
        have e2 := q (4 * t + 1) (by omega)
        have e3 := q (4 * t + 2) (by omega)
        have e4 := q (4 * t + 3) (by omega)
        clear q
        have r0 : ∀ j, 0 ≤ ((l.getD j 0).toNat : Int) ∧ ((l.getD j 0).toNat : Int) < 256 := fun j => by have := (l.getD j 0).toNat_lt; omega
        have w4 : Hid (V (wordAt l t) = ((l.getD (4 * t) 0).toNat : Int) * 16777216 + ((l.getD (4 * t + 1) 0).toNat : Int) * 65536 + ((l.getD (4 * t + 2) 0).toNat : Int) * 256 + ((l.getD (4 * t + 3) 0).toNat : Int)) := wordAt_four l t (by rw [HL.out]; omega)
        obtain ⟨p1, p2⟩ := r0 (4 * t)
        obtain ⟨p3, p4⟩ := r0 (4 * t + 1)
        obtain ⟨p5, p6⟩ := r0 (4 * t + 2)
        obtain ⟨p7, p8⟩ := r0 (4 * t + 3)
        clear r0
        generalize ((l.getD (4 * t) 0).toNat : Int) = y0 at *
        generalize ((l.getD (4 * t + 1) 0).toNat : Int) = y1 at *
        generalize ((l.getD (4 * t + 2) 0).toNat : Int) = y2 at *
        generalize ((l.getD (4 * t + 3) 0).toNat : Int) = y3 at *
        go_wp2
        refine Tail.tail_drew 35 (by kernel_rfl) (by kernel_rfl) ?_
        simp only [List.take_succ_cons, List.take_zero, List.drop_succ_cons, List.drop_zero]
        repeat (any_goals (first | go_big_quiet_step ((fail)) | quiet_step ((fail))))
        refine wpQuiet_nil ?_
        intro _ hw'
        obtain ⟨nq, rfl⟩ := hw'
        go_wp2
        go_roundg (63 - t)
        case measure => omega
        case rel =>
          go_light
          rw [← w4.out]
          refine ⟨t + 1, heads l (t + 1), by omega, by go_num, (below_drewN B1.out nq).setCell (by simp; omega) _, by rw [size_setCell, size_drewN, B2.out], (B3.out.drewN nq).set_other _ _ (by simp; omega), ?_, ?_, fun _ => rfl, fun h => ?_⟩
          · obtain ⟨z, hz, hb⟩ := B4.out
            exact ⟨z, hz, (hb.drewN nq).set_other _ _ (by simp)⟩
          · have := (B5.out.drewN nq).set_same t (.int .u64 (V (wordAt l t)))
            rw [row_set, B6.out.1 (by omega), heads_next] at this
            exact this
          · obtain rfl : t = 15 := by omega
            rfl
      · obtain ⟨n, rfl⟩ : ∃ n, t = 16 + n := ⟨t - 16, by omega⟩
        have hf := B6.out.2 (by omega)
        rw [show 16 + n - 16 = n from by omega] at hf
        subst hf
        clear B6
        have e1 : wr.cell? ⟨w.heap.size + 2, 16 + n - 2, none⟩ = some (.int .u64 (V (sched l n (16 + n - 2)))) := by rw [B5.out.cell, row_get _ _ _ (by omega)]
        have e2 : wr.cell? ⟨w.heap.size + 2, 16 + n - 7, none⟩ = some (.int .u64 (V (sched l n (16 + n - 7)))) := by rw [B5.out.cell, row_get _ _ _ (by omega)]
        have e3 : wr.cell? ⟨w.heap.size + 2, 16 + n - 15, none⟩ = some (.int .u64 (V (sched l n (16 + n - 15)))) := by rw [B5.out.cell, row_get _ _ _ (by omega)]
        have e4 : wr.cell? ⟨w.heap.size + 2, n, none⟩ = some (.int .u64 (V (sched l n n))) := by rw [B5.out.cell, row_get _ _ _ (by omega)]
        have Hn : Hid (sched l (n + 1) = put (sched l n) (16 + n) (s1 (sched l n (16 + n - 2)) + sched l n (16 + n - 7) + s0 (sched l n (16 + n - 15)) + sched l n n)) := by
          show _ = _
          rw [sched, show 16 + n - 16 = n from by omega]
        generalize sched l n (16 + n - 2) = x2 at e1 Hn
        generalize sched l n (16 + n - 7) = x7 at e2 Hn
        generalize sched l n (16 + n - 15) = x15 at e3 Hn
        generalize sched l n n = x16 at e4 Hn
        go_wp2
        have q1 := V_nonneg (s1 x2); have q2 := V_lt (s1 x2)
        have q3 := V_nonneg x7; have q4 := V_lt x7
        have q5 := V_nonneg (s0 x15); have q6 := V_lt (s0 x15)
        have q7 := V_nonneg x16; have q8 := V_lt x16
        refine Tail.tail_drew 24 (by kernel_rfl) (by kernel_rfl) ?_
        simp only [List.take_succ_cons, List.take_zero, List.drop_succ_cons, List.drop_zero]
        repeat (any_goals (first | go_big_quiet_step ((first | (go_at_call_of 58 (V x2); exact Calls.quiet_of (little1_any _ _)) | (go_at_call_of 58 (V x15); exact Calls.quiet_of (little0_any _ _)))) | quiet_step ((first | (go_at_call_of 58 (V x2); exact Calls.quiet_of (little1_any _ _)) | (go_at_call_of 58 (V x15); exact Calls.quiet_of (little0_any _ _))))))
        refine wpQuiet_nil ?_
        intro _ hw'
        obtain ⟨nq, rfl⟩ := hw'
        go_wp2
        go_roundg (47 - n)
        case measure => omega
        case rel =>
          go_light
          rw [sum4]
          refine ⟨16 + n + 1, sched l (n + 1), by omega, by go_num, (below_drewN B1.out nq).setCell (by simp; omega) _, by rw [size_setCell, size_drewN, B2.out], (B3.out.drewN nq).set_other _ _ (by simp; omega), ?_, ?_, fun h => by omega, fun h => ?_⟩
          · obtain ⟨z, hz, hb⟩ := B4.out
            exact ⟨z, hz, (hb.drewN nq).set_other _ _ (by simp)⟩
          · have := (B5.out.drewN nq).set_same (16 + n) (.int .u64 (V (s1 x2 + x7 + s0 x15 + x16)))
            rw [row_set, ← Hn.out] at this
            exact this
          · rw [show 16 + n + 1 - 16 = n + 1 from by omega]
    · obtain rfl : t = 64 := by omega
      have hf := B6.out.2 (by omega)
      rw [show 64 - 16 = 48 from rfl] at hf
      subst hf
      clear B6 HB
      have c1 : Hid (Below w.heap.size w ((wr.alloc (.cells #[.int .u64 0, .int .u64 0, .int .u64 0, .int .u64 0, .int .u64 0, .int .u64 0, .int .u64 0, .int .u64 0] 75)).setRow wr.heap.size s.cells64)) := below_setRow (B1.out.alloc B1.out.size _) B1.out.size _
      have hwr : w.heap.size + 3 = wr.heap.size := B2.out.symm
      have c3 : Hid (Blk ((wr.alloc (.cells #[.int .u64 0, .int .u64 0, .int .u64 0, .int .u64 0, .int .u64 0, .int .u64 0, .int .u64 0, .int .u64 0] 75)).setRow wr.heap.size s.cells64) w.heap.size 75 s.cells64) := (B3.out.alloc _).row_other _ (by omega)
      have c4 : Hid (∃ z : Array Value, z.size = 8 ∧ Blk ((wr.alloc (.cells #[.int .u64 0, .int .u64 0, .int .u64 0, .int .u64 0, .int .u64 0, .int .u64 0, .int .u64 0, .int .u64 0] 75)).setRow wr.heap.size s.cells64) (w.heap.size + 1) 75 z) := by
        obtain ⟨z, hz, hb⟩ := B4.out
        exact ⟨z, hz, (hb.alloc _).row_other _ (by omega)⟩
      have c5 : Hid (Blk ((wr.alloc (.cells #[.int .u64 0, .int .u64 0, .int .u64 0, .int .u64 0, .int .u64 0, .int .u64 0, .int .u64 0, .int .u64 0] 75)).setRow wr.heap.size s.cells64) (w.heap.size + 2) 89 (row .u64 (sched l 48))) := (B5.out.alloc _).row_other _ (by omega)
      have c6 : Hid (Blk ((wr.alloc (.cells #[.int .u64 0, .int .u64 0, .int .u64 0, .int .u64 0, .int .u64 0, .int .u64 0, .int .u64 0, .int .u64 0] 75)).setRow wr.heap.size s.cells64) wr.heap.size 75 s.cells64) := (Blk.new wr 75 #[.int .u64 0, .int .u64 0, .int .u64 0, .int .u64 0, .int .u64 0, .int .u64 0, .int .u64 0, .int .u64 0]).row_same _
      go_wp2_with (first
        | refine wpList_load_row rfl 75 _ rfl w.heap.size rfl _ _ _ _ B3.out Tryd.underlying75 rfl (by kernel_rfl) ?_
        | refine wpList_store_row rfl 75 _ _ rfl wr.heap.size _ rfl rfl _ _ (Blk.new wr 75 #[.int .u64 0, .int .u64 0, .int .u64 0, .int .u64 0, .int .u64 0, .int .u64 0, .int .u64 0, .int .u64 0]) (by kernel_rfl) rfl (by kernel_rfl) ?_)
      generalize (wr.alloc (.cells #[.int .u64 0, .int .u64 0, .int .u64 0, .int .u64 0, .int .u64 0, .int .u64 0, .int .u64 0, .int .u64 0] 75)).setRow wr.heap.size s.cells64 = W1 at *
      have Hwr : Hid (w.heap.size + 3 = wr.heap.size) := hwr
      clear B1 B2 B3 B4 B5 hwr
      generalize wr.heap.size = gv at *
      have hgv : w.heap.size + 3 ≤ gv := by rw [Hwr.out]; omega
      clear Hwr
      go_loopg [10] 64 (fun k i wi => ∃ t : Nat, t + k = 64 ∧ i = .int .i64 t ∧ Below w.heap.size w wi ∧ Blk wi w.heap.size 75 s.cells64 ∧ (∃ z : Array Value, z.size = 8 ∧ Blk wi (w.heap.size + 1) 75 z) ∧ Blk wi (w.heap.size + 2) 89 (row .u64 (sched l 48)) ∧ Blk wi gv 75 (R8.steps ks (sched l 48) t s).cells64)
      case atStart => exact ⟨0, rfl, rfl, c1.out, c3.out, c4.out, c5.out, c6.out⟩
      case round =>
        obtain ⟨t, ht, rfl, d1, d3, d4, d5, d6⟩ := hrel
        clear c1 c3 c4 c5 c6
        have D1 : Hid (Below w.heap.size w wr) := d1
        have D3 : Hid (Blk wr w.heap.size 75 s.cells64) := d3
        have D4 : Hid (∃ z : Array Value, z.size = 8 ∧ Blk wr (w.heap.size + 1) 75 z) := d4
        have D5 : Hid (Blk wr (w.heap.size + 2) 89 (row .u64 (sched l 48))) := d5
        generalize hst : R8.steps ks (sched l 48) t s = st at d6
        have Hst : Hid (R8.steps ks (sched l 48) t s = st) := hst
        have D6 : Hid (Blk wr gv 75 st.cells64) := d6
        clear d1 d3 d4 d5 d6 hst
        by_cases hlt : t < 64
        · have e0 : wr.cell? ⟨gt, t, none⟩ = some (.int .u64 (V (ks t))) := by rw [D1.out.cell (p := ⟨gt, t, none⟩) hgt]; exact HK.out t hlt
          have e1 : wr.cell? ⟨w.heap.size + 2, t, none⟩ = some (.int .u64 (V (sched l 48 t))) := by rw [D5.out.cell, row_get _ _ _ hlt]
          have f0 : wr.cell? ⟨gv, 0, none⟩ = some (.int .u64 (V st.a)) := D6.out.cell 0
          have f1 : wr.cell? ⟨gv, 1, none⟩ = some (.int .u64 (V st.b)) := D6.out.cell 1
          have f2 : wr.cell? ⟨gv, 2, none⟩ = some (.int .u64 (V st.c)) := D6.out.cell 2
          have f3 : wr.cell? ⟨gv, 3, none⟩ = some (.int .u64 (V st.d)) := D6.out.cell 3
          have f4 : wr.cell? ⟨gv, 4, none⟩ = some (.int .u64 (V st.e)) := D6.out.cell 4
          have f5 : wr.cell? ⟨gv, 5, none⟩ = some (.int .u64 (V st.f)) := D6.out.cell 5
          have f6 : wr.cell? ⟨gv, 6, none⟩ = some (.int .u64 (V st.g)) := D6.out.cell 6
          have f7 : wr.cell? ⟨gv, 7, none⟩ = some (.int .u64 (V st.h)) := D6.out.cell 7
          go_wp2
          have qh0 := V_nonneg st.h; have qh1 := V_lt st.h
          have qe0 := V_nonneg st.e; have qe1 := V_lt st.e
          have qs0 := V_nonneg (S1 st.e); have qs1 := V_lt (S1 st.e)
          have qc0 := V_nonneg (st.e &&& st.f ^^^ ~~~st.e &&& st.g); have qc1 := V_lt (st.e &&& st.f ^^^ ~~~st.e &&& st.g)
          have qk0 := V_nonneg (ks t); have qk1 := V_lt (ks t)
          have qw0 := V_nonneg (sched l 48 t); have qw1 := V_lt (sched l 48 t)
          go_quiet ((exact Calls.quiet_of (great1_any _ _)))
          revert nq
          intro n1
          go_wp2
          have qa0 := V_nonneg (S0 st.a); have qa1 := V_lt (S0 st.a)
          have qm0 := V_nonneg (st.a &&& st.b ^^^ st.a &&& st.c ^^^ st.b &&& st.c); have qm1 := V_lt (st.a &&& st.b ^^^ st.a &&& st.c ^^^ st.b &&& st.c)
          go_quiet ((exact Tail.quiet_of2 (great0_any _ _)))
          rw [World.drewN_drewN]
          revert nq
          intro n2
          generalize n1 + n2 = m
          have Hone : Hid (V st.h + V (S1 st.e) + V (st.e &&& st.f ^^^ ~~~st.e &&& st.g) + V (ks t) + V (sched l 48 t) < 21474836480 ∧ 0 ≤ V st.h + V (S1 st.e) + V (st.e &&& st.f ^^^ ~~~st.e &&& st.g) + V (ks t) + V (sched l 48 t)) := by constructor <;> omega
          have Htwo : Hid (V (S0 st.a) + V (st.a &&& st.b ^^^ st.a &&& st.c ^^^ st.b &&& st.c) < 8589934592 ∧ 0 ≤ V (S0 st.a) + V (st.a &&& st.b ^^^ st.a &&& st.c ^^^ st.b &&& st.c)) := by constructor <;> omega
          have Hx : Hid ((V st.h + V (S1 st.e) + V (st.e &&& st.f ^^^ ~~~st.e &&& st.g) + V (ks t) + V (sched l 48 t) + (V (S0 st.a) + V (st.a &&& st.b ^^^ st.a &&& st.c ^^^ st.b &&& st.c))) % 4294967296 = V (st.step (ks t) (sched l 48 t)).a) := sum7 _ _ _ _ _ _ _
          have Hy : Hid ((V st.d + (V st.h + V (S1 st.e) + V (st.e &&& st.f ^^^ ~~~st.e &&& st.g) + V (ks t) + V (sched l 48 t))) % 4294967296 = V (st.step (ks t) (sched l 48 t)).e) := sum15 _ _ _ _ _ _
          clear qh0 qh1 qe0 qe1 qs0 qs1 qc0 qc1 qk0 qk1 qw0 qw1 qa0 qa1 qm0 qm1
          generalize V st.h + V (S1 st.e) + V (st.e &&& st.f ^^^ ~~~st.e &&& st.g) + V (ks t) + V (sched l 48 t) = y1 at *
          generalize V (S0 st.a) + V (st.a &&& st.b ^^^ st.a &&& st.c ^^^ st.b &&& st.c) = y2 at *
          obtain ⟨r1, r2⟩ := Hone.out
          obtain ⟨r3, r4⟩ := Htwo.out
          have r5 := V_nonneg st.d; have r6 := V_lt st.d
          go_wp2_with (refine wpList_store_row rfl 75 _ _ rfl gv _ rfl rfl _ _ (D6.out.drewN _) (by kernel_rfl) rfl (by kernel_rfl) ?_)
          go_roundg (63 - t)
          case measure => omega
          case rel =>
            go_light
            rw [Hx.out, Hy.out]
            refine ⟨t + 1, by omega, by go_num, below_setRow (below_drewN D1.out m) (by omega) _, (D3.out.drewN m).row_other _ (by omega), ?_, (D5.out.drewN m).row_other _ (by omega), ?_⟩
            · obtain ⟨z, hz, hb⟩ := D4.out
              exact ⟨z, hz, (hb.drewN m).row_other _ (by omega)⟩
            · have hs : R8.steps ks (sched l 48) (t + 1) s = st.step (ks t) (sched l 48 t) := by rw [← Hst.out]; rfl
              rw [hs]
              exact (D6.out.drewN m).row_same _
        · obtain rfl : t = 64 := by omega
          clear HK D5
          go_wp2
          go_loopg [13] 8 (fun k i wi => ∃ t : Nat, t + k = 8 ∧ i = .int .i64 t ∧ Below w.heap.size w wi ∧ Blk wi w.heap.size 75 (s.part st t).cells64 ∧ (∃ z : Array Value, z.size = 8 ∧ Blk wi (w.heap.size + 1) 75 z) ∧ Blk wi gv 75 st.cells64)
          case atStart => exact ⟨0, rfl, rfl, D1.out, D3.out, D4.out, D6.out⟩
          case round =>
            obtain ⟨t, ht, rfl, d1, d3, d4, d6⟩ := hrel
            clear D1 D3 D4 D6
            have D1 : Hid (Below w.heap.size w wr) := d1
            have D3 : Hid (Blk wr w.heap.size 75 (s.part st t).cells64) := d3
            have D4 : Hid (∃ z : Array Value, z.size = 8 ∧ Blk wr (w.heap.size + 1) 75 z) := d4
            have D6 : Hid (Blk wr gv 75 st.cells64) := d6
            clear d1 d3 d4 d6
            by_cases hlt : t < 8
            · have e1 : wr.cell? ⟨w.heap.size, t, none⟩ = some (.int .u64 (V (s.get t))) := by rw [D3.out.cell, part_cell64 _ _ _ hlt]
              have e2 : wr.cell? ⟨gv, t, none⟩ = some (.int .u64 (V (st.get t))) := by rw [D6.out.cell, state_cell64 _ _ hlt]
              have e3 : wr.frozen? ⟨w.heap.size, t, none⟩ = false := D3.out.frozen _
              go_wp2
              have q1 := V_nonneg (s.get t); have q2 := V_lt (s.get t)
              have q3 := V_nonneg (st.get t); have q4 := V_lt (st.get t)
              refine Tail.tail_drew 10 (by kernel_rfl) (by kernel_rfl) ?_
              simp only [List.take_succ_cons, List.take_zero, List.drop_succ_cons, List.drop_zero]
              repeat (any_goals (first | go_big_quiet_step ((fail)) | quiet_step ((fail))))
              refine wpQuiet_nil ?_
              intro _ hw'
              obtain ⟨nq, rfl⟩ := hw'
              go_wp2
              go_roundg (7 - t)
              case measure => omega
              case rel =>
                go_light
                rw [V_add]
                refine ⟨t + 1, by omega, by go_num, (below_drewN D1.out nq).setCell (Nat.le_refl _) _, ?_, ?_, (D6.out.drewN nq).set_other _ _ (by simp; omega)⟩
                · have := (D3.out.drewN nq).set_same t (.int .u64 (V (s.get t + st.get t)))
                  rw [part_next64 _ _ _ hlt] at this
                  exact this
                · obtain ⟨z, hz, hb⟩ := D4.out
                  exact ⟨z, hz, (hb.drewN nq).set_other _ _ (by simp)⟩
            · obtain rfl : t = 8 := by omega
              obtain ⟨z, hz, hb⟩ := D4.out
              have c2 : Blk wr w.heap.size 75 (s.mix ks (sched l 48)).cells64 := by rw [R8.mix, Hst.out]; exact D3.out
              have Q2 : Hid (Blk wr w.heap.size 75 (s.mix ks (sched l 48)).cells64) := c2
              have Qb : Hid (Blk wr (w.heap.size + 1) 75 z) := hb
              clear c2 hb
              go_wp2_with (first
                | refine wpList_load_row rfl 75 _ rfl w.heap.size rfl _ _ _ _ Q2.out Tryd.underlying75 rfl (by kernel_rfl) ?_
                | refine wpList_store_row rfl 75 _ _ rfl (w.heap.size + 1) _ rfl rfl _ _ Qb.out (by kernel_rfl) (by rw [hz]; rfl) (by kernel_rfl) ?_)
              refine bodyPost_ret (v := .agg (s.mix ks (sched l 48)).cells64) ?_ rfl ⟨rfl, ?_⟩
              · exact results_cell_row Tryd.results43 _ _ (w.heap.size + 1) _ _ _ _ rfl (Qb.out.row_same _) Tryd.underlying75 rfl (by kernel_rfl)
              · exact below_setRow D1.out (by omega) _
end Go.Proofs.YtghpcgagijhlaaaDoor
