/- What the program's mixing of one block into a state answers: the document's 64 rounds, added to the state; nothing that was in memory turns. Condition: the table of cube roots lies in memory as the program's text lays it. -/
import Derived.Test.YtghpcgagijhlaaaDoorSmall
import Derived.Test.YtghpcgagijhlaaaDoorMem
import Derived.Deep.LoopGhost
import Derived.Deep.Light
import Derived.LoopN
namespace Go.Proofs.YtghpcgagijhlaaaDoor
open Go.RowKit Sha

structure R8 where
  a : BitVec 32
  b : BitVec 32
  c : BitVec 32
  d : BitVec 32
  e : BitVec 32
  f : BitVec 32
  g : BitVec 32
  h : BitVec 32
def R8.one (k w : BitVec 32) (s : R8) : BitVec 32 := s.h + S1 s.e + (s.e &&& s.f ^^^ ~~~s.e &&& s.g) + k + w
def R8.two (s : R8) : BitVec 32 := S0 s.a + (s.a &&& s.b ^^^ s.a &&& s.c ^^^ s.b &&& s.c)
def R8.step (k w : BitVec 32) (s : R8) : R8 := ⟨s.one k w + s.two, s.a, s.b, s.c, s.d + s.one k w, s.e, s.f, s.g⟩
def R8.steps (ks ws : Nat → BitVec 32) : Nat → R8 → R8
  | 0, s => s
  | n + 1, s => (R8.steps ks ws n s).step (ks n) (ws n)
def R8.plus (s t : R8) : R8 := ⟨s.a + t.a, s.b + t.b, s.c + t.c, s.d + t.d, s.e + t.e, s.f + t.f, s.g + t.g, s.h + t.h⟩
/-- one block's words, taken into a state -/
def R8.mix (ks ws : Nat → BitVec 32) (s : R8) : R8 := s.plus (R8.steps ks ws 64 s)
/-- a state as an array of the program's -/
def R8.cells (s : R8) : Array Value := #[.int .u32 (V s.a), .int .u32 (V s.b), .int .u32 (V s.c), .int .u32 (V s.d), .int .u32 (V s.e), .int .u32 (V s.f), .int .u32 (V s.g), .int .u32 (V s.h)]

theorem sum5 (a b c d e : BitVec 32) : (V a + V b + V c + V d + V e) % 4294967296 = V (a + b + c + d + e) := by
  simp only [V, BitVec.toNat_add]; omega
theorem sum14 (d p q k w : BitVec 32) : (V d + (V p + V q + V k + V w)) % 4294967296 = V (d + (p + q + k + w)) := by
  simp only [V, BitVec.toNat_add]; omega

/-- the table of a package variable, read -/
def Table (g : Nat) (ks : Nat → BitVec 32) (w : World) : Prop := g < w.heap.size ∧ ∀ t : Nat, t < 64 → w.cell? ⟨g, t, none⟩ = some (.int .u32 (V (ks t)))

def mixW (s : R8) (xs : Array Value) (w : World) : World := ((w.alloc (.cells s.cells 69)).alloc (.cells xs 84)).alloc (.cells #[.int .u32 0, .int .u32 0, .int .u32 0, .int .u32 0, .int .u32 0, .int .u32 0, .int .u32 0, .int .u32 0] 69)
theorem mixW_old (s : R8) (xs : Array Value) (w : World) (n b t : Nat) (hb : b < w.heap.size) : ((mixW s xs w).drewN n).cell? ⟨b, t, none⟩ = w.cell? ⟨b, t, none⟩ := by
  have h : Below w.heap.size w ((mixW s xs w).drewN n) := by
    have h1 : Below w.heap.size w (mixW s xs w) := (((Below.refl _ _).alloc (Nat.le_refl _) _).alloc (by simp) _).alloc (by simp; omega) _
    exact ⟨h1.os, h1.tape, h1.output, h1.size, h1.block⟩
  exact h.cell (p := ⟨b, t, none⟩) hb
theorem mixW_row (s : R8) (xs : Array Value) (w : World) (n t : Nat) : ((mixW s xs w).drewN n).cell? ⟨w.heap.size + 1, t, none⟩ = xs[t]? := by
  show World.cell? (mixW s xs w) _ = _
  have : (mixW s xs w).heap[w.heap.size + 1]? = some (.cells xs 84) := by
    show (((w.heap.push _).push _).push _)[w.heap.size + 1]? = _
    rw [Array.getElem?_push, if_neg (by simp), Array.getElem?_push, if_pos (by simp)]
  unfold World.cell?
  rw [this]
  rfl


/-- the word at a place of a state -/
def R8.get (s : R8) : Nat → BitVec 32
  | 0 => s.a
  | 1 => s.b
  | 2 => s.c
  | 3 => s.d
  | 4 => s.e
  | 5 => s.f
  | 6 => s.g
  | _ => s.h
/-- the first t words summed -/
def R8.part (s u : R8) (t : Nat) : R8 := ⟨if 0 < t then s.a + u.a else s.a, if 1 < t then s.b + u.b else s.b, if 2 < t then s.c + u.c else s.c, if 3 < t then s.d + u.d else s.d, if 4 < t then s.e + u.e else s.e, if 5 < t then s.f + u.f else s.f, if 6 < t then s.g + u.g else s.g, if 7 < t then s.h + u.h else s.h⟩
theorem part_cell (s u : R8) (t : Nat) (h : t < 8) : (s.part u t).cells[t]? = some (.int .u32 (V (s.get t))) := by
  match t, h with
  | 0, _ | 1, _ | 2, _ | 3, _ | 4, _ | 5, _ | 6, _ | 7, _ => rfl
theorem part_next (s u : R8) (t : Nat) (h : t < 8) : (s.part u t).cells.setIfInBounds t (.int .u32 (V (s.get t + u.get t))) = (s.part u (t + 1)).cells := by
  match t, h with
  | 0, _ | 1, _ | 2, _ | 3, _ | 4, _ | 5, _ | 6, _ | 7, _ => rfl
theorem index_state (u : R8) (t : Nat) (h : t < 8) (w : World) : (Instr.index 69 (.agg #[.int .u32 (V u.a), .int .u32 (V u.b), .int .u32 (V u.c), .int .u32 (V u.d), .int .u32 (V u.e), .int .u32 (V u.f), .int .u32 (V u.g), .int .u32 (V u.h)]) (.int .i64 (t : Int))).run Tryd.prog w = .ok (.int .u32 (V (u.get t))) w := by
  have i0 : (Instr.index 69 (.agg #[.int .u32 (V u.a), .int .u32 (V u.b), .int .u32 (V u.c), .int .u32 (V u.d), .int .u32 (V u.e), .int .u32 (V u.f), .int .u32 (V u.g), .int .u32 (V u.h)]) (.int .i64 0)).run Tryd.prog w = .ok (.int .u32 (V u.a)) w := by kernel_rfl
  have i1 : (Instr.index 69 (.agg #[.int .u32 (V u.a), .int .u32 (V u.b), .int .u32 (V u.c), .int .u32 (V u.d), .int .u32 (V u.e), .int .u32 (V u.f), .int .u32 (V u.g), .int .u32 (V u.h)]) (.int .i64 1)).run Tryd.prog w = .ok (.int .u32 (V u.b)) w := by kernel_rfl
  have i2 : (Instr.index 69 (.agg #[.int .u32 (V u.a), .int .u32 (V u.b), .int .u32 (V u.c), .int .u32 (V u.d), .int .u32 (V u.e), .int .u32 (V u.f), .int .u32 (V u.g), .int .u32 (V u.h)]) (.int .i64 2)).run Tryd.prog w = .ok (.int .u32 (V u.c)) w := by kernel_rfl
  have i3 : (Instr.index 69 (.agg #[.int .u32 (V u.a), .int .u32 (V u.b), .int .u32 (V u.c), .int .u32 (V u.d), .int .u32 (V u.e), .int .u32 (V u.f), .int .u32 (V u.g), .int .u32 (V u.h)]) (.int .i64 3)).run Tryd.prog w = .ok (.int .u32 (V u.d)) w := by kernel_rfl
  have i4 : (Instr.index 69 (.agg #[.int .u32 (V u.a), .int .u32 (V u.b), .int .u32 (V u.c), .int .u32 (V u.d), .int .u32 (V u.e), .int .u32 (V u.f), .int .u32 (V u.g), .int .u32 (V u.h)]) (.int .i64 4)).run Tryd.prog w = .ok (.int .u32 (V u.e)) w := by kernel_rfl
  have i5 : (Instr.index 69 (.agg #[.int .u32 (V u.a), .int .u32 (V u.b), .int .u32 (V u.c), .int .u32 (V u.d), .int .u32 (V u.e), .int .u32 (V u.f), .int .u32 (V u.g), .int .u32 (V u.h)]) (.int .i64 5)).run Tryd.prog w = .ok (.int .u32 (V u.f)) w := by kernel_rfl
  have i6 : (Instr.index 69 (.agg #[.int .u32 (V u.a), .int .u32 (V u.b), .int .u32 (V u.c), .int .u32 (V u.d), .int .u32 (V u.e), .int .u32 (V u.f), .int .u32 (V u.g), .int .u32 (V u.h)]) (.int .i64 6)).run Tryd.prog w = .ok (.int .u32 (V u.g)) w := by kernel_rfl
  have i7 : (Instr.index 69 (.agg #[.int .u32 (V u.a), .int .u32 (V u.b), .int .u32 (V u.c), .int .u32 (V u.d), .int .u32 (V u.e), .int .u32 (V u.f), .int .u32 (V u.g), .int .u32 (V u.h)]) (.int .i64 7)).run Tryd.prog w = .ok (.int .u32 (V u.h)) w := by kernel_rfl
  have : t = 0 ∨ t = 1 ∨ t = 2 ∨ t = 3 ∨ t = 4 ∨ t = 5 ∨ t = 6 ∨ t = 7 := by omega
  rcases this with rfl | rfl | rfl | rfl | rfl | rfl | rfl | rfl
  · exact i0
  · exact i1
  · exact i2
  · exact i3
  · exact i4
  · exact i5
  · exact i6
  · exact i7
theorem part_all (s u : R8) : s.part u 8 = s.plus u := rfl
attribute [local go_sem] V_xor V_and V_or V_not V_add V_shr
set_option maxHeartbeats 2000000 in
theorem mix_any (s : R8) (xs : Array Value) (ws ks : Nat → BitVec 32) (w : World) (hxs : ∀ t : Nat, t < 64 → xs[t]? = some (.int .u32 (V (ws t)))) (hT : Table 1 ks w) :
    Calls Tryd.prog 54 #[.agg s.cells, .agg xs] w fun e w' => e = .returned (.agg (s.mix ks ws).cells) ∧ Below w.heap.size w w' := by
  obtain ⟨hg, hk⟩ := hT
  unfold R8.cells
  go_enter Tryd.func54, Tryd.ntmps54
  go_wp2
  go_quiet (fail)
  go_wp2
  go_quiet (fail)
  go_wp2
  go_loopg [5, 6, 7, 8, 9, 10, 11, 12, 34] 64 (fun k A B C D E F G H i wr => ∃ t : Nat, t + k = 64 ∧ i = .int .i64 t ∧ A = .int .u32 (V (R8.steps ks ws t s).a) ∧ B = .int .u32 (V (R8.steps ks ws t s).b) ∧ C = .int .u32 (V (R8.steps ks ws t s).c) ∧ D = .int .u32 (V (R8.steps ks ws t s).d)
     ∧ E = .int .u32 (V (R8.steps ks ws t s).e) ∧ F = .int .u32 (V (R8.steps ks ws t s).f) ∧ G = .int .u32 (V (R8.steps ks ws t s).g) ∧ H = .int .u32 (V (R8.steps ks ws t s).h) ∧ ∃ n, wr = (mixW s xs w).drewN n)
  case atStart => exact ⟨0, rfl, rfl, rfl, rfl, rfl, rfl, rfl, rfl, rfl, rfl, _, World.drewN_drewN _ _ _⟩
  case round =>
    obtain ⟨t, ht, rfl, rfl, rfl, rfl, rfl, rfl, rfl, rfl, rfl, hw0⟩ := hrel
    have hw : Hid (∃ n, wr = (mixW s xs w).drewN n) := hw0
    clear hw0
    generalize hst : R8.steps ks ws t s = st
    have Hst : Hid (R8.steps ks ws t s = st) := hst
    clear hst
    by_cases hlt : t < 64
    · have h1 : wr.cell? ⟨1, t, none⟩ = some (.int .u32 (V (ks t))) := by
        obtain ⟨n, rfl⟩ := hw.out
        rw [mixW_old _ _ _ _ _ _ hg]; exact hk t hlt
      have h2 : wr.cell? ⟨w.heap.size + 1, t, none⟩ = some (.int .u32 (V (ws t))) := by
        obtain ⟨n, rfl⟩ := hw.out
        rw [mixW_row]; exact hxs t hlt
      clear hk hxs
      go_wp2
      go_quiet ((exact Calls.quiet_of_same (S1_any _ _)))
      go_wp2_with (go_at_call 65; refine (S0_any _ _).mono ?_; rintro e w' ⟨rfl, rfl⟩)
      go_roundg (63 - t)
      case measure => omega
      case rel =>
        go_light
        have hs : R8.steps ks ws (t + 1) s = st.step (ks t) (ws t) := by rw [← Hst.out]; rfl
        refine ⟨t + 1, by omega, by go_num, ?_⟩
        rw [hs]
        refine ⟨congrArg _ (sum5 _ _ _ _ _), rfl, rfl, rfl, congrArg _ (sum14 _ _ _ _ _), rfl, rfl, rfl, ?_⟩
        obtain ⟨n, hn⟩ := hw.out
        exact ⟨_, by rw [hn, World.drewN_drewN]⟩
    · have ht : t = 64 := by omega
      subst ht
      obtain ⟨n, rfl⟩ := hw.out
      clear hk hxs hlt
      have b1 : Hid (Below w.heap.size w ((mixW s xs w).drewN n)) := below_drewN ((((Below.refl _ _).alloc (Nat.le_refl _) _).alloc (by simp) _).alloc (by simp; omega) _) n
      have b2 : Hid (Blk ((mixW s xs w).drewN n) w.heap.size 69 s.cells) := Blk.drewN (((Blk.new _ _ _).alloc _).alloc _) n
      have b3 : Hid (∃ z : Array Value, z.size = 8 ∧ Blk ((mixW s xs w).drewN n) (w.heap.size + 1 + 1) 69 z) := ⟨#[.int .u32 0, .int .u32 0, .int .u32 0, .int .u32 0, .int .u32 0, .int .u32 0, .int .u32 0, .int .u32 0], rfl, by
        have := Blk.new ((w.alloc (.cells s.cells 69)).alloc (.cells xs 84)) 69 #[.int .u32 0, .int .u32 0, .int .u32 0, .int .u32 0, .int .u32 0, .int .u32 0, .int .u32 0, .int .u32 0]
        rw [size_alloc, size_alloc] at this
        exact this.drewN n⟩
      generalize (mixW s xs w).drewN n = W at *
      go_wp2
      go_loopg [94] 8 (fun k i wr => ∃ t : Nat, t + k = 8 ∧ i = .int .i64 t ∧ Below w.heap.size w wr ∧ Blk wr w.heap.size 69 (s.part st t).cells ∧ ∃ z : Array Value, z.size = 8 ∧ Blk wr (w.heap.size + 1 + 1) 69 z)
      case atStart => exact ⟨0, rfl, rfl, b1.out, b2.out, b3.out⟩
      case round =>
        obtain ⟨t, ht, rfl, c1, c2, c3⟩ := hrel
        have C1 : Hid (Below w.heap.size w wr) := c1
        have C2 : Hid (Blk wr w.heap.size 69 (s.part st t).cells) := c2
        have C3 : Hid (∃ z : Array Value, z.size = 8 ∧ Blk wr (w.heap.size + 1 + 1) 69 z) := c3
        clear c1 c2 c3 b1 b2 b3
        by_cases hlt : t < 8
        · have hi := index_state st t hlt
          have h1 : wr.cell? ⟨w.heap.size, t, none⟩ = some (.int .u32 (V (s.get t))) := by rw [C2.out.cell, part_cell _ _ _ hlt]
          have h2 : wr.frozen? ⟨w.heap.size, t, none⟩ = false := C2.out.frozen t
          go_wp2
          go_roundg (7 - t)
          case measure => omega
          case rel =>
            go_light
            refine ⟨t + 1, by omega, by go_num, C1.out.setCell (Nat.le_refl _) _, ?_, ?_⟩
            · have := C2.out.set_same t (.int .u32 (V (s.get t + st.get t)))
              rw [part_next _ _ _ hlt] at this
              exact this
            · obtain ⟨z, hz, hb⟩ := C3.out
              exact ⟨z, hz, hb.set_other _ _ (by simp; omega)⟩
        · obtain rfl : t = 8 := by omega
          obtain ⟨z, hz, hb⟩ := C3.out
          have c2 : Blk wr w.heap.size 69 (s.mix ks ws).cells := by rw [R8.mix, Hst.out]; exact C2.out
          have Q2 : Hid (Blk wr w.heap.size 69 (s.mix ks ws).cells) := c2
          have Qb : Hid (Blk wr (w.heap.size + 1 + 1) 69 z) := hb
          clear c2 hb
          go_wp2_with (first
            | refine wpList_load_row rfl 69 _ rfl w.heap.size rfl _ _ _ _ Q2.out Tryd.underlying69 rfl (by kernel_rfl) ?_
            | refine wpList_store_row rfl 69 _ _ rfl (w.heap.size + 1 + 1) _ rfl rfl _ _ Qb.out (by kernel_rfl) (by rw [hz]; rfl) (by kernel_rfl) ?_)
          refine bodyPost_ret (v := .agg (s.mix ks ws).cells) ?_ rfl ⟨rfl, ?_⟩
          · exact results_cell_row Tryd.results54 _ _ (w.heap.size + 1 + 1) _ _ _ _ rfl (Qb.out.row_same _) Tryd.underlying69 rfl (by kernel_rfl)
          · exact below_setRow C1.out (by omega) _
end Go.Proofs.YtghpcgagijhlaaaDoor
