/- What the small functions on words answer, of the program and of the document's own answer: each is the function of Word's of the same name; they touch no memory. -/
import Derived.Test.YtghpcgagijhlaaaDoorRows
import Derived.Test.YtghpcgagijhlaaaDoorWord
import Derived.Test.YtghpcgagijhlaaaDoorTail
import Derived.Deep.RegionWith
import Derived.WalkSpells
import Derived.WalkLawsBesides
namespace Go.Proofs.YtghpcgagijhlaaaDoor
open Go.RowKit Sha

theorem ret_int {k : IntKind} {a b : Int} (h : a = b) : Ending.returned (.int k a) = .returned (.int k b) := by rw [h]

theorem neg_and (n : Nat) (h1 : 1 ≤ n) (h2 : n ≤ 31) : bits .and .u64 (IntKind.u64.wrap (-(n : Int))) 31 = ((32 - n : Nat) : Int) := by
  have : ∀ n : Fin 32, 1 ≤ n.val → bits .and .u64 (IntKind.u64.wrap (-(n.val : Int))) 31 = ((32 - n.val : Nat) : Int) := by decide
  exact this ⟨n, by omega⟩ h1

set_option maxHeartbeats 400000 in
theorem rot_any (x : BitVec 32) (n : Nat) (w : World) (h1 : 1 ≤ n) (h2 : n ≤ 31) :
    Calls Tryd.prog 83 #[.int .u32 (V x), .int .i64 (-(n : Int))] w fun e w' => e = .returned (.int .u32 (V (rotr x n))) ∧ w' = w := by
  have hb := neg_and n h1 h2
  go_enter Tryd.func83, Tryd.ntmps83
  go_wp2
  go_ret
  exact ⟨ret_int (by rw [show 32 - (32 - n) = n from by omega]; exact V_rot x n), rfl⟩
set_option maxHeartbeats 400000 in
theorem turn_any (x : BitVec 32) (n : Nat) (w : World) (h1 : 1 ≤ n) (h2 : n ≤ 31) :
    Calls Tryd.prog 77 #[.int .u32 (V x), .int .i64 n] w fun e w' => e = .returned (.int .u32 (V (rotr x n))) ∧ w' = w := by
  go_enter Tryd.func77, Tryd.ntmps77
  go_wp2_with (go_at_call 83; refine (rot_any x n _ h1 h2).mono ?_; rintro e w' ⟨rfl, rfl⟩)
  go_ret
  exact ⟨rfl, rfl⟩
theorem turn_at (x : BitVec 32) (n : Nat) (m : Int) (w : World) (hm : m = n) (h1 : 1 ≤ n) (h2 : n ≤ 31) :
    Calls Tryd.prog 77 #[.int .u32 (V x), .int .i64 m] w fun e w' => e = .returned (.int .u32 (V (rotr x n))) ∧ w' = w := by
  subst hm; exact turn_any x n w h1 h2
attribute [local go_sem] V_xor V_shr V64_xor
set_option maxHeartbeats 400000 in
theorem S0_any (x : BitVec 32) (w : World) :
    Calls Tryd.prog 65 #[.int .u32 (V x)] w fun e w' => e = .returned (.int .u32 (V (S0 x))) ∧ w' = w := by
  go_enter Tryd.func65, Tryd.ntmps65
  go_wp2_with fail
  refine (turn_at x 2 _ _ rfl (by omega) (by omega)).mono ?_; rintro e w' ⟨rfl, rfl⟩
  go_wp2_with fail
  refine (turn_at x 13 _ _ rfl (by omega) (by omega)).mono ?_; rintro e w' ⟨rfl, rfl⟩
  go_wp2_with fail
  refine (turn_at x 22 _ _ rfl (by omega) (by omega)).mono ?_; rintro e w' ⟨rfl, rfl⟩
  go_wp2
  go_ret
  exact ⟨rfl, rfl⟩
set_option maxHeartbeats 400000 in
theorem S1_any (x : BitVec 32) (w : World) :
    Calls Tryd.prog 64 #[.int .u32 (V x)] w fun e w' => e = .returned (.int .u32 (V (S1 x))) ∧ w' = w := by
  go_enter Tryd.func64, Tryd.ntmps64
  go_wp2_with fail
  refine (turn_at x 6 _ _ rfl (by omega) (by omega)).mono ?_; rintro e w' ⟨rfl, rfl⟩
  go_wp2_with fail
  refine (turn_at x 11 _ _ rfl (by omega) (by omega)).mono ?_; rintro e w' ⟨rfl, rfl⟩
  go_wp2_with fail
  refine (turn_at x 25 _ _ rfl (by omega) (by omega)).mono ?_; rintro e w' ⟨rfl, rfl⟩
  go_wp2
  go_ret
  exact ⟨rfl, rfl⟩
set_option maxHeartbeats 400000 in
theorem s0_any (x : BitVec 32) (w : World) :
    Calls Tryd.prog 67 #[.int .u32 (V x)] w fun e w' => e = .returned (.int .u32 (V (s0 x))) ∧ w' = w := by
  go_enter Tryd.func67, Tryd.ntmps67
  go_wp2_with fail
  refine (turn_at x 7 _ _ rfl (by omega) (by omega)).mono ?_; rintro e w' ⟨rfl, rfl⟩
  go_wp2_with fail
  refine (turn_at x 18 _ _ rfl (by omega) (by omega)).mono ?_; rintro e w' ⟨rfl, rfl⟩
  go_wp2
  go_ret
  exact ⟨ret_int (by rw [V_shr3, V_xor]; rfl), rfl⟩
set_option maxHeartbeats 400000 in
theorem s1_any (x : BitVec 32) (w : World) :
    Calls Tryd.prog 66 #[.int .u32 (V x)] w fun e w' => e = .returned (.int .u32 (V (s1 x))) ∧ w' = w := by
  go_enter Tryd.func66, Tryd.ntmps66
  go_wp2_with fail
  refine (turn_at x 17 _ _ rfl (by omega) (by omega)).mono ?_; rintro e w' ⟨rfl, rfl⟩
  go_wp2_with fail
  refine (turn_at x 19 _ _ rfl (by omega) (by omega)).mono ?_; rintro e w' ⟨rfl, rfl⟩
  go_wp2
  go_ret
  exact ⟨ret_int (by rw [V_shr10, V_xor]; rfl), rfl⟩

/- the document's own answer -/
set_option maxHeartbeats 400000 in
theorem turned_any (x : BitVec 32) (n : Nat) (w : World) (h1 : 1 ≤ n) (h2 : n ≤ 31) :
    Calls Tryd.prog 74 #[.int .u64 (V x), .int .i64 n] w fun e w' => e = .returned (.int .u64 (V (rotr x n))) ∧ ∃ k, w' = w.drewN k := by
  go_enter Tryd.func74, Tryd.ntmps74
  go_wp2
  go_quiet (fail)
  go_wp2
  go_ret
  exact ⟨ret_int (V64_rot' x n (by omega)), nq, rfl⟩
theorem turned_at (x : BitVec 32) (n : Nat) (m : Int) (w : World) (hm : m = n) (h1 : 1 ≤ n) (h2 : n ≤ 31) :
    Calls Tryd.prog 74 #[.int .u64 (V x), .int .i64 m] w fun e w' => e = .returned (.int .u64 (V (rotr x n))) ∧ ∃ k, w' = w.drewN k := by
  subst hm; exact turned_any x n w h1 h2
set_option maxHeartbeats 400000 in
theorem great_any (x : BitVec 32) (a b c : Nat) (w : World) (ha : 1 ≤ a ∧ a ≤ 31) (hb : 1 ≤ b ∧ b ≤ 31) (hc : 1 ≤ c ∧ c ≤ 31) :
    Calls Tryd.prog 59 #[.int .u64 (V x), .int .i64 a, .int .i64 b, .int .i64 c] w fun e w' => e = .returned (.int .u64 (V (rotr x a ^^^ rotr x b ^^^ rotr x c))) ∧ ∃ k, w' = w.drewN k := by
  go_enter Tryd.func59, Tryd.ntmps59
  go_wp2_with fail
  refine (turned_any x a _ ha.1 ha.2).mono ?_; rintro e w1 ⟨rfl, k1, rfl⟩
  go_wp2_with fail
  refine (turned_any x b _ hb.1 hb.2).mono ?_; rintro e w1 ⟨rfl, k2, rfl⟩
  go_wp2_with fail
  refine (turned_any x c _ hc.1 hc.2).mono ?_; rintro e w1 ⟨rfl, k3, rfl⟩
  go_wp2
  go_ret
  exact ⟨rfl, _, rfl⟩
set_option maxHeartbeats 400000 in
theorem little_any (x : BitVec 32) (a b c : Nat) (w : World) (ha : 1 ≤ a ∧ a ≤ 31) (hb : 1 ≤ b ∧ b ≤ 31) (hc : c ≤ 31) :
    Calls Tryd.prog 58 #[.int .u64 (V x), .int .i64 a, .int .i64 b, .int .i64 c] w fun e w' => e = .returned (.int .u64 (V (rotr x a ^^^ rotr x b ^^^ x >>> c))) ∧ ∃ k, w' = w.drewN k := by
  go_enter Tryd.func58, Tryd.ntmps58
  go_wp2
  obtain ⟨ha1, ha2⟩ := ha
  obtain ⟨hb1, hb2⟩ := hb
  go_quiet ((refine Calls.quiet_of (turned_any x _ _ ?_ ?_) <;> omega))
  go_wp2
  go_ret
  exact ⟨rfl, nq, rfl⟩
end Go.Proofs.YtghpcgagijhlaaaDoor
