/- The document's own Verify answers the plain function; nothing that was in memory turns. -/
import Derived.Test.YtghpcgagijhlaaaDoorRefVerify
namespace Go.Proofs.YtghpcgagijhlaaaDoor
open Go.RowKit Sha

def zeroVerdict : Array Value := #[.int .i64 0, .string ⟨#[]⟩]
def verdictCells (n : Nat) (l : List UInt8) : Array Value := #[.int .i64 (n : Int), .string ⟨l.toArray⟩]

set_option maxRecDepth 100000 in
set_option maxHeartbeats 1000000 in
theorem said_any (p : PW) (v : Value) (w : World) :
    Calls Tryd.prog 38 #[.agg (wayCells p.kind v p.value p.other p.digest)] w fun e w' => e = .returned (.agg (verdictCells p.said.1 p.said.2)) ∧ Below w.heap.size w w' := by
  obtain ⟨kd, S, a, b, c⟩ := p
  dsimp only
  have hs1 : Hid (kd = 1 → PW.said ⟨kd, S, a, b, c⟩ = (1, a)) := fun h => by rw [PW.said]; exact if_pos h
  have hs2 : Hid (kd ≠ 1 → PW.said ⟨kd, S, a, b, c⟩ = (2, [])) := fun h => by rw [PW.said]; exact if_neg h
  go_enter Tryd.func38, Tryd.ntmps38
  go_upto_region 1 with (fail)
  have k0 : Hid (Blk ((w.alloc (.cells (wayCells kd v a b c) 53)).alloc (.cells zeroVerdict 39)) w.heap.size 53 (wayCells kd v a b c)) := (Blk.new _ _ _).alloc _
  have z0 : Hid (Blk ((w.alloc (.cells (wayCells kd v a b c) 53)).alloc (.cells zeroVerdict 39)) (w.heap.size + 1) 39 zeroVerdict) := by
    have := Blk.new (w.alloc (.cells (wayCells kd v a b c) 53)) 39 zeroVerdict
    rw [size_alloc] at this
    exact this
  have b0 : Hid (Below w.heap.size w ((w.alloc (.cells (wayCells kd v a b c) 53)).alloc (.cells zeroVerdict 39))) := ((Below.refl _ _).alloc (Nat.le_refl _) _).alloc (by simp) _
  rw [show ((w.alloc (.cells (wayCells kd v a b c) 53)).alloc (.cells #[.int .i64 0, .string ⟨#[]⟩] 39)) = ((w.alloc (.cells (wayCells kd v a b c) 53)).alloc (.cells zeroVerdict 39)) from rfl]
  generalize (w.alloc (.cells (wayCells kd v a b c) 53)).alloc (.cells zeroVerdict 39) = W at *
  have e0 : W.cell? ⟨w.heap.size, 0, none⟩ = some (.int .i64 (kd : Int)) := by rw [k0.out.cell]; rfl
  have e2 : W.cell? ⟨w.heap.size, 2, none⟩ = some (.string ⟨a.toArray⟩) := by rw [k0.out.cell]; rfl
  by_cases h : kd = 1
  · have H := hs1.out h
    have hk : ((kd : Int) == 1) = true := by rw [beq_iff_eq]; omega
    have HH : Hid (PW.said ⟨kd, S, a, b, c⟩ = (1, a)) := H
    clear H h
    go_wp2_with (refine wpList_store_row rfl 39 _ _ rfl (w.heap.size + 1) _ rfl rfl _ _ z0.out (by kernel_rfl) rfl (by simp [Value.oneCell']) ?_)
    refine bodyPost_ret (results_cell_row Tryd.results38 _ _ (w.heap.size + 1) _ _ _ _ rfl (z0.out.row_same _) Tryd.underlying39 rfl (by kernel_rfl)) rfl ⟨?_, below_setRow b0.out (by omega) _⟩
    rw [HH.out]; rfl
  · have H := hs2.out h
    have hk : ((kd : Int) == 1) = false := by rw [beq_eq_false_iff_ne]; omega
    have HH : Hid (PW.said ⟨kd, S, a, b, c⟩ = (2, [])) := H
    clear H h
    go_wp2_with (refine wpList_store_row rfl 39 _ _ rfl (w.heap.size + 1) _ rfl rfl _ _ z0.out (by kernel_rfl) rfl (by kernel_rfl) ?_)
    refine bodyPost_ret (results_cell_row Tryd.results38 _ _ (w.heap.size + 1) _ _ _ _ rfl (z0.out.row_same _) Tryd.underlying39 rfl (by kernel_rfl)) rfl ⟨?_, below_setRow b0.out (by omega) _⟩
    rw [HH.out]; rfl
theorem verdict_err {root idx s : List UInt8} (h : lookErr root idx s ≠ 0) : verdict root idx s = (0, [], lookErr root idx s) := by
  unfold lookErr verdict at *
  by_cases h1 : root.length < 1 ∨ 32 < root.length ∨ idx.length ≠ 32
  · rw [if_pos h1, if_pos h1]
  · rw [if_neg h1] at h
    rw [if_neg h1, if_neg h1]
    cases h2 : parse root.length idx s with
    | none => rfl
    | some p =>
      rw [h2] at h
      dsimp only at h ⊢
      by_cases h3 : p.root root.length idx = root
      · rw [if_pos h3] at h; exact absurd rfl h
      · rw [if_neg h3, if_neg h3]
theorem verdict_ok {root idx s : List UInt8} {p : PW} (h : lookErr root idx s = 0) (hp : parse root.length idx s = some p) (hr : p.root root.length idx = root) : verdict root idx s = (p.said.1, p.said.2, 0) := by
  unfold lookErr verdict at *
  split
  · rename_i h1; rw [if_pos h1] at h; cases h
  · rw [hp]; exact if_pos hr
theorem lookErr_le (root idx s : List UInt8) : lookErr root idx s ≤ 3 := by
  unfold lookErr
  split
  · omega
  · split
    · omega
    · split <;> omega

set_option maxRecDepth 100000 in
set_option maxHeartbeats 1000000 in
theorem Verify_any (root idx s : ByteArray) (w : World) (hs : s.size ≤ 140737488351232) (hr : root.size ≤ 140737488351232) :
    Calls Tryd.prog 27 #[.string root, .string idx, .string s] w fun e w' => Below w.heap.size w w' ∧
      e = .returned (.tuple #[.agg (verdictCells (verdict root.data.toList idx.data.toList s.data.toList).1 (verdict root.data.toList idx.data.toList s.data.toList).2.1), .int .i64 ((verdict root.data.toList idx.data.toList s.data.toList).2.2 : Nat)]) := by
  have z0 : Hid (Blk (w.alloc (.cells zeroVerdict 39)) w.heap.size 39 zeroVerdict) := Blk.new _ _ _
  have b0 : Hid (Below w.heap.size w (w.alloc (.cells zeroVerdict 39))) := (Below.refl _ _).alloc (Nat.le_refl _) _
  go_enter Tryd.func27, Tryd.ntmps27
  go_wp2_with fail
  refine (look_any root idx s (w.alloc (.cells zeroVerdict 39)) hs hr).mono ?_
  rintro e w1 ⟨hb, hcase⟩
  have B1 : Hid (Below w.heap.size w w1) := b0.out.trans (hb.mono (by rw [size_alloc]; omega))
  have Z1 : Hid (Blk w1 w.heap.size 39 zeroVerdict) := z0.out.below hb z0.out.lt
  have hsz : w.heap.size < w1.heap.size := Z1.out.lt
  have y1 : Hid (Blk (w1.alloc (.cells zeroWay 53)) w1.heap.size 53 zeroWay) := Blk.new _ _ _
  rw [size_alloc] at hcase
  clear hb b0 z0
  rcases hcase with ⟨hn, rfl⟩ | ⟨p, v, hn, hp, hroot, rfl, hown⟩
  · have HV : Hid (verdict root.data.toList idx.data.toList s.data.toList = (0, [], lookErr root.data.toList idx.data.toList s.data.toList)) := verdict_err hn
    have hle := lookErr_le root.data.toList idx.data.toList s.data.toList
    generalize lookErr root.data.toList idx.data.toList s.data.toList = n at *
    have hne : ((n : Int) != 0) = true := by rw [bne_iff_ne]; omega
    have Z2 : Hid (Blk ((w1.alloc (.cells zeroWay 53)).setRow w1.heap.size zeroWay) w.heap.size 39 zeroVerdict) := (Z1.out.alloc _).row_other _ (by omega)
    have B2 : Hid (Below w.heap.size w ((w1.alloc (.cells zeroWay 53)).setRow w1.heap.size zeroWay)) := below_setRow (B1.out.alloc B1.out.size _) B1.out.size _
    clear hn
    go_wp2_with (first
      | refine wpList_store_row rfl 53 _ _ rfl w1.heap.size zeroWay rfl rfl _ _ y1.out (by kernel_rfl) rfl (by kernel_rfl) ?_
      | refine wpList_store_row rfl 39 _ _ rfl w.heap.size zeroVerdict rfl rfl _ _ Z2.out (by kernel_rfl) rfl (by kernel_rfl) ?_)
    refine bodyPost_ret (results_row_tmp Tryd.results27 _ _ w.heap.size _ _ _ _ rfl (Z2.out.row_same _) Tryd.underlying39 rfl (by kernel_rfl) _ rfl) rfl ⟨below_setRow B2.out (Nat.le_refl _) _, ?_⟩
    rw [HV.out]; rfl
  · have HV : Hid (verdict root.data.toList idx.data.toList s.data.toList = (p.said.1, p.said.2, 0)) := verdict_ok hn hp hroot
    have HO : Hid (Own w1 (w.heap.size + 1) 9 v p.sibs.length (p.sibs.map fun x => .string ⟨x.toArray⟩)) := hown
    have K2 : Hid (Blk ((w1.alloc (.cells zeroWay 53)).setRow w1.heap.size (wayCells p.kind v p.value p.other p.digest)) w1.heap.size 53 (wayCells p.kind v p.value p.other p.digest)) := y1.out.row_same _
    have Z2 : Hid (Blk ((w1.alloc (.cells zeroWay 53)).setRow w1.heap.size (wayCells p.kind v p.value p.other p.digest)) w.heap.size 39 zeroVerdict) := (Z1.out.alloc _).row_other _ (by omega)
    have B2 : Hid (Below w.heap.size w ((w1.alloc (.cells zeroWay 53)).setRow w1.heap.size (wayCells p.kind v p.value p.other p.digest))) := below_setRow (B1.out.alloc B1.out.size _) B1.out.size _
    clear hn hp hroot hown
    go_wp2_with (first
      | refine wpList_store_row rfl 53 _ _ rfl w1.heap.size (wayCells _ _ _ _ _) rfl rfl _ _ y1.out (by kernel_rfl) rfl (way_one HO.out) ?_
      | refine wpList_load_row rfl 53 _ rfl w1.heap.size rfl _ _ _ _ K2.out Tryd.underlying53 rfl (by kernel_rfl) ?_)
    refine (said_any p v ((w1.alloc (.cells zeroWay 53)).setRow w1.heap.size (wayCells p.kind v p.value p.other p.digest))).mono ?_
    rintro e w2 ⟨rfl, hb2⟩
    have B3 := below_then B2.out hb2 B2.out.size
    have Z3 : Hid (Blk w2 w.heap.size 39 zeroVerdict) := Z2.out.below hb2 Z2.out.lt
    clear hb2 B2 Z2 K2
    go_wp2_with (refine wpList_store_row rfl 39 _ _ rfl w.heap.size (verdictCells _ _) rfl rfl _ _ Z3.out (by kernel_rfl) rfl (by simp [verdictCells, Value.oneCell']) ?_)
    refine bodyPost_ret (results_row_tmp Tryd.results27 _ _ w.heap.size _ _ _ _ rfl (Z3.out.row_same _) Tryd.underlying39 rfl (by kernel_rfl) _ rfl) rfl ⟨below_setRow B3.out (Nat.le_refl _) _, ?_⟩
    rw [HV.out]; rfl
end Go.Proofs.YtghpcgagijhlaaaDoor
