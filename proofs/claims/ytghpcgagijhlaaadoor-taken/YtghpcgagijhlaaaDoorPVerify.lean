/- The program's Verify answers the plain function; nothing that was in memory turns. -/
import Derived.Test.YtghpcgagijhlaaaDoorPRead
import Derived.Test.YtghpcgagijhlaaaDoorRefSaid
import Derived.Test.YtghpcgagijhlaaaDoorShelfClone
namespace Go.Proofs.YtghpcgagijhlaaaDoor
open Go.RowKit Sha

set_option maxHeartbeats 1000000 in
theorem mayAsk_yes (r idx : ByteArray) (w : World) (h1 : 1 ≤ r.size) (h2 : r.size ≤ 32) (h3 : idx.size = 32) : Calls Tryd.prog 33 #[.string r, .string idx] w fun e w' => e = .returned (.bool true) ∧ w' = w := by
  go_enter Tryd.func33, Tryd.ntmps33
  go_wp2_with fail
  refine (isWidth_yes _ w (by omega) (by omega)).mono ?_
  rintro e w2 ⟨rfl, hw2⟩
  obtain rfl : w = w2 := hw2.symm
  clear hw2
  go_wp2
  go_ret
  exact ⟨rfl, rfl⟩
set_option maxHeartbeats 1000000 in
theorem mayAsk_no (r idx : ByteArray) (w : World) (hr : r.size ≤ 140737488351232) (h : r.size < 1 ∨ 32 < r.size ∨ idx.size ≠ 32) : Calls Tryd.prog 33 #[.string r, .string idx] w fun e w' => e = .returned (.bool false) ∧ w' = w := by
  by_cases h1 : r.size < 1 ∨ 32 < r.size
  · go_enter Tryd.func33, Tryd.ntmps33
    go_wp2_with fail
    refine (isWidth_no _ w (by omega)).mono ?_
    rintro e w2 ⟨rfl, hw2⟩
    obtain rfl : w = w2 := hw2.symm
    clear hw2
    go_wp2
    go_ret
    exact ⟨rfl, rfl⟩
  · have h3 : idx.size ≠ 32 := by omega
    have hq : ((idx.size : Int) == 32) = false := by rw [beq_eq_false_iff_ne]; omega
    go_enter Tryd.func33, Tryd.ntmps33
    go_wp2_with fail
    refine (isWidth_yes _ w (by omega) (by omega)).mono ?_
    rintro e w2 ⟨rfl, hw2⟩
    obtain rfl : w = w2 := hw2.symm
    clear hw2
    go_wp2
    go_ret
    exact ⟨rfl, rfl⟩

set_option maxHeartbeats 1000000 in
theorem clone_any (s : ByteArray) (w : World) (h : s.size ≤ 1000) : Calls Tryd.prog 51 #[.string s] w fun e w' => e = .returned (.string s) ∧ Below w.heap.size w w' := by
  go_enter Tryd.func51, Tryd.ntmps51
  go_wp2_with fail
  refine (Tryd.stringslite_Clone s w (by omega)).mono ?_
  rintro e w2 ⟨rfl, hb⟩
  have HB : Hid (Below w.heap.size w w2) := hb
  clear hb
  go_wp2
  go_ret
  exact ⟨rfl, HB.out⟩

set_option maxRecDepth 100000 in
set_option maxHeartbeats 1000000 in
theorem psaid_any (k : Nat) (p : PW) (v : Value) (w : World) (hp : p.value.length ≤ 100) :
    Calls Tryd.prog 35 #[.agg (pwCells k p.kind v p.value p.other p.digest)] w fun e w' => e = .returned (.agg (verdictCells p.said.1 p.said.2)) ∧ Below w.heap.size w w' := by
  obtain ⟨kd, S, a, b, c⟩ := p
  dsimp only at hp ⊢
  have hs1 : Hid (kd = 1 → PW.said ⟨kd, S, a, b, c⟩ = (1, a)) := fun h => by rw [PW.said]; exact if_pos h
  have hs2 : Hid (kd ≠ 1 → PW.said ⟨kd, S, a, b, c⟩ = (2, [])) := fun h => by rw [PW.said]; exact if_neg h
  go_enter Tryd.func35, Tryd.ntmps35
  go_upto_region 1 with (fail)
  have k0 : Hid (Blk ((w.alloc (.cells (pwCells k kd v a b c) 61)).alloc (.cells zeroVerdict 39)) w.heap.size 61 (pwCells k kd v a b c)) := (Blk.new _ _ _).alloc _
  have z0 : Hid (Blk ((w.alloc (.cells (pwCells k kd v a b c) 61)).alloc (.cells zeroVerdict 39)) (w.heap.size + 1) 39 zeroVerdict) := by
    have := Blk.new (w.alloc (.cells (pwCells k kd v a b c) 61)) 39 zeroVerdict
    rw [size_alloc] at this
    exact this
  have b0 : Hid (Below w.heap.size w ((w.alloc (.cells (pwCells k kd v a b c) 61)).alloc (.cells zeroVerdict 39))) := ((Below.refl _ _).alloc (Nat.le_refl _) _).alloc (by simp) _
  rw [show ((w.alloc (.cells (pwCells k kd v a b c) 61)).alloc (.cells #[.int .i64 0, .string ⟨#[]⟩] 39)) = ((w.alloc (.cells (pwCells k kd v a b c) 61)).alloc (.cells zeroVerdict 39)) from rfl]
  generalize (w.alloc (.cells (pwCells k kd v a b c) 61)).alloc (.cells zeroVerdict 39) = W at *
  have e0 : W.cell? ⟨w.heap.size, 1, none⟩ = some (.int .i64 (kd : Int)) := by rw [k0.out.cell]; rfl
  have e2 : W.cell? ⟨w.heap.size, 3, none⟩ = some (.string ⟨a.toArray⟩) := by rw [k0.out.cell]; rfl
  by_cases h : kd = 1
  · have H := hs1.out h
    have hk : ((kd : Int) == 1) = true := by rw [beq_iff_eq]; omega
    have HH : Hid (PW.said ⟨kd, S, a, b, c⟩ = (1, a)) := H
    clear H h
    go_wp2_with fail
    refine (clone_any ⟨a.toArray⟩ W (by show a.length ≤ 1000; omega)).mono ?_
    rintro e w2 ⟨rfl, hb2⟩
    have z1 : Hid (Blk w2 (w.heap.size + 1) 39 zeroVerdict) := z0.out.below hb2 z0.out.lt
    have b1 := below_then' b0.out hb2 b0.out.size
    clear hb2
    go_wp2_with (refine wpList_store_row rfl 39 _ _ rfl (w.heap.size + 1) _ rfl rfl _ _ z1.out (by kernel_rfl) rfl (by simp [Value.oneCell']) ?_)
    refine bodyPost_ret (results_cell_row Tryd.results35 _ _ (w.heap.size + 1) _ _ _ _ rfl (z1.out.row_same _) Tryd.underlying39 rfl (by kernel_rfl)) rfl ⟨?_, below_setRow b1.out (by omega) _⟩
    rw [HH.out]; rfl
  · have H := hs2.out h
    have hk : ((kd : Int) == 1) = false := by rw [beq_eq_false_iff_ne]; omega
    have HH : Hid (PW.said ⟨kd, S, a, b, c⟩ = (2, [])) := H
    clear H h
    go_wp2_with (refine wpList_store_row rfl 39 _ _ rfl (w.heap.size + 1) _ rfl rfl _ _ z0.out (by kernel_rfl) rfl (by kernel_rfl) ?_)
    refine bodyPost_ret (results_cell_row Tryd.results35 _ _ (w.heap.size + 1) _ _ _ _ rfl (z0.out.row_same _) Tryd.underlying39 rfl (by kernel_rfl)) rfl ⟨?_, below_setRow b0.out (by omega) _⟩
    rw [HH.out]; rfl

set_option maxRecDepth 100000 in
set_option maxHeartbeats 2000000 in
theorem pVerify_any (root idx s : ByteArray) (w : World) (hs : s.size ≤ 140737488351232) (hr : root.size ≤ 140737488351232) (hT : Tabs w) :
    Calls Tryd.prog 19 #[.string root, .string idx, .string s] w fun e w' => Below w.heap.size w w' ∧
      e = .returned (.tuple #[.agg (verdictCells (verdict root.data.toList idx.data.toList s.data.toList).1 (verdict root.data.toList idx.data.toList s.data.toList).2.1), .int .i64 ((verdict root.data.toList idx.data.toList s.data.toList).2.2 : Nat)]) := by
  have hrl : root.data.toList.length = root.size := by simp
  have hil : idx.data.toList.length = idx.size := by simp
  have HT : Hid (Tabs w) := hT
  clear hT
  have z0 : Hid (Blk (w.alloc (.cells zeroVerdict 39)) w.heap.size 39 zeroVerdict) := Blk.new _ _ _
  have b0 : Hid (Below w.heap.size w (w.alloc (.cells zeroVerdict 39))) := (Below.refl _ _).alloc (Nat.le_refl _) _
  go_enter Tryd.func19, Tryd.ntmps19
  go_wp2_with fail
  by_cases hno : root.size < 1 ∨ 32 < root.size ∨ idx.size ≠ 32
  · have HV : Hid (verdict root.data.toList idx.data.toList s.data.toList = (0, [], 1)) := by show _ = _; rw [verdict, if_pos (by rw [hrl, hil]; exact hno)]
    refine (mayAsk_no root idx _ hr hno).mono ?_
    rintro e w2 ⟨rfl, hw2⟩
    obtain rfl := hw2.symm
    clear hw2
    go_wp2_with (refine wpList_store_row rfl 39 _ _ rfl w.heap.size zeroVerdict rfl rfl _ _ z0.out (by kernel_rfl) rfl (by kernel_rfl) ?_)
    refine bodyPost_ret (results_row_tmp Tryd.results19 _ _ w.heap.size _ _ _ _ rfl (z0.out.row_same _) Tryd.underlying39 rfl (by kernel_rfl) _ rfl) rfl ⟨below_setRow b0.out (Nat.le_refl _) _, ?_⟩
    rw [HV.out]; rfl
  refine (mayAsk_yes root idx _ (by omega) (by omega) (by omega)).mono ?_
  rintro e w2 ⟨rfl, hw2⟩
  obtain rfl := hw2.symm
  clear hw2
  go_wp2_with fail
  refine (pread_any root idx s (w.alloc (.cells zeroVerdict 39)) hs (by omega) (by omega) (by omega) (HT.out.below b0.out (Nat.le_refl _))).mono ?_
  rintro e w1 ⟨hb, hcase⟩
  have B1 : Hid (Below w.heap.size w w1) := b0.out.trans (hb.mono (by rw [size_alloc]; omega))
  have Z1 : Hid (Blk w1 w.heap.size 39 zeroVerdict) := z0.out.below hb z0.out.lt
  have hsz : w.heap.size < w1.heap.size := Z1.out.lt
  have y1 : Hid (Blk (w1.alloc (.cells zeroPw 61)) w1.heap.size 61 zeroPw) := Blk.new _ _ _
  rw [size_alloc] at hcase
  clear hb b0 z0
  rcases hcase with ⟨hn, rfl⟩ | ⟨p, v, hn, hp, hroot, rfl, hown⟩
  · have HV : Hid (verdict root.data.toList idx.data.toList s.data.toList = (0, [], lookErr root.data.toList idx.data.toList s.data.toList)) := verdict_err hn
    have hle := lookErr_le root.data.toList idx.data.toList s.data.toList
    generalize lookErr root.data.toList idx.data.toList s.data.toList = n at *
    have hne : ((n : Int) != 0) = true := by rw [bne_iff_ne]; omega
    have Z2 : Hid (Blk ((w1.alloc (.cells zeroPw 61)).setRow w1.heap.size zeroPw) w.heap.size 39 zeroVerdict) := (Z1.out.alloc _).row_other _ (by omega)
    have B2 : Hid (Below w.heap.size w ((w1.alloc (.cells zeroPw 61)).setRow w1.heap.size zeroPw)) := below_setRow (B1.out.alloc B1.out.size _) B1.out.size _
    clear hn
    go_wp2_with (first
      | refine wpList_store_row rfl 61 _ _ rfl w1.heap.size zeroPw rfl rfl _ _ y1.out (by kernel_rfl) rfl (by kernel_rfl) ?_
      | refine wpList_store_row rfl 39 _ _ rfl w.heap.size zeroVerdict rfl rfl _ _ Z2.out (by kernel_rfl) rfl (by kernel_rfl) ?_)
    refine bodyPost_ret (results_row_tmp Tryd.results19 _ _ w.heap.size _ _ _ _ rfl (Z2.out.row_same _) Tryd.underlying39 rfl (by kernel_rfl) _ rfl) rfl ⟨below_setRow B2.out (Nat.le_refl _) _, ?_⟩
    rw [HV.out]; rfl
  · have HV : Hid (verdict root.data.toList idx.data.toList s.data.toList = (p.said.1, p.said.2, 0)) := verdict_ok hn hp hroot
    have HO : Hid (Own w1 (w.heap.size + 1) 9 v p.sibs.length (p.sibs.map fun x => .string ⟨x.toArray⟩)) := hown
    have hva : p.value.length ≤ 100 := (parse_ok (by rw [hrl]; omega) hp).value
    rw [hrl]
    obtain ⟨k, hk⟩ : ∃ k, k = root.size := ⟨_, rfl⟩
    rw [← hk]
    clear hk
    have K2 : Hid (Blk ((w1.alloc (.cells zeroPw 61)).setRow w1.heap.size (pwCells k p.kind v p.value p.other p.digest)) w1.heap.size 61 (pwCells k p.kind v p.value p.other p.digest)) := y1.out.row_same _
    have Z2 : Hid (Blk ((w1.alloc (.cells zeroPw 61)).setRow w1.heap.size (pwCells k p.kind v p.value p.other p.digest)) w.heap.size 39 zeroVerdict) := (Z1.out.alloc _).row_other _ (by omega)
    have B2 : Hid (Below w.heap.size w ((w1.alloc (.cells zeroPw 61)).setRow w1.heap.size (pwCells k p.kind v p.value p.other p.digest))) := below_setRow (B1.out.alloc B1.out.size _) B1.out.size _
    clear hn hp hroot hown
    go_wp2_with (first
      | refine wpList_store_row rfl 61 _ _ rfl w1.heap.size (pwCells _ _ _ _ _ _) rfl rfl _ _ y1.out (by kernel_rfl) rfl (pw_one HO.out) ?_
      | refine wpList_load_row rfl 61 _ rfl w1.heap.size rfl _ _ _ _ K2.out Tryd.underlying61 rfl (by kernel_rfl) ?_)
    refine (psaid_any k p v ((w1.alloc (.cells zeroPw 61)).setRow w1.heap.size (pwCells k p.kind v p.value p.other p.digest)) hva).mono ?_
    rintro e w2 ⟨rfl, hb2⟩
    have B3 := below_then B2.out hb2 B2.out.size
    have Z3 : Hid (Blk w2 w.heap.size 39 zeroVerdict) := Z2.out.below hb2 Z2.out.lt
    clear hb2 B2 Z2 K2
    go_wp2_with (refine wpList_store_row rfl 39 _ _ rfl w.heap.size (verdictCells _ _) rfl rfl _ _ Z3.out (by kernel_rfl) rfl (by simp [verdictCells, Value.oneCell']) ?_)
    refine bodyPost_ret (results_row_tmp Tryd.results19 _ _ w.heap.size _ _ _ _ rfl (Z3.out.row_same _) Tryd.underlying39 rfl (by kernel_rfl) _ rfl) rfl ⟨below_setRow B3.out (Nat.le_refl _) _, ?_⟩
    rw [HV.out]; rfl
end Go.Proofs.YtghpcgagijhlaaaDoor
