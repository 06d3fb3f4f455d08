/- P4, the statement Proofs, as a contract: for every root, width, index and proof of at most 2^47 - 4096 bytes thicketlaw.Proofs returns true and touches nothing that was in memory; the two tables lie in memory as the program's text lays them. -/
import Derived.Test.YtghpcgagijhlaaaDoorPVerify
namespace Go.Proofs.YtghpcgagijhlaaaDoor
open Go.RowKit Sha

def zeros32 : ByteArray := ⟨#[0, 0, 0, 0, 0, 0, 0, 0, 0, 0, 0, 0, 0, 0, 0, 0, 0, 0, 0, 0, 0, 0, 0, 0, 0, 0, 0, 0, 0, 0, 0, 0]⟩
theorem dg_zero2 : dg 2 [0] = [110, 52] := by rw [dg, sha_zero]
theorem shown_parse (idx : List UInt8) : parse 2 idx [0, 0, 0] = some ⟨0, [], [], [], []⟩ := by
  rw [parse_whole (S := []) (a := 3) (by decide) (by decide) (by decide) (by decide) (fun i _ h => absurd h (by simp [markBytes, depthOf])) rfl, endOf]
  rfl
theorem shown_verdict (idx : List UInt8) (h : idx.length = 32) : verdict [110, 52] idx [0, 0, 0] = (2, [], 0) := by
  have hr : (PW.mk 0 [] [] [] []).root 2 idx = [110, 52] := by show dg 2 [0] = _; exact dg_zero2
  rw [verdict, if_neg (by simp [h])]
  have h2 : parse ([110, 52] : List UInt8).length idx [0, 0, 0] = some ⟨0, [], [], [], []⟩ := shown_parse idx
  rw [h2]
  exact if_pos hr
theorem shown_verdict2 (idx : List UInt8) (h : idx.length = 32) : verdict [110, 52] idx [0, 0] = (0, [], 2) := by
  rw [verdict, if_neg (by simp [h])]
  have h2 : parse ([110, 52] : List UInt8).length idx [0, 0] = none := parse_short (.inl (by decide))
  rw [h2]

set_option maxRecDepth 100000 in
set_option maxHeartbeats 1000000 in
theorem looked_any (w : World) (hT : Tabs w) : Calls Tryd.prog 12 #[] w fun e w' => e = .returned (.bool true) ∧ Below w.heap.size w w' := by
  have HT : Hid (Tabs w) := hT
  clear hT
  go_enter Tryd.func12, Tryd.ntmps12
  go_wp2_with fail
  refine (pVerify_any ⟨#[110, 52]⟩ zeros32 ⟨#[0, 0, 0]⟩ _ (by decide) (by decide) HT.out).mono ?_
  rintro e w1 ⟨hb1, rfl⟩
  rw [show verdict (⟨#[110, 52]⟩ : ByteArray).data.toList zeros32.data.toList (⟨#[0, 0, 0]⟩ : ByteArray).data.toList = (2, [], 0) from shown_verdict _ rfl]
  have B1 : Hid (Below w.heap.size w (w1.alloc (.cells #[.int .i64 2, .string ⟨#[]⟩] 39))) := hb1.alloc hb1.size _
  have K1 : Hid (Blk (w1.alloc (.cells #[.int .i64 2, .string ⟨#[]⟩] 39)) w1.heap.size 39 #[.int .i64 2, .string ⟨#[]⟩]) := Blk.new _ _ _
  clear hb1
  simp only [verdictCells]
  go_wp2_with fail
  generalize w1.alloc (.cells #[.int .i64 2, .string ⟨#[]⟩] 39) = w2 at *
  refine (pVerify_any ⟨#[110, 52]⟩ zeros32 ⟨#[0, 0]⟩ w2 (by decide) (by decide) (HT.out.below B1.out (Nat.le_refl _))).mono ?_
  rintro e w3 ⟨hb3, rfl⟩
  rw [show verdict (⟨#[110, 52]⟩ : ByteArray).data.toList zeros32.data.toList (⟨#[0, 0]⟩ : ByteArray).data.toList = (0, [], 2) from shown_verdict2 _ rfl]
  have B3 : Hid (Below w.heap.size w w3) := below_then' B1.out hb3 B1.out.size
  have K3 : Hid (Blk w3 w1.heap.size 39 #[.int .i64 2, .string ⟨#[]⟩]) := K1.out.below hb3 K1.out.lt
  clear hb3 B1 K1
  have e0 : (w3.alloc (.cells #[.int .i64 0, .string ⟨#[]⟩] 39)).cell? ⟨w1.heap.size, 0, none⟩ = some (.int .i64 2) := ((K3.out.alloc _).cell 0).trans rfl
  have e1 : (w3.alloc (.cells #[.int .i64 0, .string ⟨#[]⟩] 39)).cell? ⟨w1.heap.size, 1, none⟩ = some (.string ⟨#[]⟩) := ((K3.out.alloc _).cell 1).trans rfl
  simp only [verdictCells]
  go_wp2_with (go_at_call 11; refine (num_any _ _).mono ?_; rintro e w' ⟨rfl, rfl⟩)
  go_ret
  exact ⟨rfl, B3.out.alloc B3.out.size _⟩

set_option maxRecDepth 100000 in
set_option maxHeartbeats 1000000 in
theorem verified_any (root idx s : ByteArray) (w : World) (hs : s.size ≤ 140737488351232) (hr : root.size ≤ 140737488351232) (hT : Tabs w) :
    Calls Tryd.prog 13 #[.string root, .string idx, .string s] w fun e w' => e = .returned (.bool true) ∧ Below w.heap.size w w' := by
  have HT : Hid (Tabs w) := hT
  clear hT
  go_enter Tryd.func13, Tryd.ntmps13
  go_wp2_with fail
  refine (pVerify_any root idx s w hs hr HT.out).mono ?_
  rintro e w1 ⟨hb1, rfl⟩
  obtain ⟨n, l, m, hv⟩ : ∃ n l m, verdict root.data.toList idx.data.toList s.data.toList = (n, l, m) := ⟨_, _, _, rfl⟩
  have HV : Hid (verdict root.data.toList idx.data.toList s.data.toList = (n, l, m)) := hv
  clear hv
  rw [HV.out]
  have B1 : Hid (Below w.heap.size w (w1.alloc (.cells #[.int .i64 (n : Int), .string ⟨l.toArray⟩] 39))) := hb1.alloc hb1.size _
  have K1 : Hid (Blk (w1.alloc (.cells #[.int .i64 (n : Int), .string ⟨l.toArray⟩] 39)) w1.heap.size 39 #[.int .i64 (n : Int), .string ⟨l.toArray⟩]) := Blk.new _ _ _
  clear hb1
  simp only [verdictCells]
  go_wp2_with fail
  generalize w1.alloc (.cells #[.int .i64 (n : Int), .string ⟨l.toArray⟩] 39) = w2 at *
  refine (Verify_any root idx s w2 hs hr).mono ?_
  rintro e w3 ⟨hb3, rfl⟩
  rw [HV.out]
  have B3 : Hid (Below w.heap.size w w3) := below_then' B1.out hb3 B1.out.size
  have K3 : Hid (Blk w3 w1.heap.size 39 #[.int .i64 (n : Int), .string ⟨l.toArray⟩]) := K1.out.below hb3 K1.out.lt
  clear hb3 B1 K1
  have e0 : (w3.alloc (.cells #[.int .i64 (n : Int), .string ⟨l.toArray⟩] 39)).cell? ⟨w1.heap.size, 0, none⟩ = some (.int .i64 (n : Int)) := ((K3.out.alloc _).cell 0).trans rfl
  have e1 : (w3.alloc (.cells #[.int .i64 (n : Int), .string ⟨l.toArray⟩] 39)).cell? ⟨w1.heap.size, 1, none⟩ = some (.string ⟨l.toArray⟩) := ((K3.out.alloc _).cell 1).trans rfl
  simp only [verdictCells]
  go_wp2_with (go_at_call 11; refine (num_any _ _).mono ?_; rintro e w' ⟨rfl, rfl⟩)
  go_ret
  exact ⟨rfl, B3.out.alloc B3.out.size _⟩

set_option maxRecDepth 100000 in
set_option maxHeartbeats 1000000 in
theorem Proofs_any (root : ByteArray) (k : Int) (idx s : ByteArray) (w : World) (hs : s.size ≤ 140737488351232) (hr : root.size ≤ 140737488351232) (hT : Tabs w) :
    Calls Tryd.prog 4 #[.string root, .int .i64 k, .string idx, .string s] w fun e w' => e = .returned (.bool true) ∧ Below w.heap.size w w' := by
  have HT : Hid (Tabs w) := hT
  clear hT
  go_enter Tryd.func4, Tryd.ntmps4
  go_wp2_with fail
  refine (looked_any w HT.out).mono ?_
  rintro e w1 ⟨rfl, hb1⟩
  have B1 : Hid (Below w.heap.size w w1) := hb1
  clear hb1
  go_wp2_with fail
  refine (verified_any root idx s w1 hs hr (HT.out.below B1.out (Nat.le_refl _))).mono ?_
  rintro e w2 ⟨rfl, hb2⟩
  have B2 : Hid (Below w.heap.size w w2) := below_then' B1.out hb2 B1.out.size
  clear hb2 B1
  by_cases h : (1 ≤ k ∧ k ≤ 32) ∧ idx.size = 32
  · obtain ⟨⟨h1, h2⟩, h3⟩ := h
    obtain ⟨n, rfl⟩ := Int.eq_ofNat_of_zero_le (show 0 ≤ k from by omega)
    have hn1 : 1 ≤ n := by omega
    have hn2 : n ≤ 32 := by omega
    go_wp2_with fail
    refine (Root_any n idx s w2 hs hn1 hn2 h3).mono ?_
    rintro e w3 ⟨hb3, rfl⟩
    have B3 : Hid (Below w.heap.size w w3) := below_then' B2.out hb3 B2.out.size
    have hrl : (rootOf n idx.data.toList s.data.toList).length ≤ 32 := by
      unfold rootOf
      split
      · simp
      · rw [PW.root, dg_length _ _ hn2]; exact hn2
    clear hb3 B2
    generalize rootOf n idx.data.toList s.data.toList = R at *
    go_wp2_with fail
    refine (verified_any ⟨R.toArray⟩ idx s w3 hs (by show R.length ≤ _; omega) (HT.out.below B3.out (Nat.le_refl _))).mono ?_
    rintro e w4 ⟨rfl, hb4⟩
    have B4 : Hid (Below w.heap.size w w4) := below_then' B3.out hb4 B3.out.size
    clear hb4 B3
    go_wp2
    go_ret
    exact ⟨rfl, B4.out⟩
  · by_cases h1 : 1 ≤ k
    · by_cases h2 : k ≤ 32
      · have h3 : ((idx.size : Int) == 32) = false := by rw [beq_eq_false_iff_ne]; omega
        have Hh := h
        clear h
        go_wp2
        go_ret
        exact ⟨rfl, B2.out⟩
      · clear h
        go_wp2
        go_ret
        exact ⟨rfl, B2.out⟩
    · clear h
      go_wp2
      go_ret
      exact ⟨rfl, B2.out⟩
end Go.Proofs.YtghpcgagijhlaaaDoor
